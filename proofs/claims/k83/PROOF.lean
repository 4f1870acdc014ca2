import PyProof.Rows.All
import Wide.All
import OpenK.AllK
import Wide.FinOn
import Lean
import PyProof.EqAt
import PyProof.EqKinds
import PyProof.TupleCall
import PySem.SetOps
import PyProof.SetScanFacts
import PyProof.Rows.SetFrom
import PyProof.SetRoads
import PyProof.WalksMore
import PyProof.EnumMake
import PyProof.EnumFor
import PyProof.P3In
import PyProof.Rows.Range3
import PyProof.ZipIter
import PyProof.TupleKey
import PyProof.DictKinds
import PyProof.Rows.SumAny
import PyProof.Rows.SortRev
import PyProof.Rows.SeqMore
import PyProof.ReprRoads
import PyProof.ReprText
import PyProof.ReprBulk
import PyProof.Rows.AssignMoreSeq
import PyProof.DictItems
import PyProof.DictItemsLoops
import KE.KPairComp
import PyProof.Rows.StrJoin2
import PyProof.Rows.StrNews
import PyProof.StrBlock
import KE.KTryMore
import PyProof.NsDelKeeps
import PyProof.ExcArgsOwn
import PyProof.IsiBase
import KE.KIsAll
import KE.KMinKey
import KE.KLam
import PyProof.AttrMissSeq
import KE.KDictOf
import PySem.Challenge.RW_manyleaves_k83_no_texts_of_webs
set_option maxHeartbeats 8000000
local macro_rules | `(tactic| omega) => `(tactic| first | lia | omega +splitDisjunctions)
local macro_rules | `(∅) => `(by omega)
local macro_rules | `(⋯) => `(List (Int × Int))
local macro_rules | `(~~~$x) => `(by simpa using $x)
open List renaming length_map->aa,mem_singleton->ag,mem_append->aj,map_cons->ap,length_append->aq,getElem?_eq_some_iff->au,getElem?_eq_getElem->aA,size_toArray->aB,map_append->aC,length_cons->aD,mem_of_getElem?->aE,getElem?_map->aH,mem_cons_of_mem->aL,mem_cons->aQ,mem_cons_self->aR,length_take->aT,mem_append_right->bj,append_assoc->bn,take_append_drop->bq,mem_map->bx,getElem?_append_right->bA,extract_eq_take_drop->bD,length_nil->bF,take_length->bH,all_eq_true->bI,getElem?_append_left->bK,cons_append->bL,pairwise_singleton->bN,zip->bP,mem_range->bQ,Nodup->bR,pairwise_append->bT,map_map->bU,take_of_length_le->bV,mem_iff_getElem?->bY,take_succ->bZ,length_singleton->cb,nil_append->cj,append_nil->ck,getElem?_set_self->cm,getElem?_eq_none->cn,not_mem_nil->cq,getElem?_set_ne->cw,map_nil->cC,replicate_succ->cE,perm_append_comm->cH,take_zero->cI,pairwise_iff_getElem->cJ,pairwise_map->cM,mem_map_of_mem->cP,length->cQ,any_eq_true->cS,drop_of_length_le->cV,zip_cons_cons->cX,foldl_cons->df,take_add_one->di,ext_getElem?->dj,drop_zero->dr,drop_eq_getElem_cons->dt,length_drop->dy,append_inj'->dz,range->dE,getElem?_take_of_lt->dF,length_set->dM,find?_cons->dN,any_cons->dO,reverse_cons->dW,flatten_cons->dX,length_replicate->eg,sum_cons->eJ,dropLast_concat_getLast->eM,nodup_cons->eQ,map_congr_left->eR,length_pos_iff->eS,getElem_of_mem->eT,filterMap_cons->eU,getD_eq_getElem?_getD->fc,getElem?_drop->fg,getElem?_zip_eq_some->fj,nodup_append->ft,count_append->fu,map_take->fB,getElem?_cons_succ->fD,replicate_succ'->fR,mem_of_mem_take->fS,mem_append_left->fT,length_reverse->fY,drop_succ_cons->fZ,take_sublist->gw,getElem?_inj->gz,foldl->gB,take_append_of_le_length->gH,map_snd_zip->gI,map_fst_zip->gJ,getElem_mem->gK,drop_append_of_le_length->gL,of_mem_zip->g8,map->iw,getElem?_replicate->iy,getElem?_cons_zero->iz,sum_replicate_nat->iG,drop_eq_nil_of_le->iH,pairwise_reverse->iQ,length_filter_le->iR,eq_nil_or_concat->iS,concat_eq_append->iT,mem_of_mem_drop->i6,length_dropLast->i7,take_succ_cons->je,sum_append_nat->jf,length_flatten->jg,getElem?_range->jh,filter_eq_self->ji,zip_nil_right->jw,mem_filterMap->jx,map_replicate->jy,count_flatten->jz,zip_nil_left->jD,reverse_perm->jE,length_range->jF,drop_sublist->jG,mem_flatten->jR,mem_filter->jV
open PySem.W renaming Frag->ae,mg_of->aJ,findIn->aS,nsIn->bb,mg_none_of->bf,mroIn->bC,kia_one->cg,clsIn->cr,fnOf->dq,hideAll_get->ek,hideAll->fE,keepIn->fN,codeIn->fO,methodObj->gg,instObj->gD,OpenLaw->gE,exmOne->gO,cellsFrom_some->ij,of_hideAll->iJ,callWith_K->iK,kitx_list->iU,kitx_dict->iV,looks_findIn->jO
open PySem renaming wpAny_bind->af,wpAny_pure->aK,boot_len->bG,wpAny_mono->bO,wpAny_holding->ce,wpAny_newObj_type->cR,wpAny_typeNameOfWhole_keyiter->cY,wpAny_Call_Name_kw->dh,wpAny_passesOwn->dm,wpAny_truthy_bool->du,mem_of_lookup->dv,wpAny_typeNameOf_keyiter->dQ,wpAny_comprehension_free->dR,wpAny_standAt->dY,wpAny_execs_nil->dZ,wpAny_call_entry->eY,call_meets->fh,wpAny_dictEntries->fK,wpAny_pyNext_list_item->fV,wpAny_loadPart'->gf,Addr->gq,wpAny_newList->gN,wpAny_assign_Name->hJ,wpAny_execs_cons->io,wpAny_specialOf->iA,wpAny_dictEpoch->iB,wpAny_load->ja,wpAny_Name->jb,wpAny_callSpecial?_slot->jk,wpAny_attempt->jl,seq_tuple_add->jm,call->jo,wpAny_typeOf->jH,wpAny_pyNext_list_end->jI,wpAny_pyIter_listiter->jJ,wpAny_isTrue_Compare1->jK,wpAny_isOneOf_keyiter->jL,concat_meets->jM,call_meetsIn->jN,wpAny_newFunctionEnv->jS,wpAny_loadName_local->jT,wpAny_pyIter_list->jW,wpAny_loadPart_at->jX,slot_list_getitem->jY
open PyProof.Rows renaming wpS_pure->ah,wpS_bind->ai,wpS_forRange->bX,callWith_type1->cp,boot_isinstance->cG,split_le->cO,wpS_mono->cW,boot_tuple->dw,wpS_modify->dS,boot_sorted->eu,boot_str->fA,wpS_get->fI,split_pos->gG,setArr->gY,mirror->gZ,lt_int->g6,bubble->g7,mirror_perm->iF,boot_range->jc,boot_max->jt,boot_repr->jP,entry_proto_collect'->jU,slot_str_getitem->jZ
open Nat renaming le_refl->ak,le_trans->aM,ne_of_lt->aY,lt_of_lt_of_le->aZ,zero_le->bi,add_le_add->b8,lt_or_ge->cf,lt_irrefl->cB,zero_add->dI,lt_trans->dJ,le_of_lt->dL,succ_le_succ->gU,le_add_left->ie,max_le->iu,succ_mul->iX,ne_of_gt->iY,le_of_eq->iZ,le_of_ble_eq_true->i5,pow_le_pow_right->jd,mul_le_mul_left->ju,log2_lt->jv,lt_succ_of_lt->jQ
open PySem.Heap renaming get?_push_of_some->ao,lt_size->aF,get?_push_size->aO,SameBut->dA,get?_update_other->fJ,get?_update_self->fP,size_push->ik,FlyingW->iM,get?_push_ne->jC
open PySem.Value renaming type->aG,bool->aU,ref->bd,builtin->b5,int->cu,none->cA,str->fL,notImplemented->iL,isInt_shape->jp
open Option.some renaming inj->aI
open Bool renaming false_ne_true->aN,false_eq_true->aW,and_eq_true->bu,not_true->eN,eq_iff_iff->eV,false_and->fk,or_eq_false_iff->fU,true_and->gk,and_eq_true_iff->i9
open PyProof.Rows.KeyOrd renaming kle_of_klt->aP,kle_trans->aX,kle_refl->ci,kle_antisymm->iO
open Int renaming toNat_of_nonneg->aV,emod_lt_of_pos->bM,emod_nonneg->b9,toNat_natCast->cN,toNat->cU,zero_add->i8
open List.cons renaming inj->ba
open Array renaming toList_append->bh,toList_push->bo,getElem?_toList->bp,length_toList->bz,getElem?_eq_getElem->bJ,toList_extract->bS,getElem?_eq_none->b7,toList_reverse->ei,size_extract->fe,size_push->fM,toArray_toList->fQ,ext'->gv,perm_iff_toList_perm->hG,toList->iI,append_assoc->jj
open PySem.PassesOwn renaming never->br
open PySem.NameKind renaming free->bB,cell->b6
open Sum renaming inl->bE,inr->gC
open ForInStep renaming yield->bW,done->eO
open PySem.PyData renaming int->cz,shown_le_bulk->iD
open False renaming elim->cD
open True renaming intro->cF
open Option renaming map_some->cK,isSome_iff_exists->cL,map_eq_some_iff->dP,isSome_map->gh,none->iP
open PySem.ClassData renaming mk->cT
open PySem.F renaming slot_dict_keyiterator_next->cZ,args_tuple_add_2->ff,entry_tuple_add->fm,slot_tuple_add->fv,plainAttrs_str->fw,slot_dict_get->fF,args_str_split_2->gF,slot_dict_delitem->gQ,entry_str_split->gR,args_dict_keyiterator_next_1->gW,slot_str_split->hU,plain_list_iadd->hX,plainAttrs_list->ia,entry_dict_keyiterator_next->ib,args_dict_get_2->ic,entry_dict_get->il,typeOf_object_class->jr
open PySem.Data renaming dict->db,cls->fz
open Classical renaming byContradiction->dg
open PySem.Paired renaming length->dH
open PySem.Heap.SameBut renaming update->dU
open PyProof.Rows.SortSt renaming mk'->eI
open PySem.Calls renaming spliced_cons->eZ,spliced_nil->fq,callWith_builtin->fG,Name_function_global->gX,evalArgs_plain->iN,call_len_list->iW
open Ne renaming symm->fb
open PySem.Builtin.Dict_items renaming ownsTuple->fH
open PySem.StrLaws renaming split_free->fW,join_split->fX
open List.Pairwise renaming imp_of_mem->gi,and->ii
open PySem.Builtin.Range renaming rangeSize->gm,small->gS
open List.Perm renaming eq_of_pairwise->gM,append_left->ig
open PySem.W.OpenRow renaming toRowW->gP
open PySem.AutoSeq1 renaming sub_tuple_tuple->gT
open Nat.succ renaming inj->im
open PySem.SeqAt.EqAt renaming str_int->ip,int_str->iq,int_int->ir
open PySem.W.OpenLaw renaming row->iC
open PySem.Around renaming under_plainId->iE
open PySem.SeqAt renaming EqAt->jq
open PySem.Code renaming quiet_builtin->js
open PySem.Txt renaming join->jA
open PySem.Obj renaming data_mapFields->jB
set_option Elab.async false
set_option linter.all false
set_option maxRecDepth 100000
set_option maxHeartbeats 8000000
set_option compiler.extract_closed false
section
set_option Elab.async false
set_option linter.all false
set_option maxRecDepth 100000
set_option maxHeartbeats 4000000
namespace L2
open PySem
def V5 (s:Stmt):Arguments:=match s with
 | .FunctionDef _ a _ _ _ _ _ _ _ _=>a
 | _=>{posonlyargs:=[],args:=[],vararg:=none,kwonlyargs:=[],kw_defaults:=[],kwarg:=none,defaults:=[]}
def T3 (s:Stmt):List Stmt:=match s with
 | .FunctionDef _ _ b _ _ _ _ _ _ _=>b
 | _=>[]
def B1 (s:Stmt):Scope:=match s with
 | .FunctionDef _ _ _ _ _ _ sc _ _ _=>sc
 | _=>{kind:=.function,names:=[],isGenerator:=false,isCoroutine:=false}
end L2
namespace K83
open PySem L2
def top (i:Nat):Stmt:=PySem.Challenge.pw_manyleaves_k83_no_texts_of_webs.main.body.getD i (.Pass ⟨0,0,0,0⟩)
def vs (s:String)(t:Tok):Value:=.str (Str.ofString s) t
def vi (i:Int)(t:Tok):Value:=.int i t
def vr (a:Addr):Value:=.ref a
def vn:Value:=.none
def fcp:Tok->Value:=vs "/claim/cut.py"
def de (P:Params)(s:String)(t:Tok)(v:Value):DictEntry:=⟨PyData.keyHash P (Str.ofString s),.str (Str.ofString s) t,v⟩
def ot (a:Array Value)(l:Array (Option Value)):Obj:=⟨.type "tuple",none,.seq a,l⟩
def oc (a:Array Value)(l:Array (Option Value)):Obj:=⟨.type "code",none,.fields a,l⟩
def fo (n:String)(i:Nat)(g:Addr)(cl:List (Str×Addr))(a b c d:Value)(e:Option Addr)(f h:Value)(k:Addr):Obj:=⟨.type "function",none,.func ⟨Str.ofString n,Str.ofString n,V5 (top i),.stmts (T3 (top i)),B1 (top i),g,cl,a,b,c,d,e,f,h,k⟩,#[]⟩
def heapK:Params->ae:=λP=>(nat_lit 1,Obj.mk (aG "dict") none (db #[de P "builtins" 162 (vr 4),de P "__main__" 163 (vr 5)] 2) #[])::(nat_lit 2,Obj.mk vn none (db #[]) #[])::(nat_lit 3,Obj.mk (aG "dict") none (db #[de P "__name__" 165 (vs "law_manyleaves_k83_no_texts_of_webs" 467),de P "__doc__" 166 vn,de P "__package__" 167 vn,de P "__loader__" 168 (b5 "__main__.__loader__#opaque"),de P "__spec__" 169 vn,de P "__annotations__" 170 (vr 6),de P "__builtins__" 171 (vr 4),de P "__file__" 173 (fcp 172),de P "__cached__" 174 vn,de P "LeafError" 206 (vr 24),de P "NoWeb" 222 (vr 37),de P "TooGreat" 238 (vr 49),de P "NoSet" 254 (vr 61),de P "Taken" 270 (vr 73),de P "TooMany" 286 (vr 85),de P "NoTie" 302 (vr 97),de P "Apart" 318 (vr 109),de P "NoText" 334 (vr 121),de P "is_int" 343 (vr 130),de P "is_between" 352 (vr 137),de P "LEAST_PLACES" 356 (vi 3 355),de P "MOST_PLACES" 358 (vi 60 357),de P "MOST_TIES" 360 (vi 200 359),de P "is_pair" 367 (vr 144),de P "is_tie" 377 (vr 151),de P "is_rising" 385 (vr 158),de P "is_tie_row" 394 (vr 165),de P "is_web" 403 (vr 172),de P "neighbour_rows" 409 (vr 177),de P "piece_from" 422 (vr 184),de P "pieces" 428 (vr 189),de P "in_one_piece" 435 (vr 196),de P "numbers_below" 443 (vr 201),de P "numbers_in" 449 (vr 206),de P "numbers_behind" 460 (vr 213),de P "read_web" 466 (vr 218),de P "_law_mixed" 477 (vr 225),de P "_law_deck" 483 (vr 230),de P "_law_next" 490 (vr 237),de P "_law_turn" 496 (vr 242),de P "_law_web" 502 (vr 247),de P "_law_near" 508 (vr 252),de P "_law_reach" 520 (vr 259),de P "_law_hang" 528 (vr 266),de P "_law_number" 537 (vr 273),de P "_law_refused" 547 (vr 280),de P "_law_read_web" 560 (vr 287),de P "_law_written" 570 (vr 294),de P "_law_bent_lines" 576 (vr 299),de P "_law_bent_signs" 587 (vr 306),de P "_law_crowded" 593 (vr 311),de P "_law_judged" 602 (vr 318),de P "law" 616 (vr 325)] 53) #[])::(nat_lit 15,ot (#[aG "ValueError"]) #[])::(nat_lit 22,ot (#[]) #[])::(nat_lit 23,Obj.mk (aG "dict") none (db #[de P "__module__" 196 (vs "manyleaves.errors" 187),de P "__firstlineno__" 200 (vi 2 199),de P "__static_attributes__" 201 (vr 22),de P "__weakref__" 203 (vr 25),de P "__doc__" 204 vn] 3) #[])::(nat_lit 24,Obj.mk (aG "type") none (fz (cT (Str.ofString "LeafError") [aG "ValueError"] [vr 24,aG "ValueError",aG "Exception",aG "BaseException",aG "object"] 23 (Str.ofString "LeafError") true [] [vr 37,vr 49,vr 61,vr 73,vr 85,vr 97,vr 109,vr 121] false none false)) #[some (vr 15),none,some (vs "LeafError" 189),some (vs "LeafError" 197),some (b5 "ValueError.__new__"),some (aU true)])::(nat_lit 25,Obj.mk (aG "getset_descriptor") none (Data.fields #[vs "__weakref__" 202,vr 24,b5 "ExceptionGroup.__weakref__",vn]) #[])::(nat_lit 28,ot (#[vr 24]) #[])::(nat_lit 35,ot (#[]) #[])::(nat_lit 36,Obj.mk (aG "dict") none (db #[de P "__module__" 214 (vs "manyleaves.errors" 187),de P "__firstlineno__" 218 (vi 4 217),de P "__static_attributes__" 219 (vr 35),de P "__doc__" 220 vn] 2) #[])::(nat_lit 37,Obj.mk (aG "type") none (fz (cT (Str.ofString "NoWeb") [vr 24] [vr 37,vr 24,aG "ValueError",aG "Exception",aG "BaseException",aG "object"] 36 (Str.ofString "NoWeb") true [] [] false none false)) #[some (vr 28),none,some (vs "NoWeb" 207),some (vs "NoWeb" 215),some (b5 "ValueError.__new__"),some (aU true)])::(nat_lit 40,ot (#[vr 24]) #[])::(nat_lit 47,ot (#[]) #[])::(nat_lit 48,Obj.mk (aG "dict") none (db #[de P "__module__" 230 (vs "manyleaves.errors" 187),de P "__firstlineno__" 234 (vi 6 233),de P "__static_attributes__" 235 (vr 47),de P "__doc__" 236 vn] 2) #[])::(nat_lit 49,Obj.mk (aG "type") none (fz (cT (Str.ofString "TooGreat") [vr 24] [vr 49,vr 24,aG "ValueError",aG "Exception",aG "BaseException",aG "object"] 48 (Str.ofString "TooGreat") true [] [] false none false)) #[some (vr 40),none,some (vs "TooGreat" 223),some (vs "TooGreat" 231),some (b5 "ValueError.__new__"),some (aU true)])::(nat_lit 52,ot (#[vr 24]) #[])::(nat_lit 59,ot (#[]) #[])::(nat_lit 60,Obj.mk (aG "dict") none (db #[de P "__module__" 246 (vs "manyleaves.errors" 187),de P "__firstlineno__" 250 (vi 8 249),de P "__static_attributes__" 251 (vr 59),de P "__doc__" 252 vn] 2) #[])::(nat_lit 61,Obj.mk (aG "type") none (fz (cT (Str.ofString "NoSet") [vr 24] [vr 61,vr 24,aG "ValueError",aG "Exception",aG "BaseException",aG "object"] 60 (Str.ofString "NoSet") true [] [] false none false)) #[some (vr 52),none,some (vs "NoSet" 239),some (vs "NoSet" 247),some (b5 "ValueError.__new__"),some (aU true)])::(nat_lit 64,ot (#[vr 24]) #[])::(nat_lit 71,ot (#[]) #[])::(nat_lit 72,Obj.mk (aG "dict") none (db #[de P "__module__" 262 (vs "manyleaves.errors" 187),de P "__firstlineno__" 266 (vi 10 265),de P "__static_attributes__" 267 (vr 71),de P "__doc__" 268 vn] 2) #[])::(nat_lit 73,Obj.mk (aG "type") none (fz (cT (Str.ofString "Taken") [vr 24] [vr 73,vr 24,aG "ValueError",aG "Exception",aG "BaseException",aG "object"] 72 (Str.ofString "Taken") true [] [] false none false)) #[some (vr 64),none,some (vs "Taken" 255),some (vs "Taken" 263),some (b5 "ValueError.__new__"),some (aU true)])::(nat_lit 76,ot (#[vr 24]) #[])::(nat_lit 83,ot (#[]) #[])::(nat_lit 84,Obj.mk (aG "dict") none (db #[de P "__module__" 278 (vs "manyleaves.errors" 187),de P "__firstlineno__" 282 (vi 12 281),de P "__static_attributes__" 283 (vr 83),de P "__doc__" 284 vn] 2) #[])::(nat_lit 85,Obj.mk (aG "type") none (fz (cT (Str.ofString "TooMany") [vr 24] [vr 85,vr 24,aG "ValueError",aG "Exception",aG "BaseException",aG "object"] 84 (Str.ofString "TooMany") true [] [] false none false)) #[some (vr 76),none,some (vs "TooMany" 271),some (vs "TooMany" 279),some (b5 "ValueError.__new__"),some (aU true)])::(nat_lit 88,ot (#[vr 24]) #[])::(nat_lit 95,ot (#[]) #[])::(nat_lit 96,Obj.mk (aG "dict") none (db #[de P "__module__" 294 (vs "manyleaves.errors" 187),de P "__firstlineno__" 298 (vi 14 297),de P "__static_attributes__" 299 (vr 95),de P "__doc__" 300 vn] 2) #[])::(nat_lit 97,Obj.mk (aG "type") none (fz (cT (Str.ofString "NoTie") [vr 24] [vr 97,vr 24,aG "ValueError",aG "Exception",aG "BaseException",aG "object"] 96 (Str.ofString "NoTie") true [] [] false none false)) #[some (vr 88),none,some (vs "NoTie" 287),some (vs "NoTie" 295),some (b5 "ValueError.__new__"),some (aU true)])::(nat_lit 100,ot (#[vr 24]) #[])::(nat_lit 107,ot (#[]) #[])::(nat_lit 108,Obj.mk (aG "dict") none (db #[de P "__module__" 310 (vs "manyleaves.errors" 187),de P "__firstlineno__" 314 (vi 16 313),de P "__static_attributes__" 315 (vr 107),de P "__doc__" 316 vn] 2) #[])::(nat_lit 109,Obj.mk (aG "type") none (fz (cT (Str.ofString "Apart") [vr 24] [vr 109,vr 24,aG "ValueError",aG "Exception",aG "BaseException",aG "object"] 108 (Str.ofString "Apart") true [] [] false none false)) #[some (vr 100),none,some (vs "Apart" 303),some (vs "Apart" 311),some (b5 "ValueError.__new__"),some (aU true)])::(nat_lit 112,ot (#[vr 24]) #[])::(nat_lit 119,ot (#[]) #[])::(nat_lit 120,Obj.mk (aG "dict") none (db #[de P "__module__" 326 (vs "manyleaves.errors" 187),de P "__firstlineno__" 330 (vi 18 329),de P "__static_attributes__" 331 (vr 119),de P "__doc__" 332 vn] 2) #[])::(nat_lit 121,Obj.mk (aG "type") none (fz (cT (Str.ofString "NoText") [vr 24] [vr 121,vr 24,aG "ValueError",aG "Exception",aG "BaseException",aG "object"] 120 (Str.ofString "NoText") true [] [] false none false)) #[some (vr 112),none,some (vs "NoText" 319),some (vs "NoText" 327),some (b5 "ValueError.__new__"),some (aU true)])::(nat_lit 124,ot (#[]) #[])::(nat_lit 126,ot (#[vs "thing" 340]) #[])::(nat_lit 127,ot (#[]) #[])::(nat_lit 129,oc (#[vs "is_int" 337,vs "is_int" 338,fcp 339,vi 21 0,vi 1 0,vi 0 0,vi 0 0,vi 3 0,vr 124,aU true,vi 181 0,vr 125,vn,vr 126,vr 127,vr 128,vi 341 0,vi 21 0,fcp 342]) #[])::(nat_lit 130,fo "is_int" 11 3 [] vn vn vn (vs "manyleaves.ints" 335) none (vr 129) vn 0)::(nat_lit 131,ot (#[]) #[])::(nat_lit 133,ot (#[vs "thing" 347,vs "least" 348,vs "most" 349]) #[])::(nat_lit 134,ot (#[]) #[])::(nat_lit 136,oc (#[vs "is_between" 344,vs "is_between" 345,fcp 346,vi 23 0,vi 3 0,vi 0 0,vi 0 0,vi 3 0,vr 131,aU true,vi 181 0,vr 132,vn,vr 133,vr 134,vr 135,vi 350 0,vi 23 0,fcp 351]) #[])::(nat_lit 137,fo "is_between" 12 3 [] vn vn vn (vs "manyleaves.ints" 335) none (vr 136) vn 0)::(nat_lit 138,ot (#[]) #[])::(nat_lit 140,ot (#[vs "thing" 364]) #[])::(nat_lit 141,ot (#[]) #[])::(nat_lit 143,oc (#[vs "is_pair" 361,vs "is_pair" 362,fcp 363,vi 29 0,vi 1 0,vi 0 0,vi 0 0,vi 3 0,vr 138,aU true,vi 181 0,vr 139,vn,vr 140,vr 141,vr 142,vi 365 0,vi 29 0,fcp 366]) #[])::(nat_lit 144,fo "is_pair" 17 3 [] vn vn vn (vs "manyleaves.webs" 353) none (vr 143) vn 0)::(nat_lit 145,ot (#[]) #[])::(nat_lit 147,ot (#[vs "thing" 371,vs "places" 372,vs "a" 373,vs "b" 374]) #[])::(nat_lit 148,ot (#[]) #[])::(nat_lit 150,oc (#[vs "is_tie" 368,vs "is_tie" 369,fcp 370,vi 31 0,vi 2 0,vi 0 0,vi 0 0,vi 3 0,vr 145,aU true,vi 181 0,vr 146,vn,vr 147,vr 148,vr 149,vi 375 0,vi 31 0,fcp 376]) #[])::(nat_lit 151,fo "is_tie" 18 3 [] vn vn vn (vs "manyleaves.webs" 353) none (vr 150) vn 0)::(nat_lit 152,ot (#[]) #[])::(nat_lit 154,ot (#[vs "items" 381,vs "at" 382]) #[])::(nat_lit 155,ot (#[]) #[])::(nat_lit 157,oc (#[vs "is_rising" 378,vs "is_rising" 379,fcp 380,vi 36 0,vi 1 0,vi 0 0,vi 0 0,vi 3 0,vr 152,aU true,vi 181 0,vr 153,vn,vr 154,vr 155,vr 156,vi 383 0,vi 36 0,fcp 384]) #[])::(nat_lit 158,fo "is_rising" 19 3 [] vn vn vn (vs "manyleaves.webs" 353) none (vr 157) vn 0)::(nat_lit 159,ot (#[]) #[])::(nat_lit 161,ot (#[vs "thing" 389,vs "places" 390,vs "item" 391]) #[])::(nat_lit 162,ot (#[]) #[])::(nat_lit 164,oc (#[vs "is_tie_row" 386,vs "is_tie_row" 387,fcp 388,vi 41 0,vi 2 0,vi 0 0,vi 0 0,vi 3 0,vr 159,aU true,vi 181 0,vr 160,vn,vr 161,vr 162,vr 163,vi 392 0,vi 41 0,fcp 393]) #[])::(nat_lit 165,fo "is_tie_row" 20 3 [] vn vn vn (vs "manyleaves.webs" 353) none (vr 164) vn 0)::(nat_lit 166,ot (#[]) #[])::(nat_lit 168,ot (#[vs "thing" 398,vs "places" 399,vs "ties" 400]) #[])::(nat_lit 169,ot (#[]) #[])::(nat_lit 171,oc (#[vs "is_web" 395,vs "is_web" 396,fcp 397,vi 48 0,vi 1 0,vi 0 0,vi 0 0,vi 3 0,vr 166,aU true,vi 181 0,vr 167,vn,vr 168,vr 169,vr 170,vi 401 0,vi 48 0,fcp 402]) #[])::(nat_lit 172,fo "is_web" 21 3 [] vn vn vn (vs "manyleaves.webs" 353) none (vr 171) vn 0)::(nat_lit 173,ot (#[]) #[])::(nat_lit 176,oc (#[vs "neighbour_rows" 404,vs "neighbour_rows" 405,fcp 406,vi 57 0,vi 1 0,vi 0 0,vi 0 0,vi 3 0,vr 173,aU true,vi 181 0,vr 174,vn,vn,vn,vr 175,vi 407 0,vi 57 0,fcp 408]) #[])::(nat_lit 177,fo "neighbour_rows" 22 3 [] vn vn vn (vs "manyleaves.webs" 353) none (vr 176) vn 0)::(nat_lit 178,ot (#[]) #[])::(nat_lit 180,ot (#[vs "rows" 413,vs "among" 414,vs "start" 415,vs "met" 416,vs "waiting" 417,vs "place" 418,vs "other" 419]) #[])::(nat_lit 181,ot (#[]) #[])::(nat_lit 183,oc (#[vs "piece_from" 410,vs "piece_from" 411,fcp 412,vi 64 0,vi 3 0,vi 0 0,vi 0 0,vi 3 0,vr 178,aU true,vi 181 0,vr 179,vn,vr 180,vr 181,vr 182,vi 420 0,vi 64 0,fcp 421]) #[])::(nat_lit 184,fo "piece_from" 23 3 [] vn vn vn (vs "manyleaves.webs" 353) none (vr 183) vn 0)::(nat_lit 185,ot (#[]) #[])::(nat_lit 188,oc (#[vs "pieces" 423,vs "pieces" 424,fcp 425,vi 74 0,vi 2 0,vi 0 0,vi 0 0,vi 3 0,vr 185,aU true,vi 181 0,vr 186,vn,vn,vn,vr 187,vi 426 0,vi 74 0,fcp 427]) #[])::(nat_lit 189,fo "pieces" 24 3 [] vn vn vn (vs "manyleaves.webs" 353) none (vr 188) vn 0)::(nat_lit 190,ot (#[]) #[])::(nat_lit 192,ot (#[vs "web" 432]) #[])::(nat_lit 193,ot (#[]) #[])::(nat_lit 195,oc (#[vs "in_one_piece" 429,vs "in_one_piece" 430,fcp 431,vi 85 0,vi 1 0,vi 0 0,vi 0 0,vi 3 0,vr 190,aU true,vi 181 0,vr 191,vn,vr 192,vr 193,vr 194,vi 433 0,vi 85 0,fcp 434]) #[])::(nat_lit 196,fo "in_one_piece" 25 3 [] vn vn vn (vs "manyleaves.webs" 353) none (vr 195) vn 0)::(nat_lit 197,ot (#[]) #[])::(nat_lit 200,oc (#[vs "numbers_below" 438,vs "numbers_below" 439,fcp 440,vi 88 0,vi 1 0,vi 0 0,vi 0 0,vi 3 0,vr 197,aU true,vi 181 0,vr 198,vn,vn,vn,vr 199,vi 441 0,vi 88 0,fcp 442]) #[])::(nat_lit 201,fo "numbers_below" 27 3 [] vn vn vn (vs "manyleaves.texts" 436) none (vr 200) vn 0)::(nat_lit 202,ot (#[]) #[])::(nat_lit 205,oc (#[vs "numbers_in" 444,vs "numbers_in" 445,fcp 446,vi 90 0,vi 2 0,vi 0 0,vi 0 0,vi 3 0,vr 202,aU true,vi 181 0,vr 203,vn,vn,vn,vr 204,vi 447 0,vi 90 0,fcp 448]) #[])::(nat_lit 206,fo "numbers_in" 28 3 [] vn vn vn (vs "manyleaves.texts" 436) none (vr 205) vn 0)::(nat_lit 207,ot (#[]) #[])::(nat_lit 209,ot (#[vs "word" 453,vs "line" 454,vs "numbers" 455,vs "first" 456,vs "rest" 457]) #[])::(nat_lit 210,ot (#[]) #[])::(nat_lit 212,oc (#[vs "numbers_behind" 450,vs "numbers_behind" 451,fcp 452,vi 92 0,vi 3 0,vi 0 0,vi 0 0,vi 3 0,vr 207,aU true,vi 181 0,vr 208,vn,vr 209,vr 210,vr 211,vi 458 0,vi 92 0,fcp 459]) #[])::(nat_lit 213,fo "numbers_behind" 29 3 [] vn vn vn (vs "manyleaves.texts" 436) none (vr 212) vn 0)::(nat_lit 214,ot (#[]) #[])::(nat_lit 217,oc (#[vs "read_web" 461,vs "read_web" 462,fcp 463,vi 97 0,vi 1 0,vi 0 0,vi 0 0,vi 3 0,vr 214,aU true,vi 181 0,vr 215,vn,vn,vn,vr 216,vi 464 0,vi 97 0,fcp 465]) #[])::(nat_lit 218,fo "read_web" 30 3 [] vn vn vn (vs "manyleaves.texts" 436) none (vr 217) vn 0)::(nat_lit 219,ot (#[]) #[])::(nat_lit 221,ot (#[vs "_law_cell" 472,vs "_law_k" 473,vs "_law_number_here" 474]) #[])::(nat_lit 222,ot (#[]) #[])::(nat_lit 224,oc (#[vs "_law_mixed" 469,vs "_law_mixed" 470,fcp 471,vi 108 0,vi 2 0,vi 0 0,vi 0 0,vi 3 0,vr 219,aU true,vi 181 0,vr 220,vn,vr 221,vr 222,vr 223,vi 475 0,vi 108 0,fcp 476]) #[])::(nat_lit 225,fo "_law_mixed" 32 3 [] vn vn vn (vs "law_manyleaves_k83_no_texts_of_webs" 467) none (vr 224) vn 0)::(nat_lit 226,ot (#[]) #[])::(nat_lit 229,oc (#[vs "_law_deck" 478,vs "_law_deck" 479,fcp 480,vi 113 0,vi 2 0,vi 0 0,vi 0 0,vi 3 0,vr 226,aU true,vi 181 0,vr 227,vn,vn,vn,vr 228,vi 481 0,vi 113 0,fcp 482]) #[])::(nat_lit 230,fo "_law_deck" 33 3 [] vn vn vn (vs "law_manyleaves_k83_no_texts_of_webs" 467) none (vr 229) vn 0)::(nat_lit 231,ot (#[]) #[])::(nat_lit 233,ot (#[vs "_law_deck_here" 487]) #[])::(nat_lit 234,ot (#[]) #[])::(nat_lit 236,oc (#[vs "_law_next" 484,vs "_law_next" 485,fcp 486,vi 125 0,vi 1 0,vi 0 0,vi 0 0,vi 3 0,vr 231,aU true,vi 181 0,vr 232,vn,vr 233,vr 234,vr 235,vi 488 0,vi 125 0,fcp 489]) #[])::(nat_lit 237,fo "_law_next" 34 3 [] vn vn vn (vs "law_manyleaves_k83_no_texts_of_webs" 467) none (vr 236) vn 0)::(nat_lit 238,ot (#[]) #[])::(nat_lit 241,oc (#[vs "_law_turn" 491,vs "_law_turn" 492,fcp 493,vi 129 0,vi 2 0,vi 0 0,vi 0 0,vi 3 0,vr 238,aU true,vi 181 0,vr 239,vn,vn,vn,vr 240,vi 494 0,vi 129 0,fcp 495]) #[])::(nat_lit 242,fo "_law_turn" 35 3 [] vn vn vn (vs "law_manyleaves_k83_no_texts_of_webs" 467) none (vr 241) vn 0)::(nat_lit 243,ot (#[]) #[])::(nat_lit 246,oc (#[vs "_law_web" 497,vs "_law_web" 498,fcp 499,vi 131 0,vi 3 0,vi 0 0,vi 0 0,vi 3 0,vr 243,aU true,vi 181 0,vr 244,vn,vn,vn,vr 245,vi 500 0,vi 131 0,fcp 501]) #[])::(nat_lit 247,fo "_law_web" 36 3 [] vn vn vn (vs "law_manyleaves_k83_no_texts_of_webs" 467) none (vr 246) vn 0)::(nat_lit 248,ot (#[]) #[])::(nat_lit 251,oc (#[vs "_law_near" 503,vs "_law_near" 504,fcp 505,vi 150 0,vi 1 0,vi 0 0,vi 0 0,vi 3 0,vr 248,aU true,vi 181 0,vr 249,vn,vn,vn,vr 250,vi 506 0,vi 150 0,fcp 507]) #[])::(nat_lit 252,fo "_law_near" 37 3 [] vn vn vn (vs "law_manyleaves_k83_no_texts_of_webs" 467) none (vr 251) vn 0)::(nat_lit 253,ot (#[]) #[])::(nat_lit 255,ot (#[vs "_law_near_here" 512,vs "_law_start" 513,vs "_law_allowed" 514,vs "_law_found" 515,vs "_law_waiting" 516,vs "_law_other" 517]) #[])::(nat_lit 256,ot (#[]) #[])::(nat_lit 258,oc (#[vs "_law_reach" 509,vs "_law_reach" 510,fcp 511,vi 156 0,vi 3 0,vi 0 0,vi 0 0,vi 3 0,vr 253,aU true,vi 181 0,vr 254,vn,vr 255,vr 256,vr 257,vi 518 0,vi 156 0,fcp 519]) #[])::(nat_lit 259,fo "_law_reach" 38 3 [] vn vn vn (vs "law_manyleaves_k83_no_texts_of_webs" 467) none (vr 258) vn 0)::(nat_lit 260,ot (#[]) #[])::(nat_lit 262,ot (#[vs "_law_near_here" 524,vs "_law_places" 525]) #[])::(nat_lit 263,ot (#[]) #[])::(nat_lit 265,oc (#[vs "_law_hang" 521,vs "_law_hang" 522,fcp 523,vi 165 0,vi 2 0,vi 0 0,vi 0 0,vi 3 0,vr 260,aU true,vi 181 0,vr 261,vn,vr 262,vr 263,vr 264,vi 526 0,vi 165 0,fcp 527]) #[])::(nat_lit 266,fo "_law_hang" 39 3 [] vn vn vn (vs "law_manyleaves_k83_no_texts_of_webs" 467) none (vr 265) vn 0)::(nat_lit 267,ot (#[]) #[])::(nat_lit 269,ot (#[vs "_law_word" 532,vs "_law_most" 533,vs "_law_number_here" 534]) #[])::(nat_lit 270,ot (#[]) #[])::(nat_lit 272,oc (#[vs "_law_number" 529,vs "_law_number" 530,fcp 531,vi 167 0,vi 2 0,vi 0 0,vi 0 0,vi 3 0,vr 267,aU true,vi 181 0,vr 268,vn,vr 269,vr 270,vr 271,vi 535 0,vi 167 0,fcp 536]) #[])::(nat_lit 273,fo "_law_number" 40 3 [] vn vn vn (vs "law_manyleaves_k83_no_texts_of_webs" 467) none (vr 272) vn 0)::(nat_lit 274,ot (#[]) #[])::(nat_lit 276,ot (#[vs "_law_call" 541,vs "_law_thing" 542,vs "_law_caught" 543,vs "error" 544]) #[])::(nat_lit 277,ot (#[]) #[])::(nat_lit 279,oc (#[vs "_law_refused" 538,vs "_law_refused" 539,fcp 540,vi 172 0,vi 2 0,vi 0 0,vi 0 0,vi 3 0,vr 274,aU true,vi 181 0,vr 275,vn,vr 276,vr 277,vr 278,vi 545 0,vi 172 0,fcp 546]) #[])::(nat_lit 280,fo "_law_refused" 41 3 [] vn vn vn (vs "law_manyleaves_k83_no_texts_of_webs" 467) none (vr 279) vn 0)::(nat_lit 281,ot (#[]) #[])::(nat_lit 283,ot (#[vs "_law_text" 551,vs "_law_lines" 552,vs "_law_words" 553,vs "_law_places" 554,vs "_law_ties" 555,vs "_law_line" 556,vs "_law_tie" 557]) #[])::(nat_lit 284,ot (#[]) #[])::(nat_lit 286,oc (#[vs "_law_read_web" 548,vs "_law_read_web" 549,fcp 550,vi 181 0,vi 1 0,vi 0 0,vi 0 0,vi 3 0,vr 281,aU true,vi 181 0,vr 282,vn,vr 283,vr 284,vr 285,vi 558 0,vi 181 0,fcp 559]) #[])::(nat_lit 287,fo "_law_read_web" 42 3 [] vn vn vn (vs "law_manyleaves_k83_no_texts_of_webs" 467) none (vr 286) vn 0)::(nat_lit 288,ot (#[]) #[])::(nat_lit 290,ot (#[vs "_law_web_here" 564,vs "_law_text" 565,vs "_law_one" 566,vs "_law_other" 567]) #[])::(nat_lit 291,ot (#[]) #[])::(nat_lit 293,oc (#[vs "_law_written" 561,vs "_law_written" 562,fcp 563,vi 201 0,vi 1 0,vi 0 0,vi 0 0,vi 3 0,vr 288,aU true,vi 181 0,vr 289,vn,vr 290,vr 291,vr 292,vi 568 0,vi 201 0,fcp 569]) #[])::(nat_lit 294,fo "_law_written" 43 3 [] vn vn vn (vs "law_manyleaves_k83_no_texts_of_webs" 467) none (vr 293) vn 0)::(nat_lit 295,ot (#[]) #[])::(nat_lit 298,oc (#[vs "_law_bent_lines" 571,vs "_law_bent_lines" 572,fcp 573,vi 206 0,vi 3 0,vi 0 0,vi 0 0,vi 3 0,vr 295,aU true,vi 181 0,vr 296,vn,vn,vn,vr 297,vi 574 0,vi 206 0,fcp 575]) #[])::(nat_lit 299,fo "_law_bent_lines" 44 3 [] vn vn vn (vs "law_manyleaves_k83_no_texts_of_webs" 467) none (vr 298) vn 0)::(nat_lit 300,ot (#[]) #[])::(nat_lit 302,ot (#[vs "_law_deck_here" 580,vs "_law_text" 581,vs "_law_at" 582,vs "_law_sign" 583,vs "_law_found" 584]) #[])::(nat_lit 303,ot (#[]) #[])::(nat_lit 305,oc (#[vs "_law_bent_signs" 577,vs "_law_bent_signs" 578,fcp 579,vi 222 0,vi 2 0,vi 0 0,vi 0 0,vi 3 0,vr 300,aU true,vi 181 0,vr 301,vn,vr 302,vr 303,vr 304,vi 585 0,vi 222 0,fcp 586]) #[])::(nat_lit 306,fo "_law_bent_signs" 45 3 [] vn vn vn (vs "law_manyleaves_k83_no_texts_of_webs" 467) none (vr 305) vn 0)::(nat_lit 307,ot (#[]) #[])::(nat_lit 310,oc (#[vs "_law_crowded" 588,vs "_law_crowded" 589,fcp 590,vi 227 0,vi 1 0,vi 0 0,vi 0 0,vi 3 0,vr 307,aU true,vi 181 0,vr 308,vn,vn,vn,vr 309,vi 591 0,vi 227 0,fcp 592]) #[])::(nat_lit 311,fo "_law_crowded" 46 3 [] vn vn vn (vs "law_manyleaves_k83_no_texts_of_webs" 467) none (vr 310) vn 0)::(nat_lit 312,ot (#[]) #[])::(nat_lit 314,ot (#[vs "_law_thing" 597,vs "_law_due" 598,vs "_law_before" 599]) #[])::(nat_lit 315,ot (#[]) #[])::(nat_lit 317,oc (#[vs "_law_judged" 594,vs "_law_judged" 595,fcp 596,vi 232 0,vi 1 0,vi 0 0,vi 0 0,vi 3 0,vr 312,aU true,vi 181 0,vr 313,vn,vr 314,vr 315,vr 316,vi 600 0,vi 232 0,fcp 601]) #[])::(nat_lit 318,fo "_law_judged" 47 3 [] vn vn vn (vs "law_manyleaves_k83_no_texts_of_webs" 467) none (vr 317) vn 0)::(nat_lit 319,ot (#[]) #[])::(nat_lit 321,ot (#[vs "_law_script" 606,vs "_law_deck_here" 607,vs "_law_web_here" 608,vs "_law_text" 609,vs "_law_least" 610,vs "_law_most" 611,vs "_law_thing" 612,vs "_law_things" 613]) #[])::(nat_lit 322,ot (#[]) #[])::(nat_lit 324,oc (#[vs "law" 603,vs "law" 604,fcp 605,vi 240 0,vi 1 0,vi 0 0,vi 0 0,vi 3 0,vr 319,aU true,vi 181 0,vr 320,vn,vr 321,vr 322,vr 323,vi 614 0,vi 240 0,fcp 615]) #[])::(nat_lit 325,fo "law" 48 3 [] vn vn vn (vs "law_manyleaves_k83_no_texts_of_webs" 467) none (vr 324) vn 0)::[]
def viewP:Program:={PySem.Challenge.pw_manyleaves_k83_no_texts_of_webs with main:={PySem.Challenge.pw_manyleaves_k83_no_texts_of_webs.main with body:=[top 1,top 2,top 3,top 4,top 5,top 6,top 7,top 8,top 9,top 11,top 12,top 14,top 15,top 16,top 17,top 18,top 19,top 20,top 21,top 22,top 23,top 24,top 25,top 27,top 28,top 29,top 30,top 32,top 33,top 34,top 35,top 36,top 37,top 38,top 39,top 40,top 41,top 42,top 43,top 44,top 45,top 46,top 47,top 48]}}
def addrs:List Addr:=[1,2,3,15,22,23,24,25,28,35,36,37,40,47,48,49,52,59,60,61,64,71,72,73,76,83,84,85,88,95,96,97,100,107,108,109,112,119,120,121,124,126,127,129,130,131,133,134,136,137,138,140,141,143,144,145,147,148,150,151,152,154,155,157,158,159,161,162,164,165,166,168,169,171,172,173,176,177,178,180,181,183,184,185,188,189,190,192,193,195,196,197,200,201,202,205,206,207,209,210,212,213,214,217,218,219,221,222,224,225,226,229,230,231,233,234,236,237,238,241,242,243,246,247,248,251,252,253,255,256,258,259,260,262,263,265,266,267,269,270,272,273,274,276,277,279,280,281,283,284,286,287,288,290,291,293,294,295,298,299,300,302,303,305,306,307,310,311,312,314,315,317,318,319,321,322,324,325]
theorem addr:∀ P,addrs=(heapK P).map (·.1):=λ_=>by kernel_rfl
end K83
section
open PySem PySem.W PyProof.Rows
set_option maxRecDepth 100000 in
set_option maxHeartbeats 0 in
theorem K83.said:PySem.Challenge.rw_manyleaves_k83_no_texts_of_webs.wellSaid=true:=by kernel_rfl
set_option maxRecDepth 100000 in
set_option maxHeartbeats 0 in
theorem K83.left:LeftO (gP (iC PySem.Challenge.rw_manyleaves_k83_no_texts_of_webs)).prog K83.viewP [] (λs=>xlAt K83.viewP [] s && recOk (RowW.records (gP (iC PySem.Challenge.rw_manyleaves_k83_no_texts_of_webs))) s) (Hook.obs (kHook K83.heapK K83.addrs K83.addr)) (Hook.val (kHook K83.heapK K83.addrs K83.addr)) 5950:=by intro w;kernel_rfl
end
end
section
namespace L2
open PySem PySem.Spec PyProof.Rows
abbrev Key:=Sum Int Str
def a2H:Key->Value->Bool
 | .inl k,v=>Value.isInt k v
 | .inr x,v=>Value.isStrOf x v
def b4D (w:World):Key->Int
 | .inl k=>hashInt k
 | .inr x=>hashStr w x
theorem M0:∀ {k:Key} {v:Value},a2H k v=true->(∃ i t,k=bE i/\v=cu i t)\/(∃ x t,k=gC x/\v=fL x t)
 | .inl i,v,h=>by
  obtain⟨t,e⟩:=jp (k:=i) (v:=v) h;exact .inl ⟨i,t,rfl,e⟩
 | .inr x,v,h=>by
  obtain⟨t,e⟩:=Value.isStrOf_shape (x:=x) (v:=v) h;exact .inr ⟨x,t,rfl,e⟩
theorem a6C (i:Int)(t:Tok):a2H (.inl i) (.int i t)=true:=by simp[a2H,Value.isInt]
theorem a6B (x:Str)(t:Tok):a2H (.inr x) (.str x t)=true:=by simp[a2H,Value.isStrOf]
theorem b2i (a b:Int):decide ((bE a:Key)=bE b)=(a == b):=by
 by_cases e:a=b
 ·subst e;simp
 ·have h:¬ (bE a:Key)=bE b:=λq=>e (Sum.inl.inj q)
  rw[decide_eq_false h];exact (beq_eq_false_iff_ne.mpr e).symm
theorem b2f (a b:Str):decide ((gC a:Key)=gC b)=decide (a=b):=by
 by_cases e:a=b
 ·subst e;simp
 ·have h:¬ (gC a:Key)=gC b:=λq=>e (Sum.inr.inj q)
  rw[decide_eq_false h,decide_eq_false e]
theorem b2h (a:Int)(b:Str):decide ((bE a:Key)=gC b)=false:=decide_eq_false (λq=>nomatch q)
theorem b2g (a:Str)(b:Int):decide ((gC a:Key)=bE b)=false:=decide_eq_false (λq=>nomatch q)
def J8 (prog:Program)(w:World):PySem.KeyKind prog w Key where
 is:=a2H
 hash:=b4D w
 inj:=λv a b ha hb=>by
  rcases M0 ha with ⟨i,t,rfl,rfl⟩ | ⟨x,t,rfl,rfl⟩
  ·rcases M0 hb with ⟨j,u,rfl,e⟩ | ⟨y,u,rfl,e⟩
   ·injection e with e1 _;rw[e1]
   ·exact nomatch e
  ·rcases M0 hb with ⟨j,u,rfl,e⟩ | ⟨y,u,rfl,e⟩
   ·exact nomatch e
   ·injection e with e1 _;rw[e1]
 byValue:=λk v h=>by
  rcases M0 h with ⟨i,t,rfl,rfl⟩ | ⟨x,t,rfl,rfl⟩<;>rfl
 pyHash:=λhv h=>by
  rcases M0 hv with ⟨i,t,rfl,rfl⟩ | ⟨x,t,rfl,rfl⟩
  ·exact wpAny_pyHash_int h
  ·exact wpAny_pyHash_str h
 eqBool:=λhu hv h=>by
  rcases M0 hu with ⟨i,t,rfl,rfl⟩ | ⟨x,t,rfl,rfl⟩
  ·rcases M0 hv with ⟨j,u,rfl,rfl⟩ | ⟨y,u,rfl,rfl⟩
   ·rw[b2i] at h;exact wpAny_eqBool_int h
   ·rw[b2h] at h;exact iq i t y u _ _ _ _ h
  ·rcases M0 hv with ⟨j,u,rfl,rfl⟩ | ⟨y,u,rfl,rfl⟩
   ·rw[b2g] at h;exact ip x t j u _ _ _ _ h
   ·rw[b2f] at h;exact wpAny_eqBool_str h
 «strs»:=λk x t v h=>by
  rcases M0 h with ⟨i,u,rfl,e⟩ | ⟨y,u,rfl,e⟩
  ·exact nomatch e
  ·injection e with e1 _
   subst e1;cases v<;>rfl
theorem a4C (prog:Program)(w:World)(i:Int)(t:Tok):(J8 prog w).is (.inl i) (.int i t)=true:=a6C i t
theorem a4B (prog:Program)(w:World)(x:Str)(t:Tok):(J8 prog w).is (.inr x) (.str x t)=true:=a6B x t
end L2
namespace L2
open PySem PySem.Spec PyProof.Rows
inductive V where
 | non | bl (b:Bool) | int (i:Int) | str (x:Str) | byt (b:Array UInt8) | flt (b:UInt64) | ref (a:Addr) | ty (n:String)
 deriving DecidableEq
def C3:V->Value->Prop
 | .non,u=>u=cA
 | .bl b,u=>u=aU b
 | .int i,u=>∃ t,u=cu i t
 | .str x,u=>∃ t,u=fL x t
 | .byt b,u=>∃ t,u=Value.bytes b t
 | .flt b,u=>∃ t,u=Value.float b t
 | .ref a,u=>u=bd a
 | .ty n,u=>u=aG n
abbrev C1:List V->List Value->Prop:=Paired C3
theorem C1.length {xs:List V}{us:List Value}(r:C1 xs us):xs.length=us.length:=dH r
theorem C1.get:∀ {xs:List V} {us:List Value} {i:Nat} {x:V},C1 xs us->xs[i]?=some x->∃ u,us[i]?=some u/\C3 x u
 | _,_,_,_,.nil,e=>by simp at e
 | _,_,0,_,.cons r _,e=>by simp at e;subst e;exact⟨_,rfl,r⟩
 | _,_,i+1,x,.cons _ t,e=>by
  obtain⟨u,h1,h2⟩:=C1.get (i:=i) (x:=x) t (~~~e);exact⟨u, ~~~h1,h2⟩
theorem C1.set {x:V}{u:Value}(r:C3 x u):∀ {xs:List V} {us:List Value} (i:Nat),C1 xs us->C1 (xs.set i x) (us.set i u)
 | _,_,_,.nil=>.nil
 | _,_,0,.cons _ t=>.cons r t
 | _,_,i+1,.cons q t=>.cons q (C1.set r i t)
theorem C1.append:∀ {xs ys:List V} {us ws:List Value},C1 xs us->C1 ys ws->C1 (xs++ys) (us++ws)
 | _,_,_,_,.nil,s=>s
 | _,_,_,_,.cons r t,s=>.cons r (C1.append t s)
theorem C1.take:∀ {xs:List V} {us:List Value} (n:Nat),C1 xs us->C1 (xs.take n) (us.take n)
 | _,_,0,_=>.nil
 | _,_,_+1,.nil=>.nil
 | _,_,n+1,.cons r t=>.cons r (C1.take n t)
theorem C1.drop:∀ {xs:List V} {us:List Value} (n:Nat),C1 xs us->C1 (xs.drop n) (us.drop n)
 | _,_,0,r=>r
 | _,_,_+1,.nil=>.nil
 | _,_,n+1,.cons _ t=>C1.drop n t
def a3F:Option V->Option Value->Prop
 | some v,some u=>C3 v u
 | none,none=>True
 | _,_=>False
def KV {κ:Type}:List (κ×V)->List (κ×Value)->Prop:=Paired λ(p:κ×V) (q:κ×Value)=>p.1=q.1/\C3 p.2 q.2
def kV:Key->V
 | .inl i=>.int i
 | .inr x=>.str x
inductive HO where
 /-- a list -/
 | lst (xs:List V)
 /-- a tuple (never changes) -/
 | tup (xs:List V)
 /-- a dict whose keys are ints and texts;one whose keys are tuples of ints and texts (the empty one is both) -/
 | dK (kvs:List (Key×V)) | dT (kvs:List (List Key×V))
 /-- a set of ints: its members,its size -/
 | set (S:Int->Bool) (n:Nat)
 /-- an instance of the class at C,its dict at dx,its attributes -/
 | ins (C dx:Addr) (fs:List (Str×V))
 /-- the dict of the instance at x -/
 | own (x:Addr)
 /-- the dict of an exception -/
 | xd (fs:List (Str×V))
 /-- a bound method,f of x -/
 | met (f x:Addr)
 /-- a range object lo,lo+1,.. below hi -/
 | rng (lo hi:Int)
 /-- a thing that is known to the object (the script;a dict while a loop walks it): read,never written while it is so -/
 | frz (o:Obj) (u:HO)
 /-- a code object's table -/
 | tbl (ps:Array Value)
 /-- any other thing,by what is true of its one object (a def of one's own: SetO a S n:=HO.ext λh=>..) -/
 | ext (φ:Heap->Prop)
abbrev Hp:=Addr->Option HO
def upd (H:Hp)(a:Addr)(o:HO):Hp:=λb=>if b=a then some o else H b
theorem A2 {H:Hp}{a:Addr}{o:HO}:upd H a o a=some o:=by unfold upd;rw[if_pos rfl]
theorem A8 {H:Hp}{a b:Addr}{o:HO}(h:b≠a):upd H a o b=H b:=by unfold upd;rw[if_neg h]
theorem a2Y {H:Hp}{a:Addr}{o u:HO}:upd (upd H a o) a u=upd H a u:=by
 funext b;unfold upd;split<;>rfl
theorem b0V {H:Hp}{a b:Addr}{o u:HO}(h:H a=some o)(h':H b=some u)(d:o≠u):a≠b:=by
 intro e;subst e;rw[h] at h';exact d (aI h')
theorem B9 {H:Hp}{a b:Addr}{o:HO}(h:H a=some o)(h':H b=none):a≠b:=by
 intro e;subst e;rw[h] at h';cases h'
section
variable (P:Program)(w:World)
def K8 (H:Hp)(h:Heap)(a:Addr):HO->Prop
 | .lst xs=>xs.length<=sizeLine/\∃(its:List Value) (n:Nat),C1 xs its/\h.get? a=some {cls:=.type "list",data:=.seq its.toArray n}
 | .tup xs=>xs.length<=sizeLine/\∃ its:List Value,C1 xs its/\IsTup h a its.toArray
 | .dK kvs=>kvs.length<=sizeLine/\(a == sysModules)=false/\∃ vs,KV kvs vs/\h.DictOf (J8 P w) a vs
 | .dT kvs=>kvs.length<=sizeLine/\(a == sysModules)=false/\∃ xs:List (List Key×Addr×Value),
   Paired (λ(p:List Key×V) (q:List Key×Addr×Value)=>p.1=q.1/\H q.2.1=some (.tup (p.1.map kV))/\C3 p.2 q.2.2) kvs xs /\
   ∃ o es ep,h.get? a=some o/\o.ExactDict/\o.data=.dict es ep/\es.toList=xs.map (entryOfKey (tupleKind (J8 P w)))/\(xs.map (·.1)).Nodup
 | .set S n=>h.SetOf (intKind P w) a S n
 | .ins C dx fs=>H dx=some (.own a)/\fs.length<=1000/\dx≠a/\h.get? a=some (gD C dx) /\
   ∃ mA,h.Ns1 dx mA/\(∀ f,a3F (fs.lookup f) (mA f))/\PySem.Within mA (fs.map (·.1))
 | .own _=>∃ o,h.get? a=some o
 | .xd fs=>∃ mA,h.Ns1 a mA/\∀ f,a3F (fs.lookup f) (mA f)
 | .rng lo hi=>∃ t u v,h.get? a=some {cls:=.type "range",data:=.fields #[.int lo t,.int hi u,.int 1 v]}
 | .frz o u=>h.get? a=some o/\K8 H h a u
 | .tbl ps=>h.get? a=some {cls:=.none,data:=.fields ps}
 | .met f x=>h.get? a=some (gg (.ref f) (.ref x))
 | .ext φ=>φ h/\(∃ o,h.get? a=some o)/\∀ h1 h2:Heap,φ h1->(∀ o,h1.get? a=some o->h2.get? a=some o)->φ h2
def HOk (H:Hp)(h:Heap):Prop:=∀ a o,H a=some o->K8 P w H h a o
end
section
variable {P:Program}{w:World}{H H':Hp}{h h':Heap}{a:Addr}{o:HO}
theorem K8.lt (x:K8 P w H h a o):a<h.objs.size:=by
 cases o with
 | lst xs=>obtain⟨_,_,_,_,e⟩:=x;exact aF e
 | tup xs=>obtain⟨_,_,_,p⟩:=x;exact p.lt
 | dK kvs=>obtain⟨_,_,_,_,o,_,_,e,_⟩:=x;exact aF e
 | dT kvs=>obtain⟨_,_,_,_,o,_,_,e,_⟩:=x;exact aF e
 | set S n=>obtain⟨o,_,_,_,e,_⟩:=x;exact aF e
 | ins C dx fs=>obtain⟨_,_,_,e,_⟩:=x;exact aF e
 | own y=>obtain⟨_,e⟩:=x;exact aF e
 | xd fs=>obtain⟨_,⟨_,_,_,e,_⟩,_⟩:=x;exact aF e
 | rng lo hi=>obtain⟨_,_,_,e⟩:=x;exact aF e
 | frz ob u=>obtain⟨e,_⟩:=x;exact aF e
 | tbl ps=>exact aF (show h.get? a=some _ from x)
 | met f y=>exact aF (show h.get? a=some _ from x)
 | ext φ=>obtain⟨_,⟨_,e⟩,_⟩:=x;exact aF e
theorem Paired.mapP {α β:Type}{F G:α->β->Prop}:∀ {lq:List α} {lz:List β},Paired F lq lz->(∀ a b,F a b->G a b)->Paired G lq lz
 | _,_,.nil,_=>.nil
 | _,_,.cons r t,f=>.cons (f _ _ r) (Paired.mapP t f)
theorem K8.stay (x:K8 P w H h a o)(k:∀ b u,(b=a\/H b=some (.own a))->h.get? b=some u->h'.get? b=some u)
  (ho:∀ b,H b=some (.own a)->H' b=some (.own a)) (ht:∀ b xs,H b=some (.tup xs)->H' b=some (.tup xs)):K8 P w H' h' a o:=by
 induction o with
 | lst xs=>obtain⟨z,its,n,r,e⟩:=x;exact⟨z,its,n,r,k _ _ (.inl rfl) e⟩
 | tup xs=>obtain⟨z,its,r,ob,e,c⟩:=x;exact⟨z,its,r,ob,k _ _ (.inl rfl) e,c⟩
 | dK kvs=>obtain⟨z,y,vs,r,ob,es,ep,e,c⟩:=x;exact⟨z,y,vs,r,ob,es,ep,k _ _ (.inl rfl) e,c⟩
 | dT kvs =>
  obtain⟨z,y,xs,r,ob,es,ep,e,c⟩:=x;exact⟨z,y,xs,Paired.mapP r λp q z=>⟨z.1,ht _ _ z.2.1,z.2.2⟩,ob,es,ep,k _ _ (.inl rfl) e,c⟩
 | set S n=>obtain⟨ob,es,ep,t,e,c⟩:=x;exact⟨ob,es,ep,t,k _ _ (.inl rfl) e,c⟩
 | ins C dx fs =>
  obtain⟨d,z,ne,e,mA,⟨od,es,ep,e2,c⟩,r⟩:=x;exact⟨ho _ d,z,ne,k _ _ (.inl rfl) e,mA,⟨od,es,ep,k _ _ (.inr d) e2,c⟩,r⟩
 | own y=>obtain⟨ob,e⟩:=x;exact⟨ob,k _ _ (.inl rfl) e⟩
 | xd fs=>obtain⟨mA,⟨od,es,ep,e,c⟩,r⟩:=x;exact⟨mA,⟨od,es,ep,k _ _ (.inl rfl) e,c⟩,r⟩
 | rng lo hi=>obtain⟨t,u,v,e⟩:=x;exact⟨t,u,v,k _ _ (.inl rfl) e⟩
 | frz ob u ih=>obtain⟨e,q⟩:=x;exact⟨k _ _ (.inl rfl) e,ih q⟩
 | tbl ps =>
  have e:h.get? a=some {cls:=.none,data:=.fields ps}:=x;show h'.get? a=some {cls:=.none,data:=.fields ps};exact k a _ (.inl rfl) e
 | met f y =>
  have e:h.get? a=some (gg (.ref f) (.ref y)):=x;show h'.get? a=some (gg (.ref f) (.ref y));exact k a _ (.inl rfl) e
 | ext φ=>obtain⟨p,⟨o,e⟩,st⟩:=x;exact⟨st _ _ p λo q=>k _ _ (.inl rfl) q,⟨o,k _ _ (.inl rfl) e⟩,st⟩
theorem HOk.lt (x:HOk P w H h)(e:H a=some o):a<h.objs.size:=(x a o e).lt
theorem HOk.fresh (x:HOk P w H h)(e:h.objs.size<=a):H a=none:=by
 cases q:H a with
 | none=>rfl
 | some u=>exact absurd (aZ (x.lt q) e) (cB _)
theorem HOk.kept (x:HOk P w H h)(k:∀ b u,h.get? b=some u->h'.get? b=some u):HOk P w H h':=λa o e =>
 (x a o e).stay (λb u _ q=>k b u q) (λ_ q=>q) λ_ _ q=>q
theorem HOk.laid (x:HOk P w H h)(k:∀ b u,h.get? b=some u->h'.get? b=some u)(hp:h.objs.size<=a)(new:K8 P w (upd H a o) h' a o):HOk P w (upd H a o) h':=λb u e=>by
 have hn:=x.fresh hp;by_cases hb:b=a
 ·subst hb;rw[A2] at e;cases e;exact new
 ·rw[A8 hb] at e;exact (x b u e).stay (λc v _ q=>k c v q) (λc q=>by rw[A8 (B9 q hn)];exact q) λc xs q=>by rw[A8 (B9 q hn)];exact q
end
def Rd (H:Hp)(a:Addr)(u:HO):Prop:=H a=some u\/∃ o,H a=some (.frz o u)
theorem Rd.of {H:Hp}{a:Addr}{u:HO}(h:H a=some u):Rd H a u:=.inl h
theorem Rd.ok {P:Program}{w:World}{H:Hp}{h:Heap}{a:Addr}{u:HO}(r:Rd H a u)(x:HOk P w H h):K8 P w H h a u:=by
 rcases r with r | ⟨o,r⟩
 ·exact x a u r
 ·obtain⟨_,q⟩:=x a _ r;exact q
def Mut:Option HO->Prop
 | some (.lst _)=>True
 | some (.dK _)=>True
 | some (.dT _)=>True
 | some (.set _ _)=>True
 | some (.ins _ _ _)=>True
 | some (.ext _)=>True
 | _=>False
section
variable {P:Program}{w:World}{H:Hp}{h h':Heap}{x e:Addr}{o':HO}
theorem HOk.write (ok:HOk P w H h)(mu:Mut (H x))(he:e=x\/H e=some (.own x))(k:∀ b u,b≠e->h.get? b=some u->h'.get? b=some u)(heo:∃ u,h'.get? e=some u)
  (new:K8 P w (upd H x o') h' x o'):HOk P w (upd H x o') h':=λb u q=>by
 have nown:∀ c y,H c=some (.own y)->c≠x:=λc y r z=>by subst z;rw[r] at mu;exact mu
 have ntup:∀ c xs,H c=some (.tup xs)->c≠x:=λc xs r z=>by subst z;rw[r] at mu;exact mu
 by_cases hb:b=x
 ·subst hb;rw[A2] at q;cases q;exact new
 ·rw[A8 hb] at q;by_cases hbe:b=e
  ·have q':H b=some (.own x):=by
    rcases he with z | z
    ·exact absurd (hbe.trans z) hb
    ·rw[hbe];exact z
   rw[q] at q';cases q';obtain⟨v,hv⟩:=heo;exact⟨v,by rw[hbe];exact hv⟩
  ·refine (ok b u q).stay (λc v hc r=>k c v ?_ r) (λc r=>by rw[A8 (nown c b r)];exact r) λc xs r=>by rw[A8 (ntup c xs r)];exact r
   rcases hc with rfl | hc
   ·exact hbe
   ·rintro rfl;rcases he with z | z
    ·exact nown c b hc z
    ·rw[hc] at z;cases z;exact hb rfl
end
structure Un (fs ex:List Addr)(H H':Hp)(h h':Heap):Prop where
 keep:∀ b o,h.get? b=some o->H b=none->b∉fs->b∉ex->h'.get? b=some o
 slot:∀ b o,h.get? b=some o->H b=none->b∈fs->b∉ex->∃ sl,h'.get? b=some {o with slots:=sl}
 free:∀ b o,h.get? b=some o->H b=none->b∉ex->H' b=none
 there:∀ b o,h.get? b=some o->b∉ex->∃ o',h'.get? b=some o'
 tups:∀ b xs,H b=some (.tup xs)->H' b=some (.tup xs)
 frzs:∀ b o u,H b=some (.frz o u)->H' b=some (.frz o u)
 tbls:∀ b ps,H b=some (.tbl ps)->∃ more,H' b=some (.tbl (ps++more))
section
variable {fs fs' ex ex':List Addr}{H H1 H2:Hp}{h h1 h2 h':Heap}{a x e:Addr}{o:HO}
theorem Un.any (u:Un fs ex H H1 h h1){b:Addr}{ob:Obj}(q:h.get? b=some ob)(n:H b=none)(hx:b∉ex):∃ sl,h1.get? b=some {ob with slots:=sl}:=by
 by_cases hb:b∈fs
 ·exact u.slot b ob q n hb hx
 ·exact⟨ob.slots,u.keep b ob q n hb hx⟩
theorem Un.trans (a:Un fs ex H H1 h h1)(b:Un fs ex H1 H2 h1 h2):Un fs ex H H2 h h2 where
 keep:=λc ob q n hc hx=>b.keep c ob (a.keep c ob q n hc hx) (a.free c ob q n hx) hc hx
 slot:=λc ob q n hc hx=>by
  obtain⟨sl,e1⟩:=a.slot c ob q n hc hx;obtain⟨sl',e2⟩:=b.slot c _ e1 (a.free c ob q n hx) hc hx;exact⟨sl',e2⟩
 free:=λc ob q n hx=>by
  obtain⟨o',e1⟩:=a.there c ob q hx;exact b.free c o' e1 (a.free c ob q n hx) hx
 there:=λc ob q hx=>by
  obtain⟨o',e1⟩:=a.there c ob q hx;exact b.there c o' e1 hx
 tups:=λc xs q=>b.tups c xs (a.tups c xs q)
 frzs:=λc ob xs q=>b.frzs c ob xs (a.frzs c ob xs q)
 tbls:=λc ps q=>by
  obtain⟨m1,e1⟩:=a.tbls c ps q;obtain⟨m2,e2⟩:=b.tbls c _ e1;exact⟨m1++m2,by rw[e2,jj]⟩
theorem Un.kept (k:∀ b u,h.get? b=some u->h'.get? b=some u):Un fs ex H H h h' :=
 ⟨λb ob q _ _ _=>k b ob q,λb ob q _ _ _=>⟨ob.slots,k b ob q⟩,λ_ _ _ n _=>n,λb ob q _=>⟨ob,k b ob q⟩,λ_ _ q=>q,λ_ _ _ q=>q,λ_ ps q=>⟨#[],by rw[q];simp⟩⟩
theorem Un.refl:Un fs ex H H h h:=Un.kept λ_ _ q=>q
theorem Un.laid (k:∀ b u,h.get? b=some u->h'.get? b=some u)(hp:h.objs.size<=a)(hn:H a=none):Un fs ex H (upd H a o) h h' where
 keep:=λb u q _ _ _=>k b u q
 slot:=λb u q _ _ _=>⟨u.slots,k b u q⟩
 free:=λb u q n _=>by rw[A8 (aY (aZ (aF q) hp))];exact n
 there:=λb u q _=>⟨u,k b u q⟩
 tups:=λb xs q=>by rw[A8 (B9 q hn)];exact q
 frzs:=λb u xs q=>by rw[A8 (B9 q hn)];exact q
 tbls:=λb ps q=>⟨#[],by rw[A8 (B9 q hn),q];simp⟩
theorem Un.write (mu:Mut (H x))(he:e=x\/H e=some (.own x))(k:∀ b u,b≠e->h.get? b=some u->h'.get? b=some u)(heo:∃ u,h'.get? e=some u):Un fs ex H (upd H x o) h h':=by
 have hx:∀ b,H b=none->b≠x:=λb n z=>by subst z;rw[n] at mu;exact mu
 have hb:∀ b,H b=none->b≠e:=λb n z=>by
  subst z;rcases he with r | r
  ·exact hx b n r
  ·rw[n] at r;cases r
 have hm:∀ b u,H b=some u->¬ Mut (some u)->b≠x:=λb u q nm z=>by subst z;rw[q] at mu;exact nm mu
 refine⟨λb u q n _ _=>k b u (hb b n) q,λb u q n _ _=>⟨u.slots,k b u (hb b n) q⟩,λb u q n _=>by rw[A8 (hx b n)];exact n,λb u q _=>?_,
  λb xs q=>by rw[A8 (hm b _ q λz=>z)];exact q,λb u xs q=>by rw[A8 (hm b _ q λz=>z)];exact q,λb ps q=>⟨#[],by rw[A8 (hm b _ q λz=>z),q];simp⟩⟩
 by_cases hbe:b=e
 ·subst hbe;exact heo
 ·exact⟨u,k b u hbe q⟩
theorem Un.mono (u:Un fs ex H H1 h h1)(hs:∀ b∈fs,b∈fs')(hx:∀ b∈ex,b∈ex'):Un fs' ex' H H1 h h1 :=
 ⟨λb ob q n hb he=>u.keep b ob q n (λz=>hb (hs b z)) λz=>he (hx b z),λ_ _ q n _ he=>u.any q n λz=>he (hx _ z),λb ob q n he=>u.free b ob q n λz=>he (hx b z),λb ob q he=>u.there b ob q λz=>he (hx b z),u.tups,u.frzs,u.tbls⟩
end
def trk (h:Heap)(H:Hp):List Addr:=(dE h.objs.size).filter λa=>(H a).isSome
def a3u (h:Heap)(H:Hp):Heap:=fE h (trk h H)
theorem a6J (h:Heap)(H:Hp):(a3u h H).objs.size=h.objs.size:=PySem.W.hideAll_size _ _
theorem a8D {h:Heap}{H:Hp}{b:Addr}{o:Obj}(e:h.get? b=some o)(n:H b=none):(a3u h H).get? b=some o :=
 ek _ e λhm=>by
  have q:(H b).isSome=true:=(List.mem_filter.mp hm).2;rw[n] at q;simp at q
theorem a9S {h:Heap}{H:Hp}{b:Addr}{o:Obj}(e:(a3u h H).get? b=some o):h.get? b=some o/\H b=none:=by
 have e':h.get? b=some o:=iJ (trk h H) e;refine⟨e',?_⟩;cases q:H b with
 | none=>rfl
 | some x =>
  have hm:b∈trk h H:=jV.mpr ⟨bQ.mpr (aF e'),by simp[q]⟩;have z:(a3u h H).get? b=none:=PySem.W.hideAll_none (trk h H) hm;rw[z] at e;cases e
def b0A (g h:Heap)(L:Addr):List (Addr×Obj):=(dE h.objs.size).filterMap λa=>if a=L\/(g.get? a).isSome=true then none else (h.get? a).map λo=>(a,o)
def W4 (g h:Heap)(L d:Addr):List (Addr×Obj):=(b0A g h L).filter λp=>decide (p.1≠d)
end L2
namespace L2
open PySem PySem.Spec PyProof.Rows
structure Mod (K:ae)(mg:Str->Option Value)(base:Heap):Prop where
 kin:K.In base
 glob:base.Ns mainGlobals mg
 blt:∃ mb,base.Ns builtinsNs mb/\∀ x:Str,x≠"__name__"->mb x=bootBuiltins x
 nolimit:base.NoLimit
structure Cx where
 prog:Program
 w:World
 K:ae
 mg:Str->Option Value
 base:Heap
 A:Around
 N:List Str
 sq:Shared
 Hz:Hp
 env:Env
 outer:List Env
 stack:List Env
 ex:List Addr
 fn:Str->Bool
 calm:Bool
 pn:List (Addr×Obj)
 xe:Value->Shared->Prop
def frs (l:List Env):List Addr:=l.filterMap (·.frame)
abbrev Cx.fs (X:Cx):List Addr:=frs X.outer
def Vis (sc:Scope)(x:Str):Prop:=sc.names.lookup x=some .local\/sc.names.lookup x=some .cell\/sc.names.lookup x=some .free
def Loc (sc:Scope)(x:Str):Prop:=sc.names.lookup x=some .local\/sc.names.lookup x=some .cell
def b4b (env:Env)(h:Heap)(m:Str->Option Value)(x:Str)(u:Value):Prop :=
 (env.kindOf x=some .local/\m x=some u)\/((env.kindOf x=some .cell\/env.kindOf x=some .free)/\∃ c,env.cells.lookup x=some c/\h.IsCell c (some u))
structure Cx.Ok (X:Cx):Prop where
 mod:Mod X.K X.mg X.base
 kind:X.env.scope.kind=.function
 glob:X.env.globals=mainGlobals
 blt:X.env.builtins=builtinsNs
 above:X.sq.heap.objs.size<=X.env.locals
 inj:∀ x y c,X.env.cells.lookup x=some c->X.env.cells.lookup y=some c->x=y
 has:∀ x,(X.env.kindOf x=some .cell\/X.env.kindOf x=some .free)->∃ c,X.env.cells.lookup x=some c
 cab:∀ x c,X.fn x=true->X.env.cells.lookup x=some c->X.sq.heap.objs.size<=c
 hd:X.calm=true->X.A.handled=none
 frames:X.A.frames=some X.stack
 stk:X.stack=X.outer\/(X.stack=X.env::X.outer/\X.env.frame=some X.env.locals)
 exf:∀ b∈X.ex,b≠X.env.locals/\∀ x c,X.env.cells.lookup x=some c->c≠b
 bs:∀ b o,X.base.get? b=some o->X.sq.heap.get? b=some o/\X.Hz b=none
 bsz:X.base.objs.size<=X.sq.heap.objs.size
 noex:∀ b o,X.base.get? b=some o->b∉X.ex
 exfs:∀ b∈X.ex,b∉X.fs
 funs:X.sq.heap.FunFrames X.base X.outer
 frf:∀ b∈X.fs,X.Hz b=none
structure Inv (X:Cx)(pins:List (Addr×Obj))(σ:List (Option V))(H:Hp)(s:Shared):Prop where
 ok:X.Ok
 os:s.os=X.sq.os
 bare:AllBare s.gens
 base:Un X.fs X.ex X.Hz H X.sq.heap s.heap
 loc:∃ m,s.heap.Ns X.env.locals m/\∀(i:Nat) (x:Str) (v:V),X.N[i]?=some x->σ[i]?=some (some v)->Vis X.env.scope x->∃ u,C3 v u/\b4b X.env s.heap m x u
 cell:∀ x c,X.env.cells.lookup x=some c->∃ v,s.heap.IsCell c v
 free:H X.env.locals=none
 freeC:∀ x c,X.env.cells.lookup x=some c->H c=none
 pin:∀ p∈X.pn++pins,s.heap.get? p.1=some p.2/\H p.1=none/\p.1≠X.env.locals/\p.1∉X.fs/\∀ v,p.2.data≠.cell v
 hok:HOk X.prog X.w H s.heap
 len:σ.length=X.N.length
section
variable {X:Cx}{pins:List (Addr×Obj)}{σ:List (Option V)}{H H':Hp}{s:Shared}{h':Heap}
theorem Cx.Ok.nofr (ok:X.Ok){b:Addr}{o:Obj}(e:X.base.get? b=some o):b∉X.fs:=λhb=>by
 have:=(ok.funs.mem hb).1;rw[e] at this;cases this
theorem Inv.bs (I:Inv X pins σ H s):∀ b o,X.base.get? b=some o->s.heap.get? b=some o/\H b=none:=λb o e =>
 ⟨I.base.keep b o (I.ok.bs b o e).1 (I.ok.bs b o e).2 (I.ok.nofr e) (I.ok.noex b o e),I.base.free b o (I.ok.bs b o e).1 (I.ok.bs b o e).2 (I.ok.noex b o e)⟩
theorem Inv.bk (I:Inv X pins σ H s):∀ b o,X.base.get? b=some o->s.heap.get? b=some o:=λb o e=>(I.bs b o e).1
theorem Inv.mod (I:Inv X pins σ H s):Mod X.K X.mg X.base:=I.ok.mod
theorem Inv.kIn (I:Inv X pins σ H s):X.K.In s.heap:=I.ok.mod.kin.keeps I.bk
theorem Inv.nolimit (I:Inv X pins σ H s):s.heap.NoLimit:=I.ok.mod.nolimit.keeps I.bk
theorem Inv.lt (I:Inv X pins σ H s):X.env.locals<s.heap.objs.size:=let ⟨_,hn,_⟩:=I.loc;hn.lt
theorem Inv.sz (I:Inv X pins σ H s):X.sq.heap.objs.size<=s.heap.objs.size:=aM I.ok.above (dL I.lt)
theorem Inv.nofs (I:Inv X pins σ H s){a:Addr}(h:s.heap.objs.size<=a):a∉X.fs:=λhb=>by
 obtain⟨_,o,ho,_⟩:=I.ok.funs.mem hb;exact absurd (aZ (aF ho) (aM I.sz h)) (cB _)
theorem Inv.cne (I:Inv X pins σ H s):∀ x c,X.env.cells.lookup x=some c->c≠X.env.locals:=λx c e z=>by
 obtain⟨v,o,ho,hd⟩:=I.cell x c e;obtain⟨m,⟨o',es,ep,ho',hd',_⟩,_⟩:=I.loc;rw[z,ho'] at ho;cases ho;rw[hd'] at hd;cases hd
theorem Inv.funs (I:Inv X pins σ H s):s.heap.FunFrames X.base X.outer:=by
 have all:∀(l:List Env),(∀ b∈frs l,b∈X.fs)->X.sq.heap.FunFrames X.base l->s.heap.FunFrames X.base l:=by
  intro l;induction l with
  | nil=>intro _ _;trivial
  | cons env r ih =>
   intro hs hl;obtain⟨hk,⟨L,o,hf,hn,ho,hd⟩,hr⟩:=hl;have hL:L∈X.fs:=hs L (by unfold frs;rw[eU,hf];exact aR);obtain⟨sl,e⟩:=I.base.slot L o ho (I.ok.frf L hL) hL λz=>I.ok.exfs L z hL
   exact⟨hk,⟨L,_,hf,hn,e,hd⟩,ih (λb hb=>hs b (by unfold frs;rw[eU,hf];exact aL _ hb)) hr⟩
 exact all X.outer (λ_ hb=>hb) I.ok.funs
theorem Inv.stack (I:Inv X pins σ H s):s.heap.FunFrames X.base X.stack:=by
 rcases I.ok.stk with e | ⟨e,hf⟩
 ·rw[e];exact I.funs
 ·rw[e];obtain⟨m,hn,_⟩:=I.loc;refine .cons (by rw[I.ok.kind];decide) hf hn ?_ I.funs;exact Heap.get?_none_of_le (aM I.ok.bsz I.ok.above)
theorem Inv.stkSub (I:Inv X pins σ H s):∀ b∈frs X.stack,b∈X.env.locals::X.fs:=λb hb=>by
 rcases I.ok.stk with e | ⟨e,hf⟩
 ·rw[e] at hb;exact aL _ hb
 ·rw[e] at hb;unfold frs at hb;rw[eU,hf] at hb;exact hb
theorem Inv.stkFree (I:Inv X pins σ H s):∀ b∈frs X.stack,H b=none:=λb hb=>by
 rcases aQ.mp (I.stkSub b hb) with e | hb
 ·rw[e];exact I.free
 ·obtain⟨_,o,ho,_⟩:=I.ok.funs.mem hb;exact I.base.free b o ho (I.ok.frf b hb) λz=>I.ok.exfs b z hb
theorem Inv.step {g':Array GenState}{t':Nat}{d':Drawn}{ch:List Addr}(I:Inv X pins σ H s)
  (hch:∀ b∈ch,(b∈X.ex\/X.sq.heap.objs.size<=b)/\b≠X.env.locals/\(∀ x c,X.env.cells.lookup x=some c->c≠b)/\∀ p∈X.pn++pins,p.1≠b)
  (keep:∀ b o,b≠X.env.locals->b∉X.fs->b∉ch->s.heap.get? b=some o->H b=none->h'.get? b=some o)
  (slot:∀ b o,b≠X.env.locals->b∈X.fs->b∉ch->s.heap.get? b=some o->H b=none->∃ sl,h'.get? b=some {o with slots:=sl}) (free:∀ b o,b∉ch->s.heap.get? b=some o->H b=none->H' b=none)
  (there:∀ b o,b∉ch->s.heap.get? b=some o->∃ o',h'.get? b=some o')
  (tups:∀ b xs,H b=some (.tup xs)->H' b=some (.tup xs)) (frzs:∀ b o u,H b=some (.frz o u)->H' b=some (.frz o u)) (tbls:∀ b ps,H b=some (.tbl ps)->∃ more,H' b=some (.tbl (ps++more)))
  (ns:∀ m,s.heap.Ns X.env.locals m->h'.Ns X.env.locals m) (hok:HOk X.prog X.w H' h') (hg:AllBare g') :
  Inv X pins σ H' {s with heap:=h',gens:=g',drawn:=d',toks:=t'}:=by
 have neL:∀ b o,X.sq.heap.get? b=some o->b≠X.env.locals:=λb o e=>aY (aZ (aF e) I.ok.above)
 have neC:∀ b o,X.sq.heap.get? b=some o->b∉X.ex->b∉ch:=λb o e hx hb=>by
  rcases (hch b hb).1 with z | z
  ·exact hx z
  ·exact absurd (aZ (aF e) z) (cB _)
 have cellK:∀ x c,X.env.cells.lookup x=some c->∀ v,s.heap.IsCell c v->h'.IsCell c v:=λx c e v ⟨o,ho,hd⟩=>by
  have nch:c∉ch:=λz=>(hch c z).2.2.1 x c e rfl
  by_cases hc:c∈X.fs
  ·obtain⟨sl,q⟩:=slot c o (I.cne x c e) hc nch ho (I.freeC x c e);exact⟨_,q,hd⟩
  ·exact⟨o,keep c o (I.cne x c e) hc nch ho (I.freeC x c e),hd⟩
 refine⟨I.ok,I.os,hg,⟨λb o e n hb hx=>?_,λb o e n hb hx=>?_,λb o e n hx=>?_,λb o e hx=>?_,λb xs e=>tups b xs (I.base.tups b xs e),λb o xs e=>frzs b o xs (I.base.frzs b o xs e),λb ps e=>?_⟩,?_,λx c e=>?_,?_,λx c e=>?_,λp hp=>?_,hok,I.len⟩
 ·exact keep b o (neL b o e) hb (neC b o e hx) (I.base.keep b o e n hb hx) (I.base.free b o e n hx)
 ·obtain⟨sl,e1⟩:=I.base.slot b o e n hb hx;obtain⟨sl',e2⟩:=slot b _ (neL b o e) hb (neC b o e hx) e1 (I.base.free b o e n hx);exact⟨sl',e2⟩
 ·obtain⟨o',e1⟩:=I.base.there b o e hx;exact free b o' (neC b o e hx) e1 (I.base.free b o e n hx)
 ·obtain⟨o',e1⟩:=I.base.there b o e hx;exact there b o' (neC b o e hx) e1
 ·obtain⟨m1,e1⟩:=I.base.tbls b ps e;obtain⟨m2,e2⟩:=tbls b _ e1;exact⟨m1++m2,by rw[e2,jj]⟩
 ·obtain⟨m,hn,hl⟩:=I.loc;refine⟨m,ns m hn,λi x v e1 e2 e3=>?_⟩;obtain⟨u,r,l⟩:=hl i x v e1 e2 e3;refine⟨u,r,?_⟩;rcases l with l | ⟨k,c,e,z⟩
  ·exact .inl l
  ·exact .inr ⟨k,c,e,cellK x c e _ z⟩
 ·obtain⟨v,z⟩:=I.cell x c e;exact⟨v,cellK x c e v z⟩
 ·obtain⟨m,⟨o,_,_,ho,_⟩,_⟩:=I.loc;exact free _ o (λz=>(hch _ z).2.1 rfl) ho I.free
 ·obtain⟨v,o,ho,hd⟩:=I.cell x c e;exact free c o (λz=>(hch c z).2.2.1 x c e rfl) ho (I.freeC x c e)
 ·obtain⟨e,n,ne,nf,d⟩:=I.pin p hp;have nch:p.1∉ch:=λz=>(hch p.1 z).2.2.2 p hp rfl
  exact⟨keep p.1 p.2 ne nf nch e n,free p.1 p.2 nch e n,ne,nf,d⟩
theorem Inv.un {t':Nat}(I:Inv X pins σ H s)(u:Un X.fs [] H H' s.heap h')(hok:HOk X.prog X.w H' h'):Inv X pins σ H' {s with heap:=h',toks:=t'}:=by
 obtain⟨m,⟨o,es,ep,ho,r⟩,_⟩:=id I.loc;obtain⟨sl,hL⟩:=u.any ho I.free (by simp)
 exact I.step (g':=s.gens) (d':=s.drawn) (ch:=[]) (λ_ z=>nomatch z) (λb o _ hb _ e n=>u.keep b o e n hb (by simp)) (λb o _ hb _ e n=>u.slot b o e n hb (by simp)) (λb o _ e n=>u.free b o e n (by simp)) (λb o _ e=>u.there b o e (by simp)) u.tups u.frzs u.tbls (λm' hm=>by
  obtain⟨o',es',ep',ho',r'⟩:=hm;rw[ho] at ho';cases ho'
  exact⟨_,es',ep',hL,r'⟩) hok I.bare
theorem Inv.call {g':Array GenState}{t':Nat}{d':Drawn}{ch:List Addr}(I:Inv X pins σ H s)(u:Un (frs X.stack) ch H H' s.heap h')(hok:HOk X.prog X.w H' h')(hg:AllBare g')
  (hch:∀ b∈ch,(b∈X.ex\/X.sq.heap.objs.size<=b)/\b≠X.env.locals/\(∀ x c,X.env.cells.lookup x=some c->c≠b)/\∀ p∈X.pn++pins,p.1≠b) :
  Inv X pins σ H' {s with heap:=h',gens:=g',drawn:=d',toks:=t'}:=by
 obtain⟨m,⟨o,es,ep,ho,r⟩,_⟩:=id I.loc;obtain⟨sl,hL⟩:=u.any ho I.free λz=>(hch _ z).2.1 rfl
 exact I.step (ch:=ch) hch (λb o hL hb hc e n=>u.keep b o e n (λz=>(aQ.mp (I.stkSub b z)).elim hL hb) hc) (λb o _ _ hc e n=>u.any e n hc) (λb o hc e n=>u.free b o e n hc) (λb o hc e=>u.there b o e hc) u.tups u.frzs u.tbls (λm' hm=>by
  obtain⟨o',es',ep',ho',r'⟩:=hm;rw[ho] at ho';cases ho'
  exact⟨_,es',ep',hL,r'⟩) hok hg
theorem Inv.turned {t':Nat}{it:Addr}(I:Inv X pins σ H s)(k:∀ b o,b≠it->s.heap.get? b=some o->h'.get? b=some o)(hn:H it=none)(hL:it≠X.env.locals)
  (h1:it∈X.ex\/X.sq.heap.objs.size<=it) (h2:∀ x c,X.env.cells.lookup x=some c->c≠it) (h3:∀ p∈X.pn++pins,p.1≠it):Inv X pins σ H {s with heap:=h',toks:=t'}:=by
 have nit:∀ b u,H b=some u->b≠it:=λb u e z=>by rw[z,hn] at e;cases e
 refine I.step (g':=s.gens) (d':=s.drawn) (ch:=[it]) (λb hb=>?_) (λb o _ _ hc e _=>k b o (λz=>hc (by simp[z])) e) (λb o _ _ hc e _=>⟨o.slots,k b o (λz=>hc (by simp[z])) e⟩) (λ_ _ _ _ n=>n)
  (λb o hc e=>⟨o,k b o (λz=>hc (by simp[z])) e⟩) (λ_ _ e=>e) (λ_ _ _ e=>e) (λb ps e=>⟨#[],by rw[e];simp⟩) (λm hm=>?_) (λb u e=>?_) I.bare
 ·have e:b=it:= ~~~hb
  subst e;exact⟨h1,hL,h2,h3⟩
 ·obtain⟨o,es,ep,ho,r⟩:=hm;exact⟨o,es,ep,k _ o (fb hL) ho,r⟩
 ·refine (I.hok b u e).stay (λc v hc q=>k c v ?_ q) (λ_ q=>q) λ_ _ q=>q
  rcases hc with z | z
  ·rw[z];exact nit b u e
  ·exact nit c _ z
theorem Inv.tok (I:Inv X pins σ H s)(t:Nat):Inv X pins σ H {s with toks:=t}:=I.un (h':=s.heap) (t':=t) Un.refl I.hok
theorem Inv.kept {t':Nat}(I:Inv X pins σ H s)(k:∀ b u,s.heap.get? b=some u->h'.get? b=some u):Inv X pins σ H {s with heap:=h',toks:=t'}:=I.un (Un.kept k) (I.hok.kept k)
theorem Inv.laid {a:Addr}{o:HO}{t':Nat}(I:Inv X pins σ H s)(k:∀ b u,s.heap.get? b=some u->h'.get? b=some u)(hp:s.heap.objs.size<=a)(new:K8 X.prog X.w (upd H a o) h' a o) :
  Inv X pins σ (upd H a o) {s with heap:=h',toks:=t'}:=I.un (Un.laid k hp (I.hok.fresh hp)) (I.hok.laid k hp new)
theorem Inv.write {x e:Addr}{o:HO}{t':Nat}(I:Inv X pins σ H s)(mu:Mut (H x))(he:e=x\/H e=some (.own x))(k:∀ b u,b≠e->s.heap.get? b=some u->h'.get? b=some u)(heo:∃ u,h'.get? e=some u)
  (new:K8 X.prog X.w (upd H x o) h' x o):Inv X pins σ (upd H x o) {s with heap:=h',toks:=t'}:=I.un (Un.write mu he k heo) (I.hok.write mu he k heo new)
theorem Inv.pins_of {pins':List (Addr×Obj)}(I:Inv X pins σ H s)(h:∀ p∈pins',s.heap.get? p.1=some p.2/\H p.1=none/\p.1≠X.env.locals/\p.1∉X.fs/\∀ v,p.2.data≠.cell v):Inv X pins' σ H s :=
 ⟨I.ok,I.os,I.bare,I.base,I.loc,I.cell,I.free,I.freeC,λp hp=>(aj.mp hp).elim (λz=>I.pin p (fT _ z)) (h p),I.hok,I.len⟩
theorem a1J {N:List Str}(hN:N.Nodup){i j:Nat}{x:Str}(a:N[i]?=some x)(b:N[j]?=some x):i=j:=by
 obtain⟨h1,e1⟩:=au.mp a;obtain⟨h2,e2⟩:=au.mp b;exact (List.getElem_inj hN).mp (e1.trans e2.symm)
theorem a0D {M:Model}{A:Around}{E:Value->Shared->Prop}{i:Nat}{x:Str}{v:V}{u:Value}{Q:Unit->Shared->Prop}(I:Inv X pins σ H s)(hN:X.N.Nodup)(hi:X.N[i]?=some x)(hx:Loc X.env.scope x)(r:C3 v u)
  (h:∀ s',Inv X pins (σ.set i (some v)) H s'->(∃ a,dA a s.heap s'.heap/\(a=X.env.locals\/X.env.cells.lookup x=some a))->Q () s') (hf:X.fn x=true\/X.env.scope.names.lookup x=some .local:=by first | exact .inl rfl | exact .inr rfl | assumption):wpAny M A (storeName X.env x u) Q E s:=by
 obtain⟨m,hn,hl⟩:=id I.loc;have hcls:(X.env.scope.kind == .class || (X.env.scope.kind == .module && X.env.locals != X.env.globals))=false:=by rw[I.ok.kind];rfl
 have hiσ:i<σ.length:=by rw[I.len];exact (au.mp hi).1
 have cne:=I.cne;have tracked:∀ {a:Addr} {h':Heap},(∃ o,s.heap.get? a=some o/\H a=none)->dA a s.heap h'->HOk X.prog X.w H h':=λ{a h'} ha hs b ob e=>by
  obtain⟨_,_,hfree⟩:=ha;refine (I.hok b ob e).stay (λc w' hc q=>(hs.2 c ?_).trans q) (λ_ q=>q) λ_ _ q=>q
  rintro rfl;rcases hc with rfl | hc
  ·rw[hfree] at e;cases e
  ·rw[hfree] at hc;cases hc
 rcases hx with hk | hk
 ·refine wpAny_storeName_local hk hn (λh' hn' hs=>?_) hcls;obtain⟨oL,_,_,hoL,_⟩:=id hn;refine h _ ⟨I.ok,I.os,I.bare,⟨λb o e n hb hx=>?_,λb o e n hb hx=>?_,I.base.free,λb o e hx=>?_,I.base.tups,I.base.frzs,I.base.tbls⟩,⟨_,hn',λj y v' e1 e2 e3=>?_⟩,λy c e=>?_,I.free,I.freeC,λp hp=>?_,tracked ⟨oL,hoL,I.free⟩ hs, ~~~I.len⟩ ⟨_,hs,.inl rfl⟩
  ·exact (hs.2 b (aY (aZ (aF e) I.ok.above))).trans (I.base.keep b o e n hb hx)
  ·obtain⟨sl,e1⟩:=I.base.slot b o e n hb hx;exact⟨sl,(hs.2 b (aY (aZ (aF e) I.ok.above))).trans e1⟩
  ·obtain⟨o',e1⟩:=I.base.there b o e hx;exact⟨o',(hs.2 b (aY (aZ (aF e) I.ok.above))).trans e1⟩
  ·by_cases hj:j=i
   ·subst hj;rw[hi] at e1;cases e1;rw[cm hiσ] at e2;cases e2;exact⟨u,r,.inl ⟨hk,by simp⟩⟩
   ·rw[cw (fb hj)] at e2;obtain⟨u',r',q⟩:=hl j y v' e1 e2 e3;refine⟨u',r',?_⟩;rcases q with ⟨k,e⟩ | ⟨k,c,e,z⟩
    ·refine .inl ⟨k,?_⟩;have:y≠x:=λe=>hj (a1J hN e1 (e ▸ hi))
     simp[this,e]
    ·exact .inr ⟨k,c,e,z.sameBut hs (cne y c e)⟩
  ·obtain⟨w',z⟩:=I.cell y c e;exact⟨w',z.sameBut hs (cne y c e)⟩
  ·obtain⟨e,n,ne,nf,d⟩:=I.pin p hp;exact⟨(hs.2 p.1 ne).trans e,n,ne,nf,d⟩
 ·have hfn:X.fn x=true:=by
   rcases hf with z | z
   ·exact z
   ·rw[z] at hk;cases hk
  obtain⟨c,hc⟩:=I.ok.has x (.inl hk);obtain⟨w',z⟩:=I.cell x c hc;refine wpAny_storeName_cell I.ok.kind hk hc z (λh' hc' hs=>?_);obtain⟨oc,hoc,hocd⟩:=id z;refine h {s with heap:=h'} ⟨I.ok,I.os,I.bare,⟨λb o e n hb hx=>?_,λb o e n hb hx=>?_,I.base.free,λb o e hx=>?_,I.base.tups,I.base.frzs,I.base.tbls⟩,⟨m,hn.sameBut hs (fb (cne x c hc)),λj y v' e1 e2 e3=>?_⟩,λy c' e=>?_,I.free,I.freeC,λp hp=>?_,tracked ⟨oc,hoc,I.freeC x c hc⟩ hs, ~~~I.len⟩ ⟨c,hs,.inr hc⟩
  ·exact (hs.2 b (aY (aZ (aF e) (I.ok.cab x c hfn hc)))).trans (I.base.keep b o e n hb hx)
  ·obtain⟨sl,e1⟩:=I.base.slot b o e n hb hx;exact⟨sl,(hs.2 b (aY (aZ (aF e) (I.ok.cab x c hfn hc)))).trans e1⟩
  ·obtain⟨o',e1⟩:=I.base.there b o e hx;exact⟨o',(hs.2 b (aY (aZ (aF e) (I.ok.cab x c hfn hc)))).trans e1⟩
  ·by_cases hj:j=i
   ·subst hj;rw[hi] at e1;cases e1;rw[cm hiσ] at e2;cases e2;exact⟨u,r,.inr ⟨.inl hk,c,hc,hc'⟩⟩
   ·rw[cw (fb hj)] at e2;obtain⟨u',r',q⟩:=hl j y v' e1 e2 e3;refine⟨u',r',?_⟩;rcases q with q | ⟨k,c',e,z'⟩
    ·exact .inl q
    ·refine .inr ⟨k,c',e,z'.sameBut hs ?_⟩;rintro rfl;exact hj (a1J hN e1 (I.ok.inj _ _ _ e hc ▸ hi))
  ·by_cases hcc:c'=c
   ·subst hcc;exact⟨_,hc'⟩
   ·obtain⟨w2,z2⟩:=I.cell y c' e;exact⟨w2,z2.sameBut hs hcc⟩
  ·obtain⟨e,n,ne,nf,d⟩:=I.pin p hp;refine⟨(hs.2 p.1 ?_).trans e,n,ne,nf,d⟩;intro q;rw[q,hoc] at e;have q':oc=p.2:=aI e;exact d w' (by rw[<- q'];exact hocd)
theorem a1x {M:Model}{A:Around}{E:Value->Shared->Prop}{i:Nat}{x:Str}{v:V}{u:Value}{Q:Unit->Shared->Prop}(I:Inv X pins σ H s)(hN:X.N.Nodup)(hi:X.N[i]?=some x)(hx:Loc X.env.scope x)(r:C3 v u)
  (h:∀ s',Inv X pins (σ.set i (some v)) H s'->Q () s') (hf:X.fn x=true\/X.env.scope.names.lookup x=some .local:=by first | exact .inl rfl | exact .inr rfl | assumption):wpAny M A (storeName X.env x u) Q E s :=
 a0D I hN hi hx r (λs' I' _=>h s' I') hf
theorem Inv.call' {s':Shared}{ch:List Addr}(I:Inv X pins σ H s)(ho:s'.os=s.os)(u:Un (frs X.stack) ch H H' s.heap s'.heap)(hok:HOk X.prog X.w H' s'.heap)(hg:AllBare s'.gens)
  (hch:∀ b∈ch,(b∈X.ex\/X.sq.heap.objs.size<=b)/\b≠X.env.locals/\(∀ x c,X.env.cells.lookup x=some c->c≠b)/\∀ p∈X.pn++pins,p.1≠b):Inv X pins σ H' s':=by
 obtain⟨h',g',d',t',o'⟩:=s';have e:o'=s.os:=ho;subst e;exact I.call (g':=g') (t':=t') (d':=d') u hok hg hch
end
abbrev XK:=Value->Option Addr->Hp->Prop
abbrev St:=List (Option V)
abbrev VK:=V->Hp->Prop
abbrev TE:=St->Hp->VK->Prop
abbrev TT:=St->Hp->(Bool->Hp->Prop)->Prop
abbrev TA:=St->Hp->(List V->Hp->Prop)->Prop
structure T9 where
 nx:St->Hp->Prop
 rt:VK
 bk:St->Hp->Prop:=λ_ _=>False
 ct:St->Hp->Prop:=λ_ _=>False
abbrev TS:=T9->St->Hp->Prop
def EP (X:Cx)(pins:List (Addr×Obj))(σ:St)(Q:VK)(u:Value)(s':Shared):Prop:=∃ v H',Inv X pins σ H' s'/\C3 v u/\Q v H'
def TP (X:Cx)(pins:List (Addr×Obj))(σ:St)(Q:Bool->Hp->Prop)(b:Bool)(s':Shared):Prop:=∃ H',Inv X pins σ H' s'/\Q b H'
def AP (X:Cx)(pins:List (Addr×Obj))(σ:St)(Q:List V->Hp->Prop)(us:List Value)(s':Shared):Prop:=∃ vs H',Inv X pins σ H' s'/\C1 vs us/\Q vs H'
def SP (X:Cx)(pins:List (Addr×Obj))(D:T9)(f:Flow)(s':Shared):Prop :=
 match f with
 | .next=>∃ σ' H',Inv X pins σ' H' s'/\D.nx σ' H'
 | .brk=>∃ σ' H',Inv X pins σ' H' s'/\D.bk σ' H'
 | .cont=>∃ σ' H',Inv X pins σ' H' s'/\D.ct σ' H'
 | .ret u=>∃ v σ' H',Inv X pins σ' H' s'/\C3 v u/\D.rt v H'
def PE (X:Cx)(e:Expr)(t:TE):Prop :=
 ∀(pins:List (Addr×Obj)) (s:Shared) (σ:St) (H:Hp) (Q:VK),Inv X pins σ H s->t σ H Q->wpAny (model X.prog X.w) X.A (eval e X.env) (EP X pins σ Q) X.xe s
def PT (X:Cx)(e:Expr)(t:TT):Prop :=
 ∀(pins:List (Addr×Obj)) (s:Shared) (σ:St) (H:Hp) (Q:Bool->Hp->Prop),Inv X pins σ H s->t σ H Q->wpAny (model X.prog X.w) X.A (isTrue e X.env (eval e X.env)) (TP X pins σ Q) X.xe s
def PW (X:Cx)(e:Expr)(t:TT):Prop :=
 ∀(whole:Sem Value) (pins:List (Addr×Obj)) (s:Shared) (σ:St) (H:Hp) (Q:Bool->Hp->Prop),Inv X pins σ H s->t σ H Q->wpAny (model X.prog X.w) X.A (isTrue e X.env whole) (TP X pins σ Q) X.xe s
theorem PW.pt {X:Cx}{e:Expr}{t:TT}(h:PW X e t):PT X e t:=h _
def PA (X:Cx)(es:List Expr)(t:TA):Prop :=
 ∀(pos:Pos) (pins:List (Addr×Obj)) (s:Shared) (σ:St) (H:Hp) (Q:List V->Hp->Prop),Inv X pins σ H s->t σ H Q->wpAny (model X.prog X.w) X.A (spliced (backTo pos (starEach es X.env))) (AP X pins σ Q) X.xe s
def PS (X:Cx)(st:Stmt)(t:TS):Prop :=
 ∀(pins:List (Addr×Obj)) (s:Shared) (σ:St) (H:Hp) (D:T9),Inv X pins σ H s->t D σ H->wpAny (model X.prog X.w) X.A (exec st X.env) (SP X pins D) X.xe s
def PSs (X:Cx)(st:List Stmt)(t:TS):Prop :=
 ∀(pins:List (Addr×Obj)) (s:Shared) (σ:St) (H:Hp) (D:T9),Inv X pins σ H s->t D σ H->wpAny (model X.prog X.w) X.A (execs st X.env) (SP X pins D) X.xe s
theorem thn {α:Type}{t:Sem α}{Q Q':α->Shared->Prop}{M:Model}{A:Around}{E:Value->Shared->Prop}{s:Shared}(h:wpAny M A t Q E s)(hQ:∀ a s,Q a s->Q' a s):wpAny M A t Q' E s:=bO h hQ λ_ _ x=>x
end L2
namespace L2
open PySem PySem.Spec PyProof.Rows
section
variable {X:Cx}
theorem bin {a b:Expr}{ta tb:TE}(ha:PE X a ta)(hb:PE X b tb){pins:List (Addr×Obj)}{s:Shared}{σ:St}{H:Hp}{R:V->V->Hp->Prop}(I:Inv X pins σ H s)(h:ta σ H λx H1=>tb σ H1 λy H2=>R x y H2)
  {α:Type} {Q:α->Shared->Prop} {f:Value->Value->Sem α}
  (hf:∀ v u s2 x y H2,Inv X pins σ H2 s2->C3 x v->C3 y u->R x y H2->wpAny (model X.prog X.w) X.A (f v u) Q X.xe s2) :
  wpAny (model X.prog X.w) X.A (eval a X.env) (λv s₁=>wpAny (model X.prog X.w) X.A (eval b X.env) (λu s₂=>wpAny (model X.prog X.w) X.A (f v u) Q X.xe s₂) X.xe s₁) X.xe s:=by
 refine thn (ha pins s σ H _ I h) λv s1 ⟨x,H1,I1,r1,q1⟩=>?_
 refine thn (hb pins s1 σ H1 _ I1 q1) λu s2 ⟨y,H2,I2,r2,q2⟩=>?_
 exact hf v u s2 x y H2 I2 r1 r2 q2
def U3 (i:Nat):TE:=fun σ H Q=>∃ v,σ[i]?=some (some v)/\Q v H
def tC (v:V):TE:=λ_ H Q=>Q v H
theorem b1S {i:Nat}{x:Str}{pos:Pos}(hN:X.N[i]?=some x)(hv:Vis X.env.scope x)(hd:(x == ("__debug__":Str))=false:=by decide)(hcd:(x == ("__classdict__":Str))=false:=by decide):PE X (.Name x pos) (U3 i):=by
 intro pins s σ H Q I h;obtain⟨v,e,h⟩:=h;obtain⟨m,hn,hl⟩:=I.loc;obtain⟨u,r,l⟩:=hl i x v hN e hv;have fin:EP X pins σ Q u s:=⟨v,H,I,r,h⟩
 rcases l with ⟨hk,hm⟩ | ⟨hk,c,hc,hcell⟩
 ·exact jb (jT I.ok.kind hk hn hm fin) hd
 ·rcases hk with hk | hk
  ·exact jb (wpAny_loadName_cell I.ok.kind hk hc hcell fin) hd
  ·exact jb (wpAny_loadName_free I.ok.kind hk hc hcell fin hcd) hd
theorem A4 {i j pos}:PE X (.Constant (.int i) j pos) (tC (.int i)):=λ_ _ _ H _ I h=>wpAny_Constant_int ⟨.int i,H,I.tok _,⟨_,rfl⟩,h⟩
theorem Q4 {b j pos}:PE X (.Constant (.bool b) j pos) (tC (.bl b)):=λ_ _ _ H _ I h=>Constant_bool ⟨.bl b,H,I,rfl,h⟩
theorem V3 {j pos}:PE X (.Constant .none j pos) (tC .non):=λ_ _ _ H _ I h=>Constant_none ⟨.non,H,I,rfl,h⟩
theorem B3 {x j pos}:PE X (.Constant (.str x) j pos) (tC (.str x)):=λ_ _ _ H _ I h=>Calls.Constant_str ⟨.str x,H,I.tok _,⟨_,rfl⟩,h⟩
def Gl (X:Cx)(x:Str):Prop:=X.env.kindOf x=some .globalImplicit
theorem a1r {E:Value->Shared->Prop}{pins:List (Addr×Obj)}{s:Shared}{σ:St}{H:Hp}{x:Str}{u:Value}{pos:Pos}{Q:Value->Shared->Prop}(I:Inv X pins σ H s)(hg:Gl X x)(hm:X.mg x=some u)(h:Q u s)
  (hd:(x == ("__debug__":Str))=false:=by decide):wpAny (model X.prog X.w) X.A (eval (.Name x pos) X.env) Q E s :=
 gX I.ok.kind hg (Calls.loadGlobal_global (by rw[I.ok.glob];exact I.mod.glob.keeps I.bk) hm h) hd
theorem a0c {E:Value->Shared->Prop}{pins:List (Addr×Obj)}{s:Shared}{σ:St}{H:Hp}{x:Str}{u:Value}{pos:Pos}{Q:Value->Shared->Prop}(I:Inv X pins σ H s)(hg:Gl X x)(hm:X.mg x=none)(hv:bootBuiltins x=some u)(h:Q u s)
  (hn:x≠"__name__":=by decide) (hd:(x == ("__debug__":Str))=false:=by decide):wpAny (model X.prog X.w) X.A (eval (.Name x pos) X.env) Q E s:=by
 obtain⟨mb,h1,h2⟩:=I.mod.blt;exact gX I.ok.kind hg (Calls.loadGlobal_builtin (by rw[I.ok.glob];exact I.mod.glob.keeps I.bk) hm (by rw[I.ok.blt];exact h1.keeps I.bk) ((h2 x hn).trans hv) h) hd
theorem Q1 {x:Str}{v:V}{u:Value}{pos:Pos}(hg:Gl X x)(hm:X.mg x=some u)(r:C3 v u)(hd:(x == ("__debug__":Str))=false:=by decide):PE X (.Name x pos) (tC v) :=
 λ_ _ _ H _ I h=>a1r I hg hm ⟨v,H,I,r,h⟩ hd
variable {a b:Expr}{ta tb:TE}{pos:Pos}
def PC (X:Cx)(op:CmpOp)(a b:Expr)(t:TE):Prop :=
 ∀(pins:List (Addr×Obj)) (s:Shared) (σ:St) (H:Hp) (Q:VK),Inv X pins σ H s->t σ H Q ->
  wpAny (model X.prog X.w) X.A (eval a X.env) (λv s₁=>wpAny (model X.prog X.w) X.A (eval b X.env) (λu s₂=>wpAny (model X.prog X.w) X.A (compareOp op v u) (EP X pins σ Q) X.xe s₂) X.xe s₁) X.xe s
theorem a8h (b:Expr){op:CmpOp}(h:op≠.In)(h2:op≠.NotIn):behindInMarks op b=false:=by
 have e1:(op == CmpOp.In)=false:=by cases op<;>first | rfl | exact absurd rfl h
 have e2:(op == CmpOp.NotIn)=false:=by cases op<;>first | rfl | exact absurd rfl h2
 cases b<;>simp[behindInMarks,e1,e2]
def b3q (ta:TE):TE:=fun σ H Q=>ta σ H λx H1=>Q (.bl (decide (x=.non))) H1
def b3k (ta:TE):TE:=fun σ H Q=>ta σ H λx H1=>Q (.bl (!decide (x=.non))) H1
theorem C3.none_iff {x:V}{v:Value}(r:C3 x v):(v == cA)=decide (x=.non):=by
 cases x with
 | non=>cases r;rfl
 | bl _=>cases r;rfl
 | int _=>obtain⟨t,rfl⟩:=r;rfl
 | str _=>obtain⟨t,rfl⟩:=r;rfl
 | byt _=>obtain⟨t,rfl⟩:=r;rfl
 | flt _=>obtain⟨t,rfl⟩:=r;rfl
 | ref _=>cases r;rfl
 | ty _=>cases r;rfl
theorem a7O {j pos'}(ha:PE X a ta):PC X .Is a (.Constant .none j pos') (b3q ta):=by
 intro pins s σ H Q I h;refine thn (ha pins s σ H _ I h) λv s1 ⟨x,H1,I1,r1,q1⟩=>?_
 exact Constant_none (is_none_gen ⟨.bl _,H1,I1,by rw[r1.none_iff];rfl,q1⟩)
def tB (t:TE):TT:=fun σ H Q=>t σ H λx H1=>∃ c,x=.bl c/\Q c H1
theorem a0E {op:CmpOp}{t:TE}(h:PC X op a b t)(h1:behindInMarks op b=false:=by first | exact a8h _ (by decide) (by decide) | rfl):PT X (.Compare a [op] [b] pos) (tB t):=by
 intro pins s σ H Q I hw;refine jK (thn (h pins s σ H _ I hw) λv s1 h1=>thn h1 λu s2 h2=>thn h2 λc s3 ⟨x,H1,I1,r1,q1⟩=>?_) h1;obtain⟨d,rfl,q⟩:=q1;cases r1;exact du ⟨H1,I1,q⟩
theorem R8 {e:Expr}{t:TE}(h:PE X e t)(he:∀ whole,isTrue e X.env whole=(do let v <- whole;standAt e.pos;holding [v] (truthy v)):=by intro _;rfl):PT X e (tB t):=by
 intro pins s σ H Q I hw;refine isTrue_plain (thn (h pins s σ H _ I hw) λv s1 ⟨x,H1,I1,r1,q1⟩=>?_) (he _);obtain⟨d,rfl,q⟩:=q1;cases r1;exact du ⟨H1,I1,q⟩
variable {tA tB':TT}{W4:List Expr}
def b3y (t u:TT):TT:=fun σ H Q=>t σ H λc H1=>if c=true then u σ H1 Q else Q false H1
def tOr (t u:TT):TT:=fun σ H Q=>t σ H λc H1=>if c=true then Q true H1 else u σ H1 Q
def b3m (t:TT):TT:=fun σ H Q=>t σ H λc H1=>Q (!c) H1
theorem a1n (ha:PT X a tA):PW X (.BoolOp .And [a] pos) tA:=by
 intro wh pins s σ H Q I h;refine isTrue_and (thn (ha pins s σ H Q I h) λc s1 e=>?_);cases c with
 | true=>exact isTrue_and_nil e
 | false=>exact e
theorem W6 (ha:PT X a tA):PW X (.BoolOp .Or [a] pos) tA:=by
 intro wh pins s σ H Q I h;refine isTrue_or (thn (ha pins s σ H Q I h) λc s1 e=>?_);cases c with
 | false=>exact isTrue_or_nil e
 | true=>exact e
theorem a3f (ha:PT X a tA)(hb:PW X (.BoolOp .And (b::W4) pos) tB'):PW X (.BoolOp .And (a::b::W4) pos) (b3y tA tB'):=by
 intro wh pins s σ H Q I h;refine isTrue_and (thn (ha pins s σ H _ I h) λc s1 ⟨H1,I1,q1⟩=>?_);cases c with
 | true=>exact hb wh pins s1 σ H1 Q I1 q1
 | false=>exact⟨H1,I1,q1⟩
theorem W7 (ha:PT X a tA)(hb:PW X (.BoolOp .Or (b::W4) pos) tB'):PW X (.BoolOp .Or (a::b::W4) pos) (tOr tA tB'):=by
 intro wh pins s σ H Q I h;refine isTrue_or (thn (ha pins s σ H _ I h) λc s1 ⟨H1,I1,q1⟩=>?_);cases c with
 | true=>exact⟨H1,I1,q1⟩
 | false=>exact hb wh pins s1 σ H1 Q I1 q1
theorem Q7 (ha:PT X a tA):PT X (.UnaryOp .Not a pos) (b3m tA):=by
 intro pins s σ H Q I h;exact isTrue_not (ha pins s σ H (λc H1=>Q (!c) H1) I h)
def b0M (ta tb:TE):TE:=fun σ H Q=>ta σ H λx H1=>∃ c,x=.bl c/\if c=true then tb σ H1 Q else Q (.bl false) H1
def b4n (ta tb:TE):TE:=fun σ H Q=>ta σ H λx H1=>∃ c,x=.bl c/\if c=true then Q (.bl true) H1 else tb σ H1 Q
def b0I (ta:TE):TE:=fun σ H Q=>ta σ H λx H1=>∃ c,x=.bl c/\Q (.bl (!c)) H1
theorem a0H {op}{t:TE}(h:PE X a t):PE X (.BoolOp op [a] pos) t:=λpins s σ H Q I hw=>BoolOp_one (h pins s σ H Q I hw)
theorem Z9 (ha:PE X a ta)(hb:PE X (.BoolOp .And (b::W4) pos) tb):PE X (.BoolOp .And (a::b::W4) pos) (b0M ta tb):=by
 intro pins s σ H Q I h;refine BoolOp_and (thn (ha pins s σ H _ I h) λv s1 ⟨x,H1,I1,r1,q1⟩=>?_);obtain⟨c,rfl,q1⟩:=q1;cases r1;refine du ?_;cases c with
 | true=>exact hb pins s1 σ H1 Q I1 q1
 | false=>exact⟨.bl false,H1,I1,rfl,q1⟩
theorem a7J (ha:PE X a ta):PE X (.UnaryOp .Not a pos) (b0I ta):=by
 intro pins s σ H Q I h;refine UnaryOp_ (thn (ha pins s σ H _ I h) λv s1 ⟨x,H1,I1,r1,q1⟩=>?_);obtain⟨c,rfl,q1⟩:=q1;cases r1;exact not_of (du ⟨.bl (!c),H1,I1,rfl,q1⟩)
end
end L2
namespace L2
open PySem PySem.Spec PyProof.Rows
def SqL (K:ae)(H:Hp)(a:Addr)(xs:List V):Prop :=
 Rd H a (.lst xs) \/
  ∃(o:Obj) (its:Array Value) (n:Nat),K.lookup a=some o/\o.cls=.type "list"/\o.dict=none/\o.data=.seq its n/\its.size<=sizeLine/\C1 xs its.toList
def SqT (K:ae)(H:Hp)(a:Addr)(xs:List V):Prop :=
 Rd H a (.tup xs) \/
  ∃(o:Obj) (its:Array Value) (n:Nat),K.lookup a=some o/\o.cls=.type "tuple"/\o.data=.seq its n/\its.size<=sizeLine/\C1 xs its.toList
def b4N:Value->Option V
 | .none=>some .non
 | .bool b=>some (.bl b)
 | .int i _=>some (.int i)
 | .str x _=>some (.str x)
 | .bytes b _=>some (.byt b)
 | .float b _=>some (.flt b)
 | .ref a=>some (.ref a)
 | .type n=>some (.ty n)
 | _=>none
theorem C3.abs {x:V}{u:Value}(r:C3 x u):b4N u=some x:=by
 cases x with
 | non=>cases r;rfl
 | bl _=>cases r;rfl
 | int _=>obtain⟨t,rfl⟩:=r;rfl
 | str _=>obtain⟨t,rfl⟩:=r;rfl
 | byt _=>obtain⟨t,rfl⟩:=r;rfl
 | flt _=>obtain⟨t,rfl⟩:=r;rfl
 | ref _=>cases r;rfl
 | ty _=>cases r;rfl
theorem C3.inj {x y:V}{u:Value}(r:C3 x u)(q:C3 y u):x=y:=aI (r.abs.symm.trans q.abs)
theorem C1.inj:∀ {xs ys:List V} {us:List Value},C1 xs us->C1 ys us->xs=ys
 | _,_,_,.nil,.nil=>rfl
 | _,_,_,.cons r t,.cons r' t'=>by rw[r.inj r',C1.inj t t']
section
variable {X:Cx}{pins:List (Addr×Obj)}{σ:St}{H:Hp}{s:Shared}{a:Addr}{xs ys:List V}
theorem SqL.of {K:ae}(h:H a=some (.lst xs)):SqL K H a xs:=.inl (.inl h)
theorem SqT.of {K:ae}(h:H a=some (.tup xs)):SqT K H a xs:=.inl (.inl h)
theorem Inv.list (I:Inv X pins σ H s)(h:SqL X.K H a xs):∃ its:List Value,C1 xs its/\PlainL s.heap a its.toArray/\xs.length<=sizeLine:=by
 rcases h with h | ⟨o,its,n,hk,hc,hd,hs,hz,r⟩
 ·obtain⟨z,its,n,r,e⟩:=h.ok I.hok;exact⟨its,r,⟨_,n,e,rfl,rfl,rfl⟩,z⟩
 ·refine⟨its.toList,r,⟨o,n,I.kIn a o hk,hc,hd, ~~~hs⟩,?_⟩;have e:=r.length;simp only[bz] at e;omega
theorem Inv.tuple (I:Inv X pins σ H s)(h:SqT X.K H a xs):∃ its:List Value,C1 xs its/\IsTup s.heap a its.toArray/\xs.length<=sizeLine:=by
 rcases h with h | ⟨o,its,n,hk,hc,hs,hz,r⟩
 ·obtain⟨z,its,r,p⟩:=h.ok I.hok;exact⟨its,r,p,z⟩
 ·refine⟨its.toList,r,⟨o,I.kIn a o hk,hc,n, ~~~hs⟩,?_⟩;have e:=r.length;simp only[bz] at e;omega
theorem Inv.list_inj (I:Inv X pins σ H s)(h:SqL X.K H a xs)(h':SqL X.K H a ys):xs=ys:=by
 obtain⟨its,r,⟨o,n,e,_,_,d⟩,_⟩:=I.list h;obtain⟨its',r',⟨o',n',e',_,_,d'⟩,_⟩:=I.list h';rw[e] at e';cases e';rw[d] at d';injection d' with d1 _
 have:its=its':=by simpa using congrArg iI d1
 subst this;exact r.inj r'
theorem Inv.tuple_inj (I:Inv X pins σ H s)(h:SqT X.K H a xs)(h':SqT X.K H a ys):xs=ys:=by
 obtain⟨its,r,⟨o,e,_,n,d⟩,_⟩:=I.tuple h;obtain⟨its',r',⟨o',e',_,n',d'⟩,_⟩:=I.tuple h';rw[e] at e';cases e';rw[d] at d';injection d' with d1 _
 have:its=its':=by simpa using congrArg iI d1
 subst this;exact r.inj r'
end
abbrev Cx.wish (X:Cx)(E:Value->Shared->Prop):Cx:={X with xe:=E}
abbrev Cx.nox (X:Cx):Cx:=X.wish λ_ _=>False
theorem Cx.Ok.wish {X:Cx}(ok:X.Ok)(E:Value->Shared->Prop):(X.wish E).Ok :=
 ⟨ok.mod,ok.kind,ok.glob,ok.blt,ok.above,ok.inj,ok.has,ok.cab,ok.hd,ok.frames,ok.stk,ok.exf,ok.bs,ok.bsz,ok.noex,ok.exfs,ok.funs,ok.frf⟩
theorem Cx.Ok.unwish {X:Cx}{E:Value->Shared->Prop}(ok:(X.wish E).Ok):X.Ok :=
 ⟨ok.mod,ok.kind,ok.glob,ok.blt,ok.above,ok.inj,ok.has,ok.cab,ok.hd,ok.frames,ok.stk,ok.exf,ok.bs,ok.bsz,ok.noex,ok.exfs,ok.funs,ok.frf⟩
section
variable {X:Cx}{pins:List (Addr×Obj)}{σ:St}{H:Hp}{s:Shared}{E:Value->Shared->Prop}
theorem Inv.wish (I:Inv X pins σ H s)(E:Value->Shared->Prop):Inv (X.wish E) pins σ H s:=⟨I.ok.wish E,I.os,I.bare,I.base,I.loc,I.cell,I.free,I.freeC,I.pin,I.hok,I.len⟩
theorem Inv.unwish (I:Inv (X.wish E) pins σ H s):Inv X pins σ H s:=⟨I.ok.unwish,I.os,I.bare,I.base,I.loc,I.cell,I.free,I.freeC,I.pin,I.hok,I.len⟩
theorem SP.unwish {D:T9}{f:Flow}{s':Shared}(h:SP (X.wish E) pins D f s'):SP X pins D f s':=by
 cases f with
 | next=>obtain⟨σ',H',I,q⟩:=h;exact⟨σ',H',I.unwish,q⟩
 | brk=>obtain⟨σ',H',I,q⟩:=h;exact⟨σ',H',I.unwish,q⟩
 | cont=>obtain⟨σ',H',I,q⟩:=h;exact⟨σ',H',I.unwish,q⟩
 | ret u=>obtain⟨v,σ',H',I,r,q⟩:=h;exact⟨v,σ',H',I.unwish,r,q⟩
theorem PE.nox {e:Expr}{t:TE}(h:PE X.nox e t):PE X e t:=λpins s σ H Q I hw =>
 bO (h pins s σ H Q (I.wish _) hw) (λ_ _ ⟨v,H',I',r,q⟩=>⟨v,H',I'.unwish,r,q⟩) λ_ _ z=>cD z
theorem PT.nox {e:Expr}{t:TT}(h:PT X.nox e t):PT X e t:=λpins s σ H Q I hw =>
 bO (h pins s σ H Q (I.wish _) hw) (λ_ _ ⟨H',I',q⟩=>⟨H',I'.unwish,q⟩) λ_ _ z=>cD z
theorem PSs.nox {st:List Stmt}{t:TS}(h:PSs X.nox st t):PSs X st t:=λpins s σ H D I hw =>
 bO (h pins s σ H D (I.wish _) hw) (λ_ _ q=>q.unwish) λ_ _ z=>cD z
end
section
variable {X:Cx}{st:Stmt}{W4:List Stmt}{t u:TS}{e:Expr}{te:TE}{pos:Pos}
def b0J:TS:=λD σ H=>D.nx σ H
def b1l (t u:TS):TS:=λD σ H=>t {D with nx:=u D} σ H
theorem E6:PSs X [] b0J:=λ_ _ σ H _ I h=>dZ ⟨σ,H,I,h⟩
theorem A3 (h1:PS X st t)(h2:PSs X W4 u):PSs X (st::W4) (b1l t u):=by
 intro pins s σ H D I h;refine io (thn (h1 pins s σ H {D with nx:=u D} I h) λf s1 q=>?_);cases f with
 | next =>
  obtain⟨σ',H',I',q⟩:=q;exact h2 pins s1 σ' H' D I' q
 | ret v=>exact q
 | brk=>exact q
 | cont=>exact q
theorem A5 (h1:PS X st t):PSs X [st] t:=by
 intro pins s σ H D I h;refine io (thn (h1 pins s σ H D I h) λf s1 q=>?_);cases f with
 | next=>exact dZ q
 | ret v=>exact q
 | brk=>exact q
 | cont=>exact q
theorem Inv.quiet {pins:List (Addr×Obj)}{σ:St}{H:Hp}{s:Shared}(I:Inv X pins σ H s):interactive X.env=false:=by simp[interactive,I.ok.kind]
def b0K (te:TE):TS:=λD σ H=>te σ H λ_ H1=>D.nx σ H1
theorem N5 (he:PE X e te)(hs:swapsWith e none pos.line X.env=pure false:=by rfl):PS X (.Expr e pos) (b0K te):=by
 intro pins s σ H D I h;exact wpAny_Expr_any (thn (he pins s σ H _ I h) λv s1 ⟨x,H1,I1,r1,q1⟩=>⟨σ,H1,I1,q1⟩) I.quiet hs
def b3i (te:TE):TS:=λD σ H=>te σ H D.rt
theorem B5 (he:PE X e te):PS X (.Return (some e) pos) (b3i te):=by
 intro pins s σ H D I h;exact wpAny_Return_some (thn (he pins s σ H _ I h) λv s1 ⟨x,H1,I1,r1,q1⟩=>⟨x,σ,H1,I1,r1,q1⟩)
def b3g:TS:=λD _ H=>D.rt .non H
def b3s (c:TT)(t u:TS):TS:=λD σ H=>c σ H λb H1=>if b=true then t D σ H1 else u D σ H1
theorem N4 {c:Expr}{a b:List Stmt}{tc:TT}(hc:PT X c tc)(ha:PSs X a t)(hb:PSs X b u):PS X (.If c a b pos) (b3s tc t u):=by
 intro pins s σ H D I h;refine wpAny_If (thn (hc pins s σ H _ I h) λd s1 ⟨H1,I1,q1⟩=>?_);cases d with
 | true=>exact ha pins s1 σ H1 D I1 q1
 | false=>exact hb pins s1 σ H1 D I1 q1
end
abbrev TG:=V->St->Hp->(St->Hp->Prop)->Prop
abbrev TGs:=List V->St->Hp->(St->Hp->Prop)->Prop
def PG (X:Cx)(target:Expr)(t:TG):Prop :=
 ∀(pins:List (Addr×Obj)) (s:Shared) (σ:St) (H:Hp) (v:V) (u:Value) (Q:St->Hp->Prop),Inv X pins σ H s->C3 v u->t v σ H Q ->
  wpAny (model X.prog X.w) X.A (assign target X.env u) (λ_ s'=>∃ σ' H',Inv X pins σ' H' s'/\Q σ' H') X.xe s
def PGs (X:Cx)(ts:List Expr)(t:TGs):Prop :=
 ∀(pins:List (Addr×Obj)) (s:Shared) (σ:St) (H:Hp) (vs:List V) (us:List Value) (Q:St->Hp->Prop),Inv X pins σ H s->C1 vs us->t vs σ H Q ->
  wpAny (model X.prog X.w) X.A (assignInOrder ((assignEach ts X.env).map (·.2)) us) (λ_ s'=>∃ σ' H',Inv X pins σ' H' s'/\Q σ' H') X.xe s
abbrev b0B:=V->V->V->Hp->(Hp->Prop)->Prop
def b4a (X:Cx)(t:b0B):Prop :=
 ∀(pins:List (Addr×Obj)) (s:Shared) (σ:St) (H:Hp) (o i v:V) (ov iv u:Value) (Q:Hp->Prop),Inv X pins σ H s->C3 o ov->C3 i iv->C3 v u->t o i v H Q ->
  wpAny (model X.prog X.w) X.A (setItem ov iv u) (λ_ s'=>∃ H',Inv X pins σ H' s'/\Q H') X.xe s
section
variable {X:Cx}{pos:Pos}
def P4 (i:Nat):TG:=λv σ H Q=>Q (σ.set i (some v)) H
theorem A9 {i:Nat}{x:Str}(hN:X.N.Nodup)(hi:X.N[i]?=some x)(hx:Loc X.env.scope x)(hf:X.fn x=true\/X.env.scope.names.lookup x=some .local:=by first | exact .inl rfl | exact .inr rfl | assumption):PG X (.Name x pos) (P4 i):=by
 intro pins s σ H v u Q I r h;exact hJ (a1x I hN hi hx r (λs' I'=>⟨_,H,I',h⟩) hf)
def b3T:TGs:=λvs σ H Q=>vs=[]/\Q σ H
def a8G (t:TG)(u:TGs):TGs:=λvs σ H Q=>∃ v r,vs=v::r/\t v σ H fun σ' H'=>u r σ' H' Q
theorem Q0:PGs X [] b3T:=by
 intro pins s σ H vs us Q I r h;obtain⟨e,h⟩:=h;subst e;cases r;exact assignInOrder_nil ⟨σ,H,I,h⟩
theorem E1 {e:Expr}{es:List Expr}{t:TG}{u:TGs}(h1:PG X e t)(h2:PGs X es u)
  (hs:(assignEach (e::es) X.env).map (·.2)=assign e X.env::(assignEach es X.env).map (·.2):=by rfl):PGs X (e::es) (a8G t u):=by
 intro pins s σ H vs us Q I r h;obtain⟨v,vr,e1,h⟩:=h;subst e1;cases r with
 | cons r rr =>
  rw[hs];refine assignInOrder_cons (thn (h1 pins s σ H _ _ _ I r h) λ_ s1 ⟨σ1,H1,I1,q1⟩=>?_);exact h2 pins s1 σ1 H1 _ _ Q I1 rr q1
def b2F (K:ae)(n:Nat)(t:TGs):TG:=λv σ H Q=>∃ a xs,v=.ref a/\SqT K H a xs/\xs.length=n/\t xs σ H Q
theorem b1Q {es:List Expr}{k:Nat}{t:TGs}{n:Nat}(hc:X.calm=true)(h:PGs X es t)
  (hn:(assignEach es X.env).length=n:=by rfl) (hst:(assignEach es X.env).findIdx? (·.1)=none:=by rfl):PG X (.Tuple es k pos) (b2F X.K n t):=by
 intro pins s σ H v u Q I r hw;obtain⟨a,xs,e1,hq,hl,hw⟩:=hw;subst e1;cases r;obtain⟨its,rv,ht,hz⟩:=I.tuple hq;refine assign_Tuple_tuple (I.ok.hd hc) ht (by simp[hn,<- hl,rv.length]) hst λh' hx=>?_
 have I1:Inv X pins σ H {s with heap:=h'}:=I.kept (t':=s.toks) λb o e=>hx b o (aY (aF e)) e
 exact h pins _ σ H xs _ Q I1 (~~~rv) hw
def b3R (to ti:TE)(t:b0B):TG:=λv σ H Q=>to σ H λo H1=>ti σ H1 λi H2=>t o i v H2 λH3=>Q σ H3
theorem b1R {o i:Expr}{to ti:TE}{t:b0B}(ho:PE X o to)(hi:PE X i ti)(hs:b4a X t)
  (ha:∀ v,assign (.Subscript o i pos) X.env v=(do
   let ov <- holding [v] (eval o X.env)
   let iv <- holding [v,ov] (eval i X.env)
   standAt pos
   holding [v,ov,iv] (setItem ov iv v)
   release [v,ov,iv] []):=by intro _;rfl):PG X (.Subscript o i pos) (b3R to ti t):=by
 intro pins s σ H v u Q I r h;rw[ha];refine af (ce (thn (ho pins s σ H _ I h) λov s1 ⟨x,H1,I1,r1,q1⟩=>?_));refine af (ce (thn (hi pins s1 σ H1 _ I1 q1) λiv s2 ⟨y,H2,I2,r2,q2⟩=>?_));refine af (dY (af (ce (thn (hs pins s2 σ H2 x y v ov iv u _ I2 r1 r2 r q2) λ_ s3 ⟨H3,I3,q3⟩=>?_))));exact wpAny_release ⟨σ,H3,I3,q3⟩
def a5b (te:TE)(g:TG):TS:=λD σ H=>te σ H λx H1=>g x σ H1 D.nx
theorem a0F {tg e:Expr}{te:TE}{g:TG}(he:PE X e te)(hg:PG X tg g)(hs:swapsWithSole [tg] e pos.line X.env=pure false:=by rfl)(hw:swappedStores [tg] e X.env=pure none:=by rfl)
  (h1:(assignEach [tg] X.env).map (·.2)=[assign tg X.env]:=by rfl):PS X (.Assign [tg] e pos) (a5b te g):=by
 intro pins s σ H D I h;refine wpAny_Assign_stores (thn (he pins s σ H _ I h) λv s1 ⟨x,H1,I1,r1,q1⟩=>?_) hs hw;rw[h1];exact thn (hg pins s1 σ H1 x v _ I1 r1 q1) λ_ s2 q=>q
theorem B6 {i:Nat}{x:Str}{e:Expr}{te:TE}{pos':Pos}(hN:X.N.Nodup)(hi:X.N[i]?=some x)(hx:Loc X.env.scope x)(he:PE X e te)(hs:swapsWith e (some (.Name x pos')) pos.line X.env=pure false:=by rfl)(hf:X.fn x=true\/X.env.scope.names.lookup x=some .local:=by first | exact .inl rfl | exact .inr rfl | assumption) :
  PS X (.Assign [.Name x pos'] e pos) (a5b te (P4 i)):=by
 intro pins s σ H D I h;refine wpAny_Assign_Name (thn (he pins s σ H _ I h) λv s1 ⟨y,H1,I1,r1,q1⟩=>?_) hs;exact a1x I1 hN hi hx r1 (λs2 I2=>⟨_,H1,I2,q1⟩) hf
end
section
variable {X:Cx}{pos:Pos}
def a7e (c:TT)(tb:TS):TS:=λD σ H=>∃ W:Nat->St->Hp->Prop,(∃ m,W m σ H)/\∀ m σ H,W m σ H ->
 c σ H λb H1=>if b=true then ∃ N:St->Hp->Prop,(∀ σ' H',N σ' H'->∃ m',m'<m/\W m' σ' H')/\tb {D with nx:=N,ct:=N,bk:=D.nx} σ H1 else D.nx σ H1
theorem a4q {c:Expr}{body:List Stmt}{tc:TT}{tb:TS}(hp:PassesOwn (model X.prog X.w) X.A X.env X.xe)(hc:PT X c tc)(hb:PSs X body tb):PS X (.While c body [] pos) (a7e tc tb):=by
 intro pins s σ H D I h;obtain⟨W,⟨m0,w0⟩,turn⟩:=h;refine wpAny_While (codeAny_whileLoop (λn s'=>∃ σ' H',Inv X pins σ' H' s'/\W n σ' H') ?_ m0 ⟨σ,H,I,w0⟩);rintro n s1 ⟨σ1,H1,I1,w1⟩;refine dm hp (thn (hc pins s1 σ1 H1 _ I1 (turn n σ1 H1 w1)) λb s2 ⟨H2,I2,q2⟩=>?_);cases b with
 | true =>
  obtain⟨N,hN,q2⟩:=q2;rw[if_pos rfl];refine dm hp (thn (hb pins s2 σ1 H2 _ I2 q2) λf s3 q3=>?_);cases f with
  | next =>
   obtain⟨σ3,H3,I3,n3⟩:=q3;obtain⟨m',hm,w3⟩:=hN σ3 H3 n3;exact⟨m',hm,σ3,H3,I3,w3⟩
  | cont =>
   obtain⟨σ3,H3,I3,n3⟩:=q3;obtain⟨m',hm,w3⟩:=hN σ3 H3 n3;exact⟨m',hm,σ3,H3,I3,w3⟩
  | brk=>exact q3
  | ret v=>exact q3
 | false =>
  rw[if_neg aN];exact dZ ⟨σ1,H2,I2,q2⟩
end
structure It where
 go:Nat->Hp->Prop
 yld:Nat->Hp->V->Hp->Prop
 stop:Nat->Hp->Prop
def a0Q (X:Cx)(pins:List (Addr×Obj))(H:Hp)(b:Addr):Prop :=
 H b=none/\b≠X.env.locals/\b∉X.fs/\(b∈X.ex\/X.sq.heap.objs.size<=b)/\(∀ x c,X.env.cells.lookup x=some c->c≠b)/\∀ p∈X.pn++pins,p.1≠b
theorem Inv.fpOk {X:Cx}{pins:List (Addr×Obj)}{σ:St}{H H':Hp}{s:Shared}{b:Addr}(I:Inv X pins σ H s)(hb:s.heap.objs.size<=b)(hn:H' b=none):a0Q X pins H' b:=by
 refine⟨hn,iY (aZ I.lt hb),I.nofs hb,.inr (aM I.sz hb),λx c e z=>?_,λp hp z=>?_⟩
 ·obtain⟨v,q⟩:=I.cell x c e;exact absurd (aZ q.lt (by rw[z];exact hb)) (cB _)
 ·exact absurd (aZ (aF (I.pin p hp).1) (by rw[z];exact hb)) (cB _)
structure a6U (P:Program)(w:World)(K:ae)(tg:Expr)(J:It)(fp:List Addr)(it:Addr)(tn:Nat->Heap->Prop):Prop where
 mem:it∈fp
 obj:∀ i h,tn i h->∀ b∈fp,∃ o,h.get? b=some o/\∀ v,o.data≠.cell v
 keep:∀ i h h',tn i h->(∀ b∈fp,∀ o,h.get? b=some o->h'.get? b=some o)->tn i h'
 item:∀(X:Cx),X.prog=P->X.w=w->X.K=K->X.calm=true->∀(i:Nat) (pins:List (Addr×Obj)) (s:Shared) (σ:St) (H:Hp) (E:Value->Shared->Prop),Inv X pins σ H s->(∀ b∈fp,a0Q X pins H b)->tn i s.heap->J.go i H ->
  wpAny (model P w) X.A (pyNext (.ref it)) (λr s1=>∃ u,r=some u /\
   wpAny (model P w) X.A (letOwnedTupleGo tg (.ref it) u) (λ_ s2=>∃ x H',Inv X pins σ H' s2/\C3 x u/\J.yld i H x H'/\tn (i+1) s2.heap/\∀ b∈fp,H' b=none) E s1) E s
 done:∀(X:Cx),X.prog=P->X.w=w->X.K=K->X.calm=true->∀(i:Nat) (pins:List (Addr×Obj)) (s:Shared) (σ:St) (H:Hp) (E:Value->Shared->Prop),Inv X pins σ H s->(∀ b∈fp,a0Q X pins H b)->tn i s.heap->J.stop i H ->
  wpAny (model P w) X.A (pyNext (.ref it)) (λr s1=>r=none/\Inv X pins σ H s1) E s
 self:∀(A:Around) (i:Nat) (s:Shared) (Q:Value->Shared->Prop) (E:Value->Shared->Prop),tn i s.heap->Q (.ref it) s->wpAny (model P w) A (pyIter (.ref it)) Q E s
abbrev TI:=St->Hp->(It->Hp->Prop)->Prop
def PIE (X:Cx)(pins:List (Addr×Obj))(σ:St)(tg:Expr)(R:It->Hp->Prop)(itv:Value)(s2:Shared):Prop :=
 ∃(it:Addr) (fp:List Addr) (tn:Nat->Heap->Prop) (J:It) (H':Hp),itv=.ref it/\Inv X pins σ H' s2/\a6U X.prog X.w X.K tg J fp it tn/\tn 0 s2.heap/\(∀ b∈fp,a0Q X pins H' b)/\R J H'
def PI (X:Cx)(tg iter:Expr)(wi:TI):Prop :=
 ∀(pins:List (Addr×Obj)) (s:Shared) (σ:St) (H:Hp) (R:It->Hp->Prop),Inv X pins σ H s->wi σ H R ->
  wpAny (model X.prog X.w) X.A (eval iter X.env) (λv s1=>wpAny (model X.prog X.w) X.A (pyIter v) (PIE X pins σ tg R) X.xe s1) X.xe s
theorem a8E {M:Model}{A:Around}{E:Value->Shared->Prop}{s:Shared}{tg:Expr}{it:Addr}{u:Value}{o:Obj}{n:String}{vs:Array Value}{Q:Unit->Shared->Prop}(ho:s.heap.get? it=some o)(hc:o.cls=.type n)(hd:o.data=.fields vs)
    (hn:["enumerate", "zip", "dict_itemiterator", "dict_reverseitemiterator", "odict_iterator", "itertools.zip_longest", "itertools.pairwise"].contains n=false) (hQ:Q () s):wpAny M A (letOwnedTupleGo tg (.ref it) u) Q E s:=by
  unfold letOwnedTupleGo;cases tg<;>first
    | exact aK hQ
    | (cases u<;>first
        | exact aK hQ
        | (refine af (ja ho ?_)
           rw[hc,hd];show wpAny M A (if (["enumerate", "zip", "dict_itemiterator", "dict_reverseitemiterator", "odict_iterator", "itertools.zip_longest", "itertools.pairwise"].contains n && vs[0]? == some (rawInt _))=true then _ else _) Q E s;rw[if_neg (by intro h;rw[hn,fk] at h;cases h)]
           exact aK hQ))
def Itl (K:ae)(a:Addr):It :=
 ⟨λi H=>∃ xs x,SqL K H a xs/\xs[i]?=some x,λi H x H'=>H'=H/\∀ xs,SqL K H a xs->xs[i]?=some x,λi H=>∃ xs,SqL K H a xs/\xs.length<=i⟩
def Itt (K:ae)(a:Addr):It :=
 ⟨λi H=>∃ xs x,SqT K H a xs/\xs[i]?=some x,λi H x H'=>H'=H/\∀ xs,SqT K H a xs->xs[i]?=some x,λi H=>∃ xs,SqT K H a xs/\xs.length<=i⟩
def Itr (lo:Int)(n:Nat):It:=⟨λi _=>i<n,λi H x H'=>H'=H/\x=.int (lo+i),λi _=>n<=i⟩
theorem a6r {P:Program}{w:World}{K:ae}{tg:Expr}(a it:Addr):a6U P w K tg (Itl K a) [it] it (λi h=>h.IsListIter it a i) where
 mem:=by simp
 obj:=λi h st b hb=>by
  have e:b=it:= ~~~hb
  subst e;obtain⟨o,e,c,d⟩:=st;exact⟨o,e,λv z=>by rw[d] at z;cases z⟩
 keep:=λi h h' st k=>st.at λo e=>k it (by simp) o e
 item:=by
  intro X hP hw hK hc i pins s σ H E I hf st hg;subst hP hw hK;obtain⟨xs,x,hq,hx⟩:=hg;obtain⟨its,rv,p,hz⟩:=I.list hq;obtain⟨u,hu,ru⟩:=rv.get hx;obtain⟨f0,f1,f2,f3,f4,f5⟩:=hf it (by simp);refine fV st p.isList (x:=u) (~~~hu) λh' st' sb=>?_
  have I1:Inv X pins σ H {s with heap:=h'}:=I.turned (t':=s.toks) (λb o hb e=>(sb.2 b hb).trans e) f0 f1 f3 f4 f5;obtain⟨o,e,c,d⟩:=id st';exact⟨u,rfl,a8E (s:={s with heap:=h'}) e c d (by decide) ⟨x,H,I1,ru,⟨rfl,λys hy=>by rw[I.list_inj hy hq];exact hx⟩,st',λb hb=>(hf b hb).1⟩⟩
 done:=by
  intro X hP hw hK hc i pins s σ H E I hf st hg;subst hP hw hK;obtain⟨xs,hq,hx⟩:=hg;obtain⟨its,rv,p,hz⟩:=I.list hq;obtain⟨f0,f1,f2,f3,f4,f5⟩:=hf it (by simp);have hl:=rv.length;exact jI (I.ok.hd hc) st p.isList (by simp;omega) λh' eb=>⟨rfl,I.turned (t':=s.toks) (λb o hb e=>eb b o hb e) f0 f1 f3 f4 f5⟩
 self:=λ_ _ _ _ _ st h=>jJ st h
theorem a4X {P:Program}{w:World}{K:ae}{tg:Expr}(a it:Addr):a6U P w K tg (Itt K a) [it] it (λi h=>h.IsTupleIter it a i) where
 mem:=by simp
 obj:=λi h st b hb=>by
  have e:b=it:= ~~~hb
  subst e;obtain⟨o,e,c,d⟩:=st;exact⟨o,e,λv z=>by rw[d] at z;cases z⟩
 keep:=λi h h' st k=>st.at λo e=>k it (by simp) o e
 item:=by
  intro X hP hw hK hc i pins s σ H E I hf st hg;subst hP hw hK;obtain⟨xs,x,hq,hx⟩:=hg;obtain⟨its,rv,p,hz⟩:=I.tuple hq;obtain⟨u,hu,ru⟩:=rv.get hx;obtain⟨f0,f1,f2,f3,f4,f5⟩:=hf it (by simp);refine wpAny_pyNext_tuple_item st (show s.heap.IsTuple a its.toArray from p) (x:=u) (~~~hu) λh' st' sb=>?_
  have I1:Inv X pins σ H {s with heap:=h'}:=I.turned (t':=s.toks) (λb o hb e=>(sb.2 b hb).trans e) f0 f1 f3 f4 f5;obtain⟨o,e,c,d⟩:=id st';exact⟨u,rfl,a8E (s:={s with heap:=h'}) e c d (by decide) ⟨x,H,I1,ru,⟨rfl,λys hy=>by rw[I.tuple_inj hy hq];exact hx⟩,st',λb hb=>(hf b hb).1⟩⟩
 done:=by
  intro X hP hw hK hc i pins s σ H E I hf st hg;subst hP hw hK;obtain⟨xs,hq,hx⟩:=hg;obtain⟨its,rv,p,hz⟩:=I.tuple hq;obtain⟨f0,f1,f2,f3,f4,f5⟩:=hf it (by simp);have hl:=rv.length;exact wpAny_pyNext_tuple_end (I.ok.hd hc) st (show s.heap.IsTuple a its.toArray from p) (by simp;omega) λh' eb=>⟨rfl,I.turned (t':=s.toks) (λb o hb e=>eb b o hb e) f0 f1 f3 f4 f5⟩
 self:=λ_ _ _ _ _ st h=>wpAny_pyIter_tupleiter st h
theorem a4Y {P:Program}{w:World}{K:ae}{tg:Expr}(it:Addr)(lo:Int)(n:Nat):a6U P w K tg (Itr lo n) [it] it (λi h=>IsRangeIter h it (lo+(i:Nat)*1) ((n:Int)-(i:Nat)) 1) where
 mem:=by simp
 obj:=λi h st b hb=>by
  have e:b=it:= ~~~hb
  subst e
  exact⟨_,st,λv z=>by
   have z':Data.fields _=Data.cell v:=z
   cases z'⟩
 keep:=λi h h' st k=>k it (by simp) _ st
 item:=by
  intro X hP hw hK hc i pins s σ H E I hf st hg;subst hP hw hK;obtain⟨f0,f1,f2,f3,f4,f5⟩:=hf it (by simp);have W:=Walks.range (prog:=X.prog) (w:=X.w) (I.ok.hd hc) it lo 1 n;refine W.item i s _ _ hg st λv h' tk hv st' kk=>?_
  obtain⟨t,rfl⟩:=hv;have I1:Inv X pins σ H {s with heap:=h',toks:=tk}:=I.turned (λb o hb e=>kk b o (~~~hb) e) f0 f1 f3 f4 f5;refine⟨_,rfl,a8E (s:={s with heap:=h',toks:=tk}) (n:="range_iterator") st' rfl rfl (by decide) ⟨.int (lo+i),H,I1,⟨t,?_⟩,⟨rfl,rfl⟩,st',λb hb=>(hf b hb).1⟩⟩;rw[Int.mul_one]
 done:=by
  intro X hP hw hK hc i pins s σ H E I hf st hg;subst hP hw hK;obtain⟨f0,f1,f2,f3,f4,f5⟩:=hf it (by simp);exact wpAny_pyNext_range_end (I.ok.hd hc) st (by have:n<=i:=hg;omega) λh' eb=>⟨rfl,I.turned (t':=s.toks) (λb o hb e=>eb b o hb e) f0 f1 f3 f4 f5⟩
 self:=λ_ _ _ _ _ st h=>wpAny_pyIter_rangeiter st h
end L2
namespace L2
open PySem PySem.Spec PyProof.Rows
section
variable {X:Cx}{tg:Expr}
def a8C (K:ae)(tl:TE):TI:=fun σ H R=>tl σ H λx H1=>∃ a,x=.ref a/\(∃ xs,SqL K H1 a xs)/\R (Itl K a) H1
def b2B (K:ae)(tl:TE):TI:=fun σ H R=>tl σ H λx H1=>∃ a,x=.ref a/\(∃ xs,SqT K H1 a xs)/\R (Itt K a) H1
theorem a9H {l:Expr}{tl:TE}(hl:PE X l tl):PI X tg l (a8C X.K tl):=by
 intro pins s σ H R I h;refine thn (hl pins s σ H _ I h) λv s1 ⟨x,H1,I1,r1,q1⟩=>?_
 obtain⟨a,e,⟨xs,hq⟩,q⟩:=q1;subst e;cases r1;obtain⟨its,rv,p,hz⟩:=I1.list hq;refine jW p.isList ?_;refine⟨s1.heap.objs.size,[s1.heap.objs.size],_,_,H1,rfl,I1.kept (t':=s1.toks) λb o e=>ao _ e,a6r a _,⟨_,aO _ rfl,rfl,rfl⟩,λb hb=>?_,q⟩;have e:b=s1.heap.objs.size:= ~~~hb
 subst e;exact I1.fpOk (ak _) (I1.hok.fresh (ak _))
theorem b1P {l:Expr}{tl:TE}(hl:PE X l tl):PI X tg l (b2B X.K tl):=by
 intro pins s σ H R I h;refine thn (hl pins s σ H _ I h) λv s1 ⟨x,H1,I1,r1,q1⟩=>?_
 obtain⟨a,e,⟨xs,hq⟩,q⟩:=q1;subst e;cases r1;obtain⟨its,rv,p,hz⟩:=I1.tuple hq;refine wpAny_pyIter_tuple (show s1.heap.IsTuple a its.toArray from p) ?_;refine⟨s1.heap.objs.size,[s1.heap.objs.size],_,_,H1,rfl,I1.kept (t':=s1.toks) λb o e=>ao _ e,a4X a _,⟨_,aO _ rfl,rfl,rfl⟩,λb hb=>?_,q⟩;have e:b=s1.heap.objs.size:= ~~~hb
 subst e;exact I1.fpOk (ak _) (I1.hok.fresh (ak _))
theorem a4p {pins:List (Addr×Obj)}{σ:St}{H:Hp}{s:Shared}{R:It->Hp->Prop}{E:Value->Shared->Prop}{lo hi:Int}{t u v:Tok}{tk:Nat}(I:Inv X pins σ H s)(h1:-(2 ^ 62)<=lo)(h2:lo<2 ^ 62)(h3:-(2 ^ 62)<=hi)(h4:hi<2 ^ 62)
  (q:R (Itr lo (hi-lo).toNat) H):wpAny (model X.prog X.w) X.A (pyIter (.ref s.heap.objs.size)) (PIE X pins σ tg R) E {s with heap:=s.heap.push {cls:=.type "range",data:=.fields #[.int lo t,.int hi u,.int 1 v]},toks:=tk}:=by
 refine wpAny_pyIter_range (IsRange.new ..) (small_one h1 h2 h3 h4) ?_;have I1:Inv X pins σ H {s with heap:=s.heap.push {cls:=.type "range",data:=.fields #[.int lo t,.int hi u,.int 1 v]},toks:=tk}:=I.kept λb o e=>ao _ e
 refine⟨(s.heap.push {cls:=.type "range",data:=.fields #[.int lo t,.int hi u,.int 1 v]}).objs.size,[(s.heap.push {cls:=.type "range",data:=.fields #[.int lo t,.int hi u,.int 1 v]}).objs.size],_,_,H,rfl,
  I1.kept (t':=tk) λb o e=>ao _ e,a4Y _ lo (hi-lo).toNat,?_,λb hb=>?_,q⟩
 ·have e1:lo+((0:Nat):Int)*1=lo:=by simp
  have e2:(((hi-lo).toNat:Nat):Int)-((0:Nat):Int)=gm lo hi 1:=by rw[rangeSize_one];split<;>omega
  show IsRangeIter _ _ (lo+((0:Nat):Int)*1) ((((hi-lo).toNat:Nat):Int)-((0:Nat):Int)) 1;rw[e1,e2];exact aO _ rfl
 ·have e:b=(s.heap.push {cls:=.type "range",data:=.fields #[.int lo t,.int hi u,.int 1 v]}).objs.size:= ~~~hb
  subst e;exact I1.fpOk (ak _) (I1.hok.fresh (ak _))
def b0Z (ta:TA):TI:=fun σ H R=>ta σ H λvs H1=>∃ j:Int,vs=[.int j]/\-(2 ^ 62)<=j/\j<2 ^ 62/\R (Itr 0 j.toNat) H1
def b0Y (ta:TA):TI:=fun σ H R=>ta σ H λvs H1=>∃ i j:Int,vs=[.int i,.int j]/\(-(2 ^ 62)<=i/\i<2 ^ 62/\-(2 ^ 62)<=j/\j<2 ^ 62)/\R (Itr i (j-i).toNat) H1
theorem M7 {a:Expr}{ta:TA}{p pos:Pos}(hg:Gl X "range")(hm:X.mg "range"=none)(ha:PA X [a] ta)(hs:starEach [a] X.env=[(false,eval a X.env)]:=by rfl):PI X tg (.Call (.Name "range" p) [a] [] pos) (b0Z ta):=by
 intro pins s σ H R I h;refine Call_ (a0c I hg hm jc (cp (thn (ha pos pins s σ H _ I h) λus s1 ⟨vs,H1,I1,r1,q1⟩=>?_) hs rfl));obtain⟨j,e,q1,q2,q⟩:=q1;subst e;cases r1 with
 | cons r rr =>
  cases rr;obtain⟨t,rfl⟩:=r;exact call_range_1 (a4p I1 ∅ ∅ q1 q2 (~~~q))
theorem a2C {a b:Expr}{ta:TA}{p pos:Pos}(hg:Gl X "range")(hm:X.mg "range"=none)(ha:PA X [a,b] ta)(hs:starEach [a,b] X.env=[(false,eval a X.env),(false,eval b X.env)]:=by rfl)(hs2:starEach [b] X.env=[(false,eval b X.env)]:=by rfl) :
  PI X tg (.Call (.Name "range" p) [a,b] [] pos) (b0Y ta):=by
 intro pins s σ H R I h;refine Call_ (a0c I hg hm jc (cp (thn (ha pos pins s σ H _ I h) λus s1 ⟨vs,H1,I1,r1,q1⟩=>?_) (by rw[hs,hs2]) (by rw[hs2];rfl)));obtain⟨i,j,e,⟨q1,q2,q3,q4⟩,q⟩:=q1;subst e;cases r1 with
 | cons r rr =>
  cases rr with
  | cons r' rr =>
   cases rr;obtain⟨t,rfl⟩:=r;obtain⟨t',rfl⟩:=r';exact call_range_2 (a4p I1 q1 q2 q3 q4 q)
def b1t (wi:TI)(g:TG)(tb:TS):TS:=λD σ H=>wi σ H λJ H1=>∃ W:Nat->Nat->St->Hp->Prop,(∃ m,W 0 m σ H1)/\∀ i m σ H,W i m σ H ->
 (J.stop i H/\D.nx σ H)\/(J.go i H/\∃ N:St->Hp->Prop,(∀ σ' H',N σ' H'->∃ m',m'<m/\W (i+1) m' σ' H')/\∀ x H',J.yld i H x H'->g x σ H' fun σ2 H2=>tb {D with nx:=N,ct:=N,bk:=D.nx} σ2 H2)
def Z8 (fp:List Addr)(h:Heap):List (Addr×Obj):=fp.filterMap λb=>(h.get? b).map λo=>(b,o)
theorem S5 {fp:List Addr}{h:Heap}{b:Addr}{o:Obj}(hb:b∈fp)(e:h.get? b=some o):(b,o)∈Z8 fp h:=jx.mpr ⟨b,hb,by rw[e];rfl⟩
theorem a6y {fp:List Addr}{h:Heap}{p:Addr×Obj}(hp:p∈Z8 fp h):p.1∈fp/\h.get? p.1=some p.2:=by
 obtain⟨b,hb,e⟩:=List.mem_filterMap.mp hp;cases q:h.get? b with
 | none=>rw[q] at e;cases e
 | some o =>
  rw[q] at e;have e':(b,o)=p:=aI e;subst e';exact⟨hb,q⟩
theorem Inv.pinned {pins:List (Addr×Obj)}{σ:St}{H:Hp}{s:Shared}{fp:List Addr}(I:Inv X pins σ H s)(hf:∀ b∈fp,a0Q X pins H b)(ho:∀ b∈fp,∃ o,s.heap.get? b=some o/\∀ v,o.data≠.cell v):Inv X (pins++Z8 fp s.heap) σ H s :=
 I.pins_of λp hp=>(aj.mp hp).elim (λz=>I.pin p (bj _ z)) λz=>by
  obtain⟨hb,e⟩:=a6y z;obtain⟨f0,f1,f2,_⟩:=hf p.1 hb;obtain⟨o,e',d⟩:=ho p.1 hb;rw[e] at e';cases e';exact⟨e,f0,f1,f2,d⟩
theorem Inv.unpinned {pins pl:List (Addr×Obj)}{σ:St}{H:Hp}{s:Shared}(I:Inv X (pins++pl) σ H s):Inv X pins σ H s:=I.pins_of λp hp=>I.pin p (bj _ (fT _ hp))
theorem P2 {iter:Expr}{body:List Stmt}{wi:TI}{g:TG}{tb:TS}{pos:Pos}(hp:PassesOwn (model X.prog X.w) X.A X.env X.xe)(hc:X.calm=true)(hi:PI X tg iter wi)(hg:PG X tg g)(hb:PSs X body tb)
  (hs:∀ x,foldedSetIterable iter X.env x=pure x:=by intro _;rfl):PS X (.For tg iter body [] pos) (b1t wi g tb):=by
 intro pins s σ H D I h;refine wpAny_For (thn (hi pins s σ H _ I h) λv s1 h1=>thn h1 λitv s2 h2=>?_) hs;obtain⟨it,fp,tn,J,H2,e,I2,T,st2,f2,W,⟨m0,w0⟩,turn⟩:=h2;subst e;have stat:∀ {H':Hp},(∀ b∈fp,H' b=none)->∀ b∈fp,a0Q X pins H' b:=λhn b hb=>⟨hn b hb,(f2 b hb).2⟩
 refine codeAny_forLoop_any (λn s'=>∃ i σ' H',Inv X pins σ' H' s'/\tn i s'.heap/\(∀ b∈fp,H' b=none)/\W i n σ' H') ?_ m0 ⟨0,σ,H2,I2,st2,λb hb=>(f2 b hb).1,w0⟩;rintro n s3 ⟨i,σ3,H3,I3,st3,fr3,w3⟩;rcases turn i n σ3 H3 w3 with ⟨stop,qn⟩ | ⟨go,N,hN,step⟩
 ·refine dm hp (thn (T.done X rfl rfl rfl hc i pins s3 σ3 H3 X.xe I3 (stat fr3) st3 stop) λr s4 ⟨hr,I4⟩=>?_);subst hr;exact dZ ⟨σ3,H3,I4,qn⟩
 ·refine dm hp (thn (T.item X rfl rfl rfl hc i pins s3 σ3 H3 X.xe I3 (stat fr3) st3 go) λr s4 ⟨u,hr,h4⟩=>?_);subst hr;refine dm hp (thn h4 λ_ s5 ⟨x,H5,I5,r5,y5,st5,fr5⟩=>?_);have I5':=I5.pinned (stat fr5) (T.obj _ _ st5);refine dm hp (thn (hg _ s5 σ3 H5 x u _ I5' r5 (step x H5 y5)) λ_ s6 ⟨σ6,H6,I6,q6⟩=>?_);refine dm hp (thn (hb _ s6 σ6 H6 _ I6 q6) λf s7 q7=>?_);have again:∀ {σ7:St} {H7:Hp},Inv X (pins++Z8 fp s5.heap) σ7 H7 s7->N σ7 H7->∃ m,m<n/\∃ i σ' H',Inv X pins σ' H' s7/\tn i s7.heap/\(∀ b∈fp,H' b=none)/\W i m σ' H':=λ{σ7 H7} I7 n7=>by
   obtain⟨m',hm,w7⟩:=hN σ7 H7 n7;refine⟨m',hm,i+1,σ7,H7,I7.unpinned,T.keep _ _ _ st5 λb hb o e=>(I7.pin (b,o) (bj _ (bj _ (S5 hb e)))).1,λb hb=>?_,w7⟩;obtain⟨o,e,d⟩:=T.obj _ _ st5 b hb;exact (I7.pin (b,o) (bj _ (bj _ (S5 hb e)))).2.1
  cases f with
  | next=>obtain⟨σ7,H7,I7,n7⟩:=q7;exact again I7 n7
  | cont=>obtain⟨σ7,H7,I7,n7⟩:=q7;exact again I7 n7
  | brk=>obtain⟨σ7,H7,I7,q7⟩:=q7;exact⟨σ7,H7,I7.unpinned,q7⟩
  | ret v=>obtain⟨x7,σ7,H7,I7,r7,q7⟩:=q7;exact⟨x7,σ7,H7,I7.unpinned,r7,q7⟩
end
theorem T8 {K:ae}{a:Addr}{xs:List V}{g:TG}{tb:TS}{D:T9}{σ:St}{H:Hp}(Pv:Nat->St->Hp->Prop)(h0:Pv 0 σ H)(hl:∀ i σ H,i<=xs.length->Pv i σ H->SqL K H a xs)
  (hs:∀ i x σ H,xs[i]?=some x->Pv i σ H->g x σ H fun σ2 H2=>tb {D with nx:=Pv (i+1),ct:=Pv (i+1),bk:=D.nx} σ2 H2) (hd:∀ σ H,Pv xs.length σ H->D.nx σ H) :
  ∃ W:Nat->Nat->St->Hp->Prop,(∃ m,W 0 m σ H)/\∀ i m σ H,W i m σ H ->
   ((Itl K a).stop i H/\D.nx σ H)\/((Itl K a).go i H/\∃ N:St->Hp->Prop,(∀ σ' H',N σ' H'->∃ m',m'<m/\W (i+1) m' σ' H')/\∀ x H',(Itl K a).yld i H x H'->g x σ H' fun σ2 H2=>tb {D with nx:=N,ct:=N,bk:=D.nx} σ2 H2):=by
 refine⟨λi m σ H=>m=xs.length-i/\i<=xs.length/\Pv i σ H,⟨xs.length,by simp,bi _,h0⟩,?_⟩;rintro i m σ H ⟨rfl,hi,p⟩;have q:=hl i σ H hi p;by_cases hlt:i<xs.length
 ·refine .inr ⟨⟨xs,xs[i],q,by simp[hlt]⟩,Pv (i+1),fun σ' H' p'=>⟨xs.length-(i+1),∅,rfl,hlt,p'⟩,λx H' y=>?_⟩;obtain⟨e,y⟩:=y;subst e;exact hs i x σ _ (y xs q) p
 ·have e:i=xs.length:=∅
  subst e;exact .inl ⟨⟨xs,q,ak _⟩,hd σ H p⟩
theorem Y5 {K:ae}{a:Addr}{xs:List V}{g:TG}{tb:TS}{D:T9}{σ:St}{H:Hp}(Pv:Nat->St->Hp->Prop)(h0:Pv 0 σ H)(hl:∀ i σ H,i<=xs.length->Pv i σ H->SqT K H a xs)
  (hs:∀ i x σ H,xs[i]?=some x->Pv i σ H->g x σ H fun σ2 H2=>tb {D with nx:=Pv (i+1),ct:=Pv (i+1),bk:=D.nx} σ2 H2) (hd:∀ σ H,Pv xs.length σ H->D.nx σ H) :
  ∃ W:Nat->Nat->St->Hp->Prop,(∃ m,W 0 m σ H)/\∀ i m σ H,W i m σ H ->
   ((Itt K a).stop i H/\D.nx σ H)\/((Itt K a).go i H/\∃ N:St->Hp->Prop,(∀ σ' H',N σ' H'->∃ m',m'<m/\W (i+1) m' σ' H')/\∀ x H',(Itt K a).yld i H x H'->g x σ H' fun σ2 H2=>tb {D with nx:=N,ct:=N,bk:=D.nx} σ2 H2):=by
 refine⟨λi m σ H=>m=xs.length-i/\i<=xs.length/\Pv i σ H,⟨xs.length,by simp,bi _,h0⟩,?_⟩;rintro i m σ H ⟨rfl,hi,p⟩;have q:=hl i σ H hi p;by_cases hlt:i<xs.length
 ·refine .inr ⟨⟨xs,xs[i],q,by simp[hlt]⟩,Pv (i+1),fun σ' H' p'=>⟨xs.length-(i+1),∅,rfl,hlt,p'⟩,λx H' y=>?_⟩;obtain⟨e,y⟩:=y;subst e;exact hs i x σ _ (y xs q) p
 ·have e:i=xs.length:=∅
  subst e;exact .inl ⟨⟨xs,q,ak _⟩,hd σ H p⟩
theorem U7 {lo:Int}{n:Nat}{g:TG}{tb:TS}{D:T9}{σ:St}{H:Hp}(Pv:Nat->St->Hp->Prop)(h0:Pv 0 σ H)
  (hs:∀ i σ H,i<n->Pv i σ H->g (.int (lo+i)) σ H fun σ2 H2=>tb {D with nx:=Pv (i+1),ct:=Pv (i+1),bk:=D.nx} σ2 H2) (hd:∀ σ H,Pv n σ H->D.nx σ H) :
  ∃ W:Nat->Nat->St->Hp->Prop,(∃ m,W 0 m σ H)/\∀ i m σ H,W i m σ H ->
   ((Itr lo n).stop i H/\D.nx σ H)\/((Itr lo n).go i H/\∃ N:St->Hp->Prop,(∀ σ' H',N σ' H'->∃ m',m'<m/\W (i+1) m' σ' H')/\∀ x H',(Itr lo n).yld i H x H'->g x σ H' fun σ2 H2=>tb {D with nx:=N,ct:=N,bk:=D.nx} σ2 H2):=by
 refine⟨λi m σ H=>m=n-i/\i<=n/\Pv i σ H,⟨n,by simp,bi _,h0⟩,?_⟩;rintro i m σ H ⟨rfl,hi,p⟩;by_cases hlt:i<n
 ·refine .inr ⟨hlt,Pv (i+1),fun σ' H' p'=>⟨n-(i+1),∅,rfl,hlt,p'⟩,λx H' y=>?_⟩;obtain⟨e,y⟩:=y;subst e y;exact hs i σ _ hlt p
 ·have e:i=n:=∅
  subst e;exact .inl ⟨ak _,hd σ H p⟩
theorem a3I {c:TT}{tb:TS}{D:T9}{σ:St}{H:Hp}(Pv:St->Hp->Prop)(μ:St->Hp->Nat)(h0:Pv σ H)
  (hs:∀ σ H,Pv σ H->c σ H λb H1=>if b=true then tb {D with nx:=fun σ' H'=>Pv σ' H'/\μ σ' H'<μ σ H,ct:=fun σ' H'=>Pv σ' H'/\μ σ' H'<μ σ H,bk:=D.nx} σ H1 else D.nx σ H1)
  (mono:∀ σ H Q Q',(∀ b H1,Q b H1->Q' b H1)->c σ H Q->c σ H Q'):a7e c tb D σ H:=by
 refine⟨λm σ H=>m=μ σ H/\Pv σ H,⟨_,rfl,h0⟩,?_⟩;rintro m σ H ⟨rfl,p⟩;refine mono σ H _ _ (λb H1 q=>?_) (hs σ H p);cases b with
 | true=>exact⟨_,fun σ' H' ⟨p',l⟩=>⟨_,l,rfl,p'⟩,q⟩
 | false=>exact q
end L2
namespace L2
open PySem PySem.Spec PyProof.Rows
abbrev R2:=V->V->Hp->VK->Prop
def OpR (X:Cx)(f:Value->Value->Sem Value)(r:R2):Prop :=
 ∀(pins:List (Addr×Obj)) (s:Shared) (σ:St) (H:Hp) (x y:V) (v u:Value) (Q:VK),Inv X pins σ H s->C3 x v->C3 y u->r x y H Q ->
  wpAny (model X.prog X.w) X.A (f v u) (EP X pins σ Q) X.xe s
def UnR (X:Cx)(f:Value->Sem Value)(r:V->Hp->VK->Prop):Prop :=
 ∀(pins:List (Addr×Obj)) (s:Shared) (σ:St) (H:Hp) (x:V) (v:Value) (Q:VK),Inv X pins σ H s->C3 x v->r x H Q ->
  wpAny (model X.prog X.w) X.A (f v) (EP X pins σ Q) X.xe s
def N1 (X:Cx)(f:Value)(r:List V->Hp->VK->Prop):Prop :=
 ∀(pins:List (Addr×Obj)) (s:Shared) (σ:St) (H:Hp) (xs:List V) (us:List Value) (Q:VK),Inv X pins σ H s->C1 xs us->r xs H Q ->
  wpAny (model X.prog X.w) X.A (call f us) (EP X pins σ Q) X.xe s
def b4O (X:Cx)(r:V->Hp->(Bool->Hp->Prop)->Prop):Prop :=
 ∀(pins:List (Addr×Obj)) (s:Shared) (σ:St) (H:Hp) (x:V) (v:Value) (Q:Bool->Hp->Prop),Inv X pins σ H s->C3 x v->r x H Q ->
  wpAny (model X.prog X.w) X.A (truthy v) (TP X pins σ Q) X.xe s
def tOp (r:R2)(ta tb:TE):TE:=fun σ H Q=>ta σ H λx H1=>tb σ H1 λy H2=>r x y H2 Q
def tUn (r:V->Hp->VK->Prop)(ta:TE):TE:=fun σ H Q=>ta σ H λx H1=>r x H1 Q
def rI (C:Int->Int->Prop)(g:Int->Int->V):R2:=λx y H Q=>∃ i j,x=.int i/\y=.int j/\C i j/\Q (g i j) H
def rI0 (g:Int->Int->V):R2:=λx y H Q=>∃ i j,x=.int i/\y=.int j/\Q (g i j) H
def rU (g:Int->V):V->Hp->VK->Prop:=λx H Q=>∃ i,x=.int i/\Q (g i) H
section
variable {X:Cx}{a b c:Expr}{ta tb tc:TE}{pos:Pos}
theorem b2Q (ha:PE X a ta)(hb:PE X b tb){pins:List (Addr×Obj)}{s:Shared}{σ:St}{H:Hp}{R:V->V->Hp->Prop}(I:Inv X pins σ H s)
  (h:ta σ H λx H1=>tb σ H1 λy H2=>R x y H2) {Q:Value->Shared->Prop} {f:Value->Value->Sem Value}
  (hf:∀ v u s2 x y H2,Inv X pins σ H2 s2->C3 x v->C3 y u->R x y H2->wpAny (model X.prog X.w) X.A (f v u) Q X.xe s2) :
  wpAny (model X.prog X.w) X.A (eval a X.env) (λv s₁=>wpAny (model X.prog X.w) X.A (eval b X.env) (λu s₂=>wpAny (model X.prog X.w) X.A (f v u) Q X.xe s₂) X.xe s₁) X.xe s:=by
 refine thn (ha pins s σ H _ I h) λv s1 ⟨x,H1,I1,r1,q1⟩=>?_
 refine thn (hb pins s1 σ H1 _ I1 q1) λu s2 ⟨y,H2,I2,r2,q2⟩=>?_
 exact hf v u s2 x y H2 I2 r1 r2 q2
theorem A7 {op:Operator}{r:R2}(ho:OpR X (binaryOp op) r)(ha:PE X a ta)(hb:PE X b tb):PE X (.BinOp a op b pos) (tOp r ta tb):=by
 intro pins s σ H Q I h;exact wpAny_BinOp (b2Q ha hb I h λv u s2 x y H2 I2 rx ry q=>ho pins s2 σ H2 x y v u Q I2 rx ry q)
theorem a2D {op:UnaryOp}{r:V->Hp->VK->Prop}(ho:UnR X (unaryOp op) r)(ha:PE X a ta):PE X (.UnaryOp op a pos) (tUn r ta):=by
 intro pins s σ H Q I h;exact UnaryOp_ (thn (ha pins s σ H _ I h) λv s1 ⟨x,H1,I1,r1,q1⟩=>ho pins s1 σ H1 x v Q I1 r1 q1)
theorem opI {f:Value->Value->Sem Value}{C:Int->Int->Prop}{g:Int->Int->Int}
  (rule:∀(i j:Int) (t u:Tok) (s:Shared) (Q:Value->Shared->Prop) (E:Value->Shared->Prop),C i j->Q (.int (g i j) s.toks) {s with toks:=s.toks+1}->wpAny (model X.prog X.w) X.A (f (.int i t) (.int j u)) Q E s) :
  OpR X f (rI C λi j=>.int (g i j)):=by
 intro pins s σ H x y v u Q I rx ry h;obtain⟨i,j,rfl,rfl,hc,q⟩:=h;obtain⟨t,rfl⟩:=rx;obtain⟨t',rfl⟩:=ry;exact rule i j t t' s _ _ hc ⟨.int (g i j),H,I.tok _,⟨_,rfl⟩,q⟩
theorem b3L {f:Value->Value->Sem Value}{g:Int->Int->Int}
  (rule:∀(i j:Int) (t u:Tok) (s:Shared) (Q:Value->Shared->Prop) (E:Value->Shared->Prop),Q (.int (g i j) s.toks) {s with toks:=s.toks+1}->wpAny (model X.prog X.w) X.A (f (.int i t) (.int j u)) Q E s) :
  OpR X f (rI0 λi j=>.int (g i j)):=by
 intro pins s σ H x y v u Q I rx ry h;obtain⟨i,j,rfl,rfl,q⟩:=h;obtain⟨t,rfl⟩:=rx;obtain⟨t',rfl⟩:=ry;exact rule i j t t' s _ _ ⟨.int (g i j),H,I.tok _,⟨_,rfl⟩,q⟩
theorem a9K {f:Value->Value->Sem Value}{g:Int->Int->Bool}
  (rule:∀(i j:Int) (t u:Tok) (s:Shared) (Q:Value->Shared->Prop) (E:Value->Shared->Prop),Q (.bool (g i j)) s->wpAny (model X.prog X.w) X.A (f (.int i t) (.int j u)) Q E s) :
  OpR X f (rI0 λi j=>.bl (g i j)):=by
 intro pins s σ H x y v u Q I rx ry h;obtain⟨i,j,rfl,rfl,q⟩:=h;obtain⟨t,rfl⟩:=rx;obtain⟨t',rfl⟩:=ry;exact rule i j t t' s _ _ ⟨.bl (g i j),H,I,rfl,q⟩
def b4R (i j:Int):Prop:=0<j/\j<1073741824
def b4e (i j:Int):Prop:=0<=j/\j<=1000000/\i.natAbs<2 ^ 64
def b0D (i j:Int):Prop:=(-(2 ^ 64)<i/\i<2 ^ 64)\/(-(2 ^ 64)<j/\j<2 ^ 64)
theorem b0D.ok {i j:Int}(h:b0D i j):IntMulOk i j:=by
 rcases h with ⟨h1,h2⟩ | ⟨h1,h2⟩
 ·exact .of_left (intBits_le_64 h1 h2)
 ·exact .of_right (intBits_le_64 h1 h2)
theorem O0:OpR X (binaryOp .Add) (rI0 λi j=>.int (i+j)):=b3L λ_ _ _ _ _ _ _ q=>add_int q
theorem S0:OpR X (binaryOp .Sub) (rI0 λi j=>.int (i-j)):=b3L λ_ _ _ _ _ _ _ q=>sub_int q
theorem W9:OpR X (binaryOp .Mult) (rI b0D λi j=>.int (i*j)):=opI λ_ _ _ _ _ _ _ hc q=>mul_int q hc.ok
theorem a3n:OpR X (binaryOp .FloorDiv) (rI b4R λi j=>.int (i / j)):=opI λi j _ _ _ _ _ hc q=>by
 have h1:(0:Int)<j:=hc.1;have h2:j<1073741824:=hc.2;exact floordiv_int ∅ (by rw[Int.fdiv_eq_ediv_of_nonneg i ∅];exact q) (.inl (PyProof.noPylong_small ∅))
theorem N9:OpR X (binaryOp .Mod) (rI (λ_ j=>0<j) λi j=>.int (i % j)):=opI λi j _ _ _ _ _ hc q=>by
 have h1:(0:Int)<j:=hc;exact mod_int' ∅ (by rw[Int.fmod_eq_emod_of_nonneg i ∅];exact q)
theorem a7Q:OpR X (binaryOp .Pow) (rI b4e λi j=>.int (i ^ j.toNat)):=opI λ_ _ _ _ _ _ _ hc q=>pow_int_small hc.1 hc.2.1 hc.2.2 q
theorem unI {f:Value->Sem Value}{g:Int->Int}
  (rule:∀(i:Int) (t:Tok) (s:Shared) (Q:Value->Shared->Prop) (E:Value->Shared->Prop),Q (.int (g i) s.toks) {s with toks:=s.toks+1}->wpAny (model X.prog X.w) X.A (f (.int i t)) Q E s) :
  UnR X f (rU λi=>.int (g i)):=by
 intro pins s σ H x v Q I rx h;obtain⟨i,rfl,q⟩:=h;obtain⟨t,rfl⟩:=rx;exact rule i t s _ _ ⟨.int (g i),H,I.tok _,⟨_,rfl⟩,q⟩
theorem a0B:UnR X (unaryOp .USub) (rU λi=>.int (-i)):=unI λ_ _ _ _ _ q=>neg_int q
end
def a7t:V->V->Bool
 | .non,.non=>true | .non,.int _=>true | .int _,.non=>true | .non,.bl _=>true | .bl _,.non=>true | .non,.str _=>true | .str _,.non=>true
 | .int _,.int _=>true | .bl _,.bl _=>true | .str _,.str _=>true | .byt _,.byt _=>true
 | .int _,.str _=>true | .str _,.int _=>true | .bl _,.str _=>true | .str _,.bl _=>true
 | _,_=>false
def rEq:R2:=λx y H Q=>a7t x y=true/\Q (.bl (decide (x=y))) H
def rNe:R2:=λx y H Q=>a7t x y=true/\Q (.bl (!decide (x=y))) H
theorem a6n {i j:Int}:decide (V.int i=V.int j)=(i == j):=by
 rw[eV];simp
theorem a8S {i j:Bool}:decide (V.bl i=V.bl j)=(i == j):=by
 rw[eV];simp
theorem a6m {i j:Str}:decide (V.str i=V.str j)=(i == j):=by
 rw[eV];simp
theorem a6o {i j:Array UInt8}:decide (V.byt i=V.byt j)=(i.toList == j.toList):=by
 rw[eV];cases i;cases j;simp
section
variable {X:Cx}{a b c:Expr}{ta tb tc:TE}{pos:Pos}
theorem G8 {pins:List (Addr×Obj)}{σ:St}{H:Hp}{s:Shared}{Q:VK}{k k':Bool}(I:Inv X pins σ H s)(q:Q (.bl k) H)(e:k=k'):EP X pins σ Q (.bool k') s:=by
 subst e;exact⟨.bl k,H,I,rfl,q⟩
theorem a1e:OpR X (compareOp .Eq) rEq:=by
 intro pins s σ H x y v u Q I rx ry h;obtain⟨hs,q⟩:=h;cases x with
 | non =>
  cases rx;cases y with
  | non=>cases ry;exact PySem.EqNone.eq_none_none (G8 I q (by simp))
  | bl j=>cases ry;exact PySem.EqNone.eq_none_bool (G8 I q (by simp))
  | int j=>obtain⟨t',rfl⟩:=ry;exact PySem.EqNone.eq_none_int (G8 I q (by simp))
  | str j=>obtain⟨t',rfl⟩:=ry;exact PySem.EqNone.eq_none_str (G8 I q (by simp))
  | _=>exact absurd (show false=true from hs) aN
 | bl i =>
  cases rx;cases y with
  | non=>cases ry;exact PySem.EqNone.eq_bool_none (G8 I q (by simp))
  | bl j=>cases ry;exact eq_bool (G8 I q a8S)
  | str j=>obtain⟨t',rfl⟩:=ry;exact PySem.EqMixed.eq_bool_str (G8 I q (by simp))
  | _=>exact absurd (show false=true from hs) aN
 | int i =>
  obtain⟨t,rfl⟩:=rx;cases y with
  | non=>cases ry;exact PySem.EqNone.eq_int_none (G8 I q (by simp))
  | int j=>obtain⟨t',rfl⟩:=ry;exact eq_int (G8 I q a6n)
  | str j=>obtain⟨t',rfl⟩:=ry;exact PySem.EqMixed.eq_int_str (G8 I q (by simp))
  | _=>exact absurd (show false=true from hs) aN
 | str i =>
  obtain⟨t,rfl⟩:=rx;cases y with
  | non=>cases ry;exact PySem.EqNone.eq_str_none (G8 I q (by simp))
  | bl j=>cases ry;exact PySem.EqMixed.eq_str_bool (G8 I q (by simp))
  | int j=>obtain⟨t',rfl⟩:=ry;exact PySem.EqMixed.eq_str_int (G8 I q (by simp))
  | str j=>obtain⟨t',rfl⟩:=ry;exact eq_str (G8 I q a6m)
  | _=>exact absurd (show false=true from hs) aN
 | byt i =>
  obtain⟨t,rfl⟩:=rx;cases y with
  | byt j=>obtain⟨t',rfl⟩:=ry;exact PySem.W.eq_bytes (G8 I q a6o)
  | _=>exact absurd (show false=true from hs) aN
 | _=>cases y<;>exact absurd (show false=true from hs) aN
theorem a1I:OpR X (compareOp .NotEq) rNe:=by
 intro pins s σ H x y v u Q I rx ry h;obtain⟨hs,q⟩:=h;cases x with
 | non =>
  cases rx;cases y with
  | non=>cases ry;exact PySem.EqNone.ne_none_none (G8 I q (by simp))
  | bl j=>cases ry;exact PySem.EqNone.ne_none_bool (G8 I q (by simp))
  | int j=>obtain⟨t',rfl⟩:=ry;exact PySem.EqNone.ne_none_int (G8 I q (by simp))
  | str j=>obtain⟨t',rfl⟩:=ry;exact PySem.EqNone.ne_none_str (G8 I q (by simp))
  | _=>exact absurd (show false=true from hs) aN
 | bl i =>
  cases rx;cases y with
  | non=>cases ry;exact PySem.EqNone.ne_bool_none (G8 I q (by simp))
  | bl j=>cases ry;exact ne_bool (G8 I q (congrArg not a8S))
  | str j=>obtain⟨t',rfl⟩:=ry;exact PySem.EqMixed.ne_bool_str (G8 I q (by simp))
  | _=>exact absurd (show false=true from hs) aN
 | int i =>
  obtain⟨t,rfl⟩:=rx;cases y with
  | non=>cases ry;exact PySem.EqNone.ne_int_none (G8 I q (by simp))
  | int j=>obtain⟨t',rfl⟩:=ry;exact ne_int (G8 I q (congrArg not a6n))
  | str j=>obtain⟨t',rfl⟩:=ry;exact PySem.EqMixed.ne_int_str (G8 I q (by simp))
  | _=>exact absurd (show false=true from hs) aN
 | str i =>
  obtain⟨t,rfl⟩:=rx;cases y with
  | non=>cases ry;exact PySem.EqNone.ne_str_none (G8 I q (by simp))
  | bl j=>cases ry;exact PySem.EqMixed.ne_str_bool (G8 I q (by simp))
  | int j=>obtain⟨t',rfl⟩:=ry;exact PySem.EqMixed.ne_str_int (G8 I q (by simp))
  | str j=>obtain⟨t',rfl⟩:=ry;exact ne_str (G8 I q (congrArg not a6m))
  | _=>exact absurd (show false=true from hs) aN
 | byt i =>
  obtain⟨t,rfl⟩:=rx;cases y with
  | byt j=>obtain⟨t',rfl⟩:=ry;exact PySem.W.ne_bytes (G8 I q (congrArg not a6o))
  | _=>exact absurd (show false=true from hs) aN
 | _=>cases y<;>exact absurd (show false=true from hs) aN
theorem a6a:OpR X (compareOp .Lt) (rI0 λi j=>.bl (decide (i<j))):=a9K λ_ _ _ _ _ _ _ q=>lt_int q
theorem a7R:OpR X (compareOp .LtE) (rI0 λi j=>.bl (decide (i<=j))):=a9K λ_ _ _ _ _ _ _ q=>le_int q
theorem a4t:OpR X (compareOp .Gt) (rI0 λi j=>.bl (decide (j<i))):=a9K λ_ _ _ _ _ _ _ q=>gt_int q
theorem b3K:OpR X (compareOp .GtE) (rI0 λi j=>.bl (decide (j<=i))):=a9K λ_ _ _ _ _ _ _ q=>ge_int q
theorem E8 (b:Expr){op:CmpOp}(h:op≠.In:=by decide)(h2:op≠.NotIn:=by decide):behindInMarks op b=false:=by
 have e1:(op == CmpOp.In)=false:=by cases op<;>first | rfl | exact absurd rfl h
 have e2:(op == CmpOp.NotIn)=false:=by cases op<;>first | rfl | exact absurd rfl h2
 cases b<;>simp[behindInMarks,e1,e2]
theorem S6 {op:CmpOp}{r:R2}(ho:OpR X (compareOp op) r)(ha:PE X a ta)(hb:PE X b tb)(hm:behindInMarks op b=false):PE X (.Compare a [op] [b] pos) (tOp r ta tb):=by
 intro pins s σ H Q I h;exact wpAny_Compare1 (b2Q ha hb I h λv u s2 x y H2 I2 rx ry q=>ho pins s2 σ H2 x y v u Q I2 rx ry q) hm
def b0F (t:TE):TT:=fun σ H Q=>t σ H λx H'=>∃ k,x=.bl k/\Q k H'
theorem I0 {op:CmpOp}{r:R2}(ho:OpR X (compareOp op) r)(ha:PE X a ta)(hb:PE X b tb)(hm:behindInMarks op b=false):PT X (.Compare a [op] [b] pos) (b0F (tOp r ta tb)):=by
 intro pins s σ H Q I h
 refine jK (thn (ha pins s σ H _ I h) λv s1 ⟨x,H1,I1,r1,q1⟩=>thn (hb pins s1 σ H1 _ I1 q1) λu s2 ⟨y,H2,I2,r2,q2⟩ =>
  thn (ho pins s2 σ H2 x y v u _ I2 r1 r2 q2) λc s3 ⟨z,H3,I3,r3,k,e,q3⟩=>?_) hm
 subst e;cases r3;exact du ⟨H3,I3,q3⟩
def b1w (r r':R2)(ta tb tc:TE):TE:=fun σ H Q=>ta σ H λx H1=>tb σ H1 λy H2=>r x y H2 λz H3=>∃ k,z=.bl k /\
 (if k=true then tc σ H3 λw' H4=>r' y w' H4 Q else Q (.bl false) H3)
def b2S (K:ae)(x:V)(H:Hp)(k:Bool):Prop :=
 match x with
 | .non=>k=false
 | .bl b=>k=b
 | .int i=>k=(i != 0)
 | .str y=>y.length<=sizeLine/\k=((y.length:Int) != 0)
 | .byt y=>y.size<=sizeLine/\k=((y.size:Int) != 0)
 | .ref p=>(∃ xs,SqL K H p xs/\k=!xs.isEmpty)\/(∃ xs,SqT K H p xs/\k=!xs.isEmpty)\/∃ kvs,H p=some (.dK kvs)/\k=!kvs.isEmpty
 | _=>False
theorem a5r {κ:Type}{kvs:List (κ×V)}{vs:List (κ×Value)}(r:KV kvs vs):(!vs.isEmpty)=!kvs.isEmpty:=by
 cases r<;>rfl
theorem a1U {xs:List V}{its:List Value}(r:C1 xs its):(!its.toArray.isEmpty)=!xs.isEmpty:=by
 cases r<;>simp
theorem a0b:(sizeLine:Nat)<2 ^ 63:=by rw[sizeLine_eq];decide
theorem b1h:b4O X (λx H Q=>∃ k,b2S X.K x H k/\Q k H):=by
 intro pins s σ H x v Q I rx h;obtain⟨k,e,q⟩:=h;have hl:=a0b;have hs:sizeLine=16777216:=sizeLine_eq;cases x with
 | non =>
  cases rx;have e':k=false:=e;subst e';exact truthy_none ⟨H,I,q⟩
 | bl b =>
  cases rx;have e':k=b:=e;subst e';exact du ⟨H,I,q⟩
 | int i =>
  obtain⟨t,rfl⟩:=rx;have e':k=(i != 0):=e;subst e';exact PySem.P.truthy_int ⟨H,I,q⟩
 | str y =>
  obtain⟨t,rfl⟩:=rx;obtain⟨hy,e'⟩:y.length<=sizeLine/\k=((y.length:Int) != 0):=e;subst e';exact PySem.P.truthy_str ∅ ⟨H,I.tok _,q⟩
 | byt y =>
  obtain⟨t,rfl⟩:=rx;obtain⟨hy,e'⟩:y.size<=sizeLine/\k=((y.size:Int) != 0):=e;subst e';exact PySem.W.truthy_bytes ∅ ⟨H,I.tok _,q⟩
 | ref p =>
  cases rx;have e':(∃ xs,SqL X.K H p xs/\k=!xs.isEmpty)\/(∃ xs,SqT X.K H p xs/\k=!xs.isEmpty)\/∃ kvs,H p=some (.dK kvs)/\k=!kvs.isEmpty:=e;rcases e' with ⟨xs,hx,e'⟩ | ⟨xs,hx,e'⟩ | ⟨kvs,hx,e'⟩
  ·subst e';obtain⟨its,r,pl,hz⟩:=I.list hx;have hlen:=r.length;exact wpAny_truthy_list pl.isList (by simp only[aB];omega) ⟨H,I.tok _,by rw[a1U r];exact q⟩
  ·subst e';obtain⟨its,r,pl,hz⟩:=I.tuple hx;have hlen:=r.length;exact truthy_tuple pl (by simp only[aB];omega) ⟨H,I.tok _,by rw[a1U r];exact q⟩
  ·subst e';obtain⟨hz,hS,vs,r,m⟩:kvs.length<=sizeLine/\(p == sysModules)=false/\∃ vs,KV kvs vs/\s.heap.DictOf (J8 X.prog X.w) p vs:=I.hok p _ hx;have hlen:kvs.length=vs.length:=dH r;exact wpAny_truthy_dict hS m ∅ ⟨H,I.tok _,by rw[a5r r];exact q⟩
 | _=>exact (show False from e).elim
theorem a7D (ha:PE X a ta)(he:∀ whole,isTrue a X.env whole=(do let v <- whole;standAt a.pos;holding [v] (truthy v))) :
  PT X a (fun σ H Q=>ta σ H λx H'=>∃ k,b2S X.K x H' k/\Q k H'):=by
 intro pins s σ H Q I h;exact isTrue_plain (thn (ha pins s σ H _ I h) λv s1 ⟨x,H1,I1,r1,q1⟩=>b1h pins s1 σ H1 x v Q I1 r1 q1) (he _)
theorem T5 {x:V}{us:List Value}(r:C1 [x] us):∃ u,us=[u]/\C3 x u:=by
 cases r with
 | cons r1 r2=>cases r2;exact⟨_,rfl,r1⟩
theorem a3K {x y:V}{us:List Value}(r:C1 [x,y] us):∃ u w',us=[u,w']/\C3 x u/\C3 y w':=by
 cases r with
 | cons r1 r2 =>
  cases r2 with
  | cons r3 r4=>cases r4;exact⟨_,_,rfl,r1,r3⟩
theorem U8 (hc:X.calm=true):N1 X (.builtin "max") (λxs H Q=>∃ i j,xs=[.int i,.int j]/\Q (.int (if j>i then j else i)) H):=by
 intro pins s σ H xs us Q I r h;obtain⟨i,j,rfl,q⟩:=h;obtain⟨u,w',rfl,⟨t,rfl⟩,⟨t',rfl⟩⟩:=a3K r;refine max_two_ints (I.ok.hd hc) λh' tk k=>⟨_,H,I.kept k,?_,q⟩
 by_cases hj:j>i
 ·rw[if_pos hj,if_pos hj];exact⟨_,rfl⟩
 ·rw[if_neg hj,if_neg hj];exact⟨_,rfl⟩
theorem a0O (hc:X.calm=true):N1 X (.builtin "min") (λxs H Q=>∃ i j,xs=[.int i,.int j]/\Q (.int (if j<i then j else i)) H):=by
 intro pins s σ H xs us Q I r h;obtain⟨i,j,rfl,q⟩:=h;obtain⟨u,w',rfl,⟨t,rfl⟩,⟨t',rfl⟩⟩:=a3K r;refine min_two_ints (I.ok.hd hc) λh' tk k=>⟨_,H,I.kept k,?_,q⟩
 by_cases hj:j<i
 ·rw[if_pos hj,if_pos hj];exact⟨_,rfl⟩
 ·rw[if_neg hj,if_neg hj];exact⟨_,rfl⟩
theorem a6S:N1 X (.type "int") (λxs H Q=>(∃ i,xs=[.int i]/\Q (.int i) H)\/∃ k,xs=[.bl k]/\Q (.int (if k then 1 else 0)) H):=by
 intro pins s σ H xs us Q I r h;rcases h with ⟨i,rfl,q⟩ | ⟨k,rfl,q⟩
 ·obtain⟨u,rfl,t,rfl⟩:=T5 r;exact call_int_int ⟨.int i,H,I,⟨_,rfl⟩,q⟩
 ·obtain⟨u,rfl,r1⟩:=T5 r;cases r1;exact call_int_bool ⟨.int (if k then 1 else 0),H,I.tok _,⟨_,rfl⟩,q⟩
theorem M8:N1 X (.type "str") (λxs H Q=>∃ i,xs=[.int i]/\i.natAbs.log2<1920/\Q (.str (toString i)) H):=by
 intro pins s σ H xs us Q I r h;obtain⟨i,rfl,hz,q⟩:=h;obtain⟨u,rfl,t,rfl⟩:=T5 r;exact PySem.P.str_of_int hz ⟨.str _,H,I.tok _,⟨_,rfl⟩,q⟩
def b4P (K:ae)(x:V)(H:Hp)(n:Nat):Prop :=
 match x with
 | .str y=>y.length<=sizeLine/\n=y.length
 | .byt y=>y.size<=sizeLine/\n=y.size
 | .ref p=>(∃ xs,SqL K H p xs/\n=xs.length)\/∃ xs,SqT K H p xs/\n=xs.length
 | _=>False
theorem a9a:N1 X (.builtin "len") (λxs H Q=>∃ x n,xs=[x]/\b4P X.K x H n/\Q (.int n) H):=by
 intro pins s σ H xs us Q I r h;obtain⟨x,n,rfl,e,q⟩:=h;obtain⟨u,rfl,rx⟩:=T5 r;have hl:=a0b;have hs:sizeLine=16777216:=sizeLine_eq;cases x with
 | str y =>
  obtain⟨t,rfl⟩:=rx;obtain⟨hy,e'⟩:y.length<=sizeLine/\n=y.length:=e;subst e';exact len_str ∅ ⟨.int _,H,I.tok _,⟨_,rfl⟩,q⟩
 | byt y =>
  obtain⟨t,rfl⟩:=rx;obtain⟨hy,e'⟩:y.size<=sizeLine/\n=y.size:=e;subst e';exact PySem.W.len_bytes ∅ ⟨.int _,H,I.tok _,⟨_,rfl⟩,q⟩
 | ref p =>
  cases rx;have e':(∃ xs,SqL X.K H p xs/\n=xs.length)\/∃ xs,SqT X.K H p xs/\n=xs.length:=e;rcases e' with ⟨xs,hx,e'⟩ | ⟨xs,hx,e'⟩
  ·subst e';obtain⟨its,r',pl,hz⟩:=I.list hx;have hlen:=r'.length;exact iW pl.isList (by simp only[aB];omega) ⟨.int xs.length,H,I.tok _,⟨_,by simp only[aB];rw[hlen]⟩,q⟩
  ·subst e';obtain⟨its,r',pl,hz⟩:=I.tuple hx;have hlen:=r'.length;exact len_tuple pl (by simp only[aB];omega) ⟨.int xs.length,H,I.tok _,⟨_,by simp only[aB];rw[hlen]⟩,q⟩
 | _=>exact (show False from e).elim
end
end L2
namespace L2
open PySem PySem.Spec PyProof.Rows
structure b2X (h:Heap)(x dx C:Addr)(mA:Str->Option Value):Prop where
 obj:h.get? x=some (gD C dx)
 ns:h.Ns1 dx mA
 ne:dx≠x
theorem a6A {h:Heap}{dx:Addr}{mA:Str->Option Value}(n:h.Ns1 dx mA):∃ od,h.get? dx=some od/\∀ name,PySem.W.lookIn name od=some (mA name):=by
 obtain⟨o,es,ep,ho,hd,hk,_,hm⟩:=n;refine⟨o,ho,λname=>?_⟩;have e:=hm name;unfold nsFind findBy at e;rw[<- Array.find?_toList] at e;unfold PySem.W.lookIn;rw[hd];dsimp only;split
 ·rename_i y q;rw[q] at e;exact congrArg some e
 ·rename_i q;rw[q] at e;have a:es.toList.any (·.refKey)=false:=by
   rw[List.any_eq_false];intro y hy;obtain⟨z,t,hkey⟩:=hk y (Array.mem_toList_iff.mp hy);simp[DictEntry.refKey,hkey]
  have a':¬ es.toList.any (·.refKey)=true:=by rw[a];exact aN
  rw[if_neg a'];exact congrArg some e
theorem b2X.look {h:Heap}{x dx C:Addr}{mA:Str->Option Value}(I:b2X h x dx C mA):∃ od,PySem.W.InstAt h x (gD C dx) C (some od)/\∀ name,PySem.W.lookIn name od=some (mA name) :=
 let ⟨od,ho,hl⟩:=a6A I.ns
 ⟨od,⟨I.obj,rfl,rfl,ho⟩,hl⟩
section
variable {P:Program}{w:World}{H H':Hp}{h h':Heap}{a C dx:Addr}{fs fs':List (Str×V)}
theorem b0m (hok:HOk P w H h)(e:H a=some (.ins C dx fs)):∃ mA,b2X h a dx C mA/\(∀ f,a3F (fs.lookup f) (mA f))/\PySem.Within mA (fs.map (·.1))/\fs.length<=1000/\H dx=some (.own a):=by
 obtain⟨d,z,ne,ob,mA,n,r,q⟩:=(show K8 P w H h a (.ins C dx fs) from hok a _ e)
 exact⟨mA,⟨ob,n,ne⟩,r,q,z,d⟩
end
structure Cls (K:ae)(C:Addr):Prop where
 pg:PySem.W.plainGet K C Str.empty=true
 hd:PySem.W.hasDictIn K C=true
 po:PySem.W.plainOver K C=true
 sa:aS K (.ref C) "__setattr__"=some (some (.builtin "object.__setattr__"))
theorem Cls.get {K:ae}{C:Addr}(c:Cls K C)(f:Str):PySem.W.plainGet K C f=true:=c.pg
section
variable {X:Cx}{pins:List (Addr×Obj)}{σ:St}{H:Hp}{s:Shared}{A:Around}{E:Value->Shared->Prop}{Q:Value->Shared->Prop}{c:Value}{b:Bool}
inductive V7 (K:ae)(H:Hp):V->Value->Prop where
 | non:V7 K H .non (.type "NoneType")
 | bl (x:Bool):V7 K H (.bl x) (.type "bool")
 | int (i:Int):V7 K H (.int i) (.type "int")
 | str (x:Str):V7 K H (.str x) (.type "str")
 | flt (x:UInt64):V7 K H (.flt x) (.type "float")
 | lst {a:Addr} {xs:List V} (e:H a=some (.lst xs)):V7 K H (.ref a) (.type "list")
 | frz {a:Addr} {o:Obj} {xs:List V} (e:H a=some (.frz o (.lst xs))):V7 K H (.ref a) (.type "list")
 | tup {a:Addr} {xs:List V} (e:H a=some (.tup xs)):V7 K H (.ref a) (.type "tuple")
 | dK {a:Addr} {kvs:List (Key×V)} (e:H a=some (.dK kvs)):V7 K H (.ref a) (.type "dict")
 | dT {a:Addr} {kvs:List (List Key×V)} (e:H a=some (.dT kvs)):V7 K H (.ref a) (.type "dict")
 | ins {a C dx:Addr} {fs:List (Str×V)} (e:H a=some (.ins C dx fs)) (cl:Cls K C) (ha:aS K (.ref C) "__class__"=some (some (.builtin "object.__class__")))
   (hn:PySem.W.specialIn K (.builtin "object.__class__") "__get__"=some (some (.builtin "getset_descriptor.__get__"))) (htk:PySem.W.takesIn K (.builtin "object.__class__")=some true)
   (hm:bC K C (.type "object")=some true):V7 K H (.ref a) (.ref C)
theorem a6D {x:V}{u t:Value}(I:Inv X pins σ H s)(rx:C3 x u)(ty:V7 X.K H x t)(e:PySem.W.kitOne X.K t c=some b)(h:∀ tk,Q (.bool b) {s with toks:=tk}) :
  wpAny (model X.prog X.w) A (call (.builtin "isinstance") [u,c]) Q E s:=by
 cases ty with
 | non=>cases (show u=cA from rx);exact cg PySem.W.kitx_none I.kIn cF e (λz=>nomatch z) h
 | bl y=>cases (show u=aU y from rx);exact cg PySem.W.kitx_bool I.kIn cF e (λz=>nomatch z) h
 | int i=>obtain⟨t,q⟩:=(show ∃ t,u=cu i t from rx);cases q;exact cg PySem.W.kitx_int I.kIn cF e (λz=>nomatch z) h
 | str y=>obtain⟨t,q⟩:=(show ∃ t,u=fL y t from rx);cases q;exact cg PySem.W.kitx_str I.kIn cF e (λz=>nomatch z) h
 | flt y=>obtain⟨t,q⟩:=(show ∃ t,u=Value.float y t from rx);cases q;exact cg PySem.W.kitx_float I.kIn cF e (λz=>nomatch z) h
 | @lst a xs ea =>
  cases (show u=bd a from rx);obtain⟨_,_,n,_,h1⟩:=(show K8 X.prog X.w H s.heap a (.lst xs) from I.hok a _ ea)
  exact cg iU I.kIn ⟨_,h1,rfl⟩ e (λz=>nomatch z) h
 | @frz a ob xs ea =>
  cases (show u=bd a from rx);obtain⟨_,_,_,n,_,h1⟩:=(show K8 X.prog X.w H s.heap a (.frz ob (.lst xs)) from I.hok a _ ea)
  exact cg iU I.kIn ⟨_,h1,rfl⟩ e (λz=>nomatch z) h
 | @tup a xs ea =>
  cases (show u=bd a from rx);obtain⟨_,_,_,p⟩:=(show K8 X.prog X.w H s.heap a (.tup xs) from I.hok a _ ea)
  obtain⟨o,h1,h2,_⟩:=p;exact cg PySem.W.kitx_tuple I.kIn ⟨o,h1,h2⟩ e (λz=>nomatch z) h
 | @dK a kvs ea =>
  cases (show u=bd a from rx);obtain⟨_,_,vs,_,p⟩:=(show K8 X.prog X.w H s.heap a (.dK kvs) from I.hok a _ ea)
  obtain⟨o,es,ep,h1,h2,_⟩:=p;exact cg iV I.kIn ⟨o,h1,h2.1⟩ e (λz=>nomatch z) h
 | @dT a kvs ea =>
  cases (show u=bd a from rx);obtain⟨_,_,xs,_,o,es,ep,h1,h2,_⟩:=(show K8 X.prog X.w H s.heap a (.dT kvs) from I.hok a _ ea)
  exact cg iV I.kIn ⟨o,h1,h2.1⟩ e (λz=>nomatch z) h
 | @ins a C dx fs ea cl ha hn htk hm =>
  cases (show u=bd a from rx);obtain⟨mA,O,_⟩:=b0m I.hok ea;obtain⟨od,J,_⟩:=O.look;exact cg (PySem.W.kitx_own (cl.get _) cl.hd ha hn htk hm) I.kIn J e (λz=>nomatch z) h
end
end L2
namespace L2
open PySem PySem.Spec PyProof.Rows
structure Q5 (k:Nat)(A:Around):Prop where
 hd:A.handled=none
 dp:A.depth+3*k+5<recursionLimit
 un:A.units+16*k+200<cLine
 gd:A.guards=some []
theorem Q5.mono {j k:Nat}{A:Around}(r:Q5 k A)(h:j<=k):Q5 j A:=⟨r.hd,by have:=r.dp;omega,by have:=r.un;omega,r.gd⟩
theorem Q5.deeper {k:Nat}{A:Around}(r:Q5 (k+1) A)(env:Env):Q5 k (A.deeper env) :=
 ⟨r.hd,by have:=r.dp;show A.depth+1+3*k+5<_;omega,by have:=r.un;show A.units+3+16*k+200<_;omega,r.gd⟩
theorem Q5.in1 {k:Nat}{A:Around}(r:Q5 (k+1) A):Q5 k A.in1 :=
 ⟨r.hd,by have:=r.dp;show A.depth+3*k+5<_;omega,by have:=r.un;show A.units+1+16*k+200<_;omega,r.gd⟩
theorem Q5.depth {k:Nat}{A:Around}(r:Q5 k A):A.depth<recursionLimit:=by have:=r.dp;omega
theorem Q5.units {k:Nat}{A:Around}(r:Q5 k A):A.units+64<cLine:=by have:=r.un;omega
theorem Q5.units0 {k:Nat}{A:Around}(r:Q5 k A):A.units<cLine:=by have:=r.un;omega
def b1q:TA:=λ_ H Q=>Q [] H
def a5I (ta:TE)(tr:TA):TA:=fun σ H Q=>ta σ H λx H1=>tr σ H1 λxs H2=>Q (x::xs) H2
section
variable {X:Cx}{e:Expr}{es:List Expr}{te:TE}{t:TA}{pos:Pos}
theorem A1:PA X [] b1q:=λ_ _ _ _ H Q I h=>fq ⟨[],H,I,.nil,h⟩
theorem A0 (ha:PE X e te)(hr:PA X es t)(hs:starEach (e::es) X.env=(false,eval e X.env)::starEach es X.env:=by rfl):PA X (e::es) (a5I te t):=by
 intro pos pins s σ H Q I h;rw[hs];show wpAny _ _ (spliced ((false,eval e X.env)::backTo pos (starEach es X.env))) _ _ s;refine eZ (thn (ha pins s σ H _ I h) λu s1 ⟨x,H1,I1,r1,q1⟩=>?_);exact thn (hr pos pins s1 σ H1 _ I1 q1) λus s2 ⟨xs,H2,I2,r2,q2⟩=>⟨x::xs,H2,I2,.cons r1 r2,q2⟩
def b1j (t:TA):TE:=fun σ H Q=>t σ H λxs H1=>xs.length<=sizeLine/\∀ p,H1 p=none->Q (.ref p) (upd H1 p (.tup xs))
def b1s (t:TA):TE:=fun σ H Q=>t σ H λxs H1=>xs.length<=sizeLine/\∀ p,H1 p=none->Q (.ref p) (upd H1 p (.lst xs))
theorem K5 {x1}(h:PA X es t):PE X (.Tuple es x1 pos) (b1j t):=by
 intro pins s σ H Q I hq;refine wpAny_Tuple_spliced (thn (h pos pins s σ H _ I hq) λus s1 ⟨xs,H1,I1,r,z,q⟩=>⟨by rw[<- r.length];exact z,?_⟩);have hf:H1 s1.heap.objs.size=none:=I1.hok.fresh (ak _);refine⟨.ref s1.heap.objs.size,upd H1 s1.heap.objs.size (.tup xs),I1.laid (t':=s1.toks) (λb u e=>ao _ e) (ak _) ?_,rfl,q _ hf⟩;exact⟨z,us,r,⟨_,aO _ rfl,rfl,_,rfl⟩⟩
theorem K6 (h:PA X es t):PE X (.List es pos) (b1s t):=by
 intro pins s σ H Q I hq;refine wpAny_List_spliced (thn (h pos pins s σ H _ I hq) λus s1 ⟨xs,H1,I1,r,z,q⟩=>⟨by rw[<- r.length];exact z,?_⟩);have hf:H1 s1.heap.objs.size=none:=I1.hok.fresh (ak _);refine⟨.ref s1.heap.objs.size,upd H1 s1.heap.objs.size (.lst xs),I1.laid (t':=s1.toks) (λb u e=>ao _ e) (ak _) ?_,rfl,q _ hf⟩;exact⟨z,us,0,r,aO _ rfl⟩
end
abbrev Sp:=List V->Hp->VK->XK->Prop
abbrev CXT:=List Env->Hp->Shared->XK->Value->Shared->Prop
structure a5D (P:Program)(w:World)(K:ae)(mg:Str->Option Value)(base:Heap)(A:Around)(outer:List Env)(s:Shared)(H:Hp):Prop where
 frames:A.frames=some outer
 mod:Mod K mg base
 bs:∀ b o,base.get? b=some o->s.heap.get? b=some o/\H b=none
 bsz:base.objs.size<=s.heap.objs.size
 funs:s.heap.FunFrames base outer
 frf:∀ b∈frs outer,H b=none
 hok:HOk P w H s.heap
 bare:AllBare s.gens
def CE (outer:List Env)(P:Program)(w:World)(H:Hp)(s:Shared)(Q:VK)(u:Value)(s':Shared):Prop :=
 ∃ v H',s'.os=s.os/\AllBare s'.gens/\Un (frs outer) [] H H' s.heap s'.heap/\HOk P w H' s'.heap/\C3 v u/\Q v H'
def CR (CX:CXT)(outer:List Env)(P:Program)(w:World)(H:Hp)(s:Shared)(Q:VK)(E:XK)(r:Result)(s':Shared):Prop :=
 match r with
 | .ok (.ret u)=>CE outer P w H s Q u s'
 | .ok _=>False
 | .error e=>CX outer H s E e s'
structure C2 (P:Program)(w:World)(K:ae)(mg:Str->Option Value)(base:Heap)(CX:CXT)(k:Nat)(f:Addr)(fd:FuncData)(ps:List Str)(sp:Sp):Prop where
 len:∀ vs H Q E,sp vs H Q E->vs.length=ps.length
 run:∀(A:Around) (outer:List Env) (s:Shared) (H:Hp) (args:Args) (us:List Value) (vs:List V) (Q:VK) (E:XK),Q5 k A->a5D P w K mg base A outer s H->BindsTo s fd args (ps.zip us)->C1 vs us->sp vs H Q E ->
  codeAny (model P w) A (.call (.ref f) args) (CR CX outer P w H s Q E) s
theorem C2.mono {P:Program}{w:World}{K:ae}{mg:Str->Option Value}{base:Heap}{CX:CXT}{j k:Nat}{f:Addr}{fd:FuncData}{ps:List Str}{sp:Sp}(F:C2 P w K mg base CX j f fd ps sp)(h:j<=k) :
  C2 P w K mg base CX k f fd ps sp:=⟨F.len,λA outer s H args us vs Q E hr=>F.run A outer s H args us vs Q E (hr.mono h)⟩
theorem C2.imp {P:Program}{w:World}{K:ae}{mg:Str->Option Value}{base:Heap}{CX:CXT}{k:Nat}{f:Addr}{fd:FuncData}{ps:List Str}{sp sp':Sp}(F:C2 P w K mg base CX k f fd ps sp)
  (h:∀ vs H Q E,sp' vs H Q E->sp vs H Q E):C2 P w K mg base CX k f fd ps sp' :=
 ⟨λvs H Q E q=>F.len vs H Q E (h _ _ _ _ q),λA outer s H args us vs Q E hr he hb hv hs=>F.run A outer s H args us vs Q E hr he hb hv (h _ _ _ _ hs)⟩
theorem a5D.in1 {P:Program}{w:World}{K:ae}{mg:Str->Option Value}{base:Heap}{A:Around}{outer:List Env}{s:Shared}{H:Hp}(e:a5D P w K mg base A outer s H) :
  a5D P w K mg base A.in1 outer s H:=⟨e.frames,e.mod,e.bs,e.bsz,e.funs,e.frf,e.hok,e.bare⟩
section
variable {X:Cx}{pins:List (Addr×Obj)}{σ:St}{H:Hp}{s s':Shared}
theorem Inv.env0 (I:Inv X pins σ H s):a5D X.prog X.w X.K X.mg X.base X.A X.stack s H :=
 ⟨I.ok.frames,I.ok.mod,I.bs,aM I.ok.bsz I.sz,I.stack,I.stkFree,I.hok,I.bare⟩
theorem Inv.after {Q:VK}{u:Value}(I:Inv X pins σ H s)(h:CE X.stack X.prog X.w H s Q u s'):EP X pins σ Q u s':=by
 obtain⟨v,H',os,bare,un,hok,r,q⟩:=h;obtain⟨hh,g,d,t,os'⟩:=s';obtain rfl:os'=s.os:=os;exact⟨v,H',I.call (h':=hh) (g':=g) (d':=d) (t':=t) (ch:=[]) un hok bare (λb z=>absurd z (by simp)),r,q⟩
end
def a5J (sp:Sp)(dvs:List V)(E:XK)(t:TA):TE:=fun σ H Q=>t σ H λvs H1=>sp (vs++dvs) H1 Q E
def a2W (K:ae)(fd:FuncData)(ps:List Str)(ds:List Value):Prop :=
 ∀(s:Shared) (us:List Value),K.In s.heap->(us++ds).length=ps.length->BindsTo s fd ⟨us,[]⟩ (ps.zip (us++ds))
theorem a2W.all {K:ae}{fd:FuncData}{ps:List Str}(h:∀ us:List Value,us.length=ps.length->bindArgs fd ⟨us,[]⟩=pure (ps.zip us)):a2W K fd ps []:=λs us _ hl=>by
 rw[ck] at hl ⊢;exact .of_eq (h us hl)
def a3G (CX:CXT)(X:Cx)(E:XK):Prop:=∀(pins:List (Addr×Obj)) (σ:St) (H:Hp) (s:Shared) (e:Value) (s':Shared),Inv X pins σ H s->CX X.stack H s E e s'->X.xe e s'
section
variable {X:Cx}{CX:CXT}{k:Nat}{f C:Addr}{fd:FuncData}{ps:List Str}{sp:Sp}{dvs:List V}{ds:List Value}{E:XK}{x m:Str}{p pos apos:Pos}{e o:Expr}{es:List Expr}{ta:TE}{t:TA}
theorem b1E {pins:List (Addr×Obj)}{σ:St}{H:Hp}{s:Shared}{Q:VK}{us:List Value}{vs:List V}(F:C2 X.prog X.w X.K X.mg X.base CX k f fd ps sp)(hr:Q5 k X.A)(hb:a2W X.K fd ps ds)(hd:C1 dvs ds)(hx:a3G CX X E)
  (I:Inv X pins σ H s) (r:C1 vs us) (h:sp (vs++dvs) H Q E):wpAny (model X.prog X.w) X.A (call (.ref f) us) (EP X pins σ Q) X.xe s:=by
 have r2:C1 (vs++dvs) (us++ds):=r.append hd;have hl:(us++ds).length=ps.length:=by rw[<- r2.length];exact F.len _ _ _ _ h
 refine wpAny_call (codeAny_mono (F.run X.A X.stack s H ⟨us,[]⟩ (us++ds) (vs++dvs) Q E hr I.env0 (hb s us I.kIn hl) r2 h) λr s' hq=>?_);cases r with
 | error e=>exact hx pins σ H s e s' I hq
 | ok fl =>
  cases fl with
  | ret u=>exact I.after hq
  | next=>exact cD hq
  | brk=>exact cD hq
  | cont=>exact cD hq
theorem a5X (F:C2 X.prog X.w X.K X.mg X.base CX k f fd ps sp)(hr:Q5 k X.A)(hg:Gl X x)(hm:X.mg x=some (.ref f))(hk:fN X.K (.ref f)=true)(hb:a2W X.K fd ps ds)(hd:C1 dvs ds)(hx:a3G CX X E)
  (ha:PA X (e::es) t) (hdb:(x == ("__debug__":Str))=false:=by decide) (he:starEach (e::es) X.env=(false,eval e X.env)::starEach es X.env:=by rfl) (hpl:(backTo pos (starEach es X.env)).any (·.1)=false:=by rfl) :
  PE X (.Call (.Name x p) (e::es) [] pos) (a5J sp dvs E t):=by
 intro pins s σ H Q I h;refine dh (a1r I hg hm ?_ hdb);refine iK (h₀:=X.base) I.ok.mod.kin hk (thn (ha pos pins s σ H _ I h) λus s1 ⟨vs,H1,I1,r,q⟩=>⟨I1.kIn,?_⟩) he hpl;exact b1E F hr hb hd hx I1 r q
end
section
variable {X:Cx}{CX:CXT}{k:Nat}{f C:Addr}{fd:FuncData}{ps ks:List Str}{sp:Sp}{E:XK}{x m:Str}{p pos apos kpos:Pos}{e o:Expr}{es:List Expr}{kws:List Keyword}{te ta:TE}{t tk:TA}{nm:Option Str}
variable {g:List Value->List Value->List Value}{gV:List V->List V->List V}
end
structure C0 (N P:List Str)(sc:Scope):Prop where
 kind:sc.kind=.function
 co:sc.isCoroutine=false
 gen:sc.isGenerator=false
 nd:N.Nodup
 pre:N.take P.length=P
 par:∀ x∈P,sc.names.lookup x=some .local\/sc.names.lookup x=some .cell
 nofree:∀ y∈sc.names,y.2≠.free
theorem a2S {kindOf:Str->Option NameKind}{x:Str}:∀ {binds:List (Str×Value)} {m:Str->Option Value},(∀ v,(x,v)∉binds)->bindL kindOf binds m x=m x
 | [],_,_=>rfl
 | (n,v)::r,m,h=>by
  unfold bindL;rw[a2S λw hw=>h w (aL _ hw)];split
  ·have:x≠n:=by rintro rfl;exact h v aR
   simp[this]
  ·rfl
theorem a2U {kindOf:Str->Option NameKind}{x:Str}:∀ {binds:List (Str×Value)} {m:Str->Option Value},(∀ v,(x,v)∉binds)->bindC kindOf binds m x=m x
 | [],_,_=>rfl
 | (n,v)::r,m,h=>by
  unfold bindC;rw[a2U λw hw=>h w (aL _ hw)];split
  ·rfl
  ·have:x≠n:=by rintro rfl;exact h v aR
   simp[this]
theorem a2T {kindOf:Str->Option NameKind}{x:Str}{v:Value}:∀ {P:List Str} {vs:List Value} {i:Nat} {m:Str->Option Value},P.Nodup->P[i]?=some x->vs[i]?=some v->kindOf x=some .local ->
  bindL kindOf (P.zip vs) m x=some v
 | [],_,_,_,_,h,_,_=>by simp at h
 | _::_,[],_,_,_,_,h,_=>by simp at h
 | p::P,w::vs,0,m,nd,h1,h2,hk=>by
  simp at h1 h2;subst h1;subst h2;show bindL kindOf ((p,w)::P.zip vs) m p=_;unfold bindL;rw[a2S λv hv=>(eQ.mp nd).1 (g8 hv).1,if_pos hk];simp
 | p::P,w::vs,i+1,m,nd,h1,h2,hk=>by
  show bindL kindOf ((p,w)::P.zip vs) m x=_;unfold bindL;exact a2T (i:=i) (eQ.mp nd).2 (~~~h1) (~~~h2) hk
theorem a2V {kindOf:Str->Option NameKind}{x:Str}{v:Value}:∀ {P:List Str} {vs:List Value} {i:Nat} {m:Str->Option Value},P.Nodup->P[i]?=some x->vs[i]?=some v->kindOf x≠some .local ->
  bindC kindOf (P.zip vs) m x=some v
 | [],_,_,_,_,h,_,_=>by simp at h
 | _::_,[],_,_,_,_,h,_=>by simp at h
 | p::P,w::vs,0,m,nd,h1,h2,hk=>by
  simp at h1 h2;subst h1;subst h2;show bindC kindOf ((p,w)::P.zip vs) m p=_;unfold bindC;rw[a2U λv hv=>(eQ.mp nd).1 (g8 hv).1,if_neg hk];simp
 | p::P,w::vs,i+1,m,nd,h1,h2,hk=>by
  show bindC kindOf ((p,w)::P.zip vs) m x=_;unfold bindC;exact a2V (i:=i) (eQ.mp nd).2 (~~~h1) (~~~h2) hk
def S8 (N:List Str)(vs:List V):St:=vs.map some++List.replicate (N.length-vs.length) none
def a2l (CX:CXT)(P:Program)(w:World)(K:ae)(mg:Str->Option Value)(base:Heap)(N:List Str)(qual:Str)(scope:Scope)(f:Addr)(cd:Value)(A:Around)(outer:List Env)(s:Shared)(H:Hp)(E:XK):Cx where
 prog:=P
 w:=w
 K:=K
 mg:=mg
 base:=base
 A:=A.deeper (envOfC qual scope s.heap.objs.size f cd)
 N:=N
 sq:=s
 Hz:=H
 env:=envOfC qual scope s.heap.objs.size f cd
 outer:=outer
 stack:=envOfC qual scope s.heap.objs.size f cd::outer
 ex:=[]
 calm:=true
 fn:=λ_=>true
 pn:=[]
 xe:=λe s'=>wpAny (model P w) (A.deeper (envOfC qual scope s.heap.objs.size f cd)) (leaving (envOfC qual scope s.heap.objs.size f cd) e) (λ_ s''=>CX outer H s E e s'') (λe' s''=>CX outer H s E e' s'') s'
theorem a4S {sc:Scope}{n:Nat}{x:Str}(h:sc.names.lookup x=some .cell):∃ c,(cellsFrom n sc.names []).lookup x=some c:=by
 have q:=ij sc.names n [] (.inl h);exact cL.mp q
theorem a6H {CX:CXT}{P:Program}{w:World}{K:ae}{mg:Str->Option Value}{base:Heap}{N ps:List Str}{qual:Str}{scope:Scope}{f:Addr}{cd:Value}{A:Around}{outer:List Env}{s s1:Shared}{H:Hp}{E:XK}{us:List Value}{vs:List V}
  (S:C0 N ps scope) (hd:A.handled=none) (e0:a5D P w K mg base A outer s H) (hl:vs.length=ps.length) (r:C1 vs us)
  (x:InCallC s s.heap.objs.size (bindL (envOfC qual scope s.heap.objs.size f cd).kindOf (ps.zip us) λ_=>none) (cellsFrom (s.heap.objs.size+1) scope.names []) (bindC (envOfC qual scope s.heap.objs.size f cd).kindOf (ps.zip us) λ_=>none) s1) :
  Inv (a2l CX P w K mg base N qual scope f cd A outer s H E) [] (S8 N vs) H s1:=by
 have hpl:ps.length<=N.length:=by have:=congrArg cQ S.pre;rw[aT] at this;omega
 obtain⟨h1,tk,rfl,hk⟩:=x.done;have noA:∀ b:Addr,b∉(a2l CX P w K mg base N qual scope f cd A outer s H E).ex:=λb z=>absurd (show b∈([]:List Addr) from z) (by simp)
 refine⟨⟨e0.mod,S.kind,rfl,rfl,ak _,λy z c h1 h2=>?_,λy hy=>?_,λy c _ h=>?_,λ_=>hd,Around.frames_deeper e0.frames,.inr ⟨rfl,rfl⟩,λb z=>absurd z (noA b),e0.bs,e0.bsz,λb _ _=>noA b,λb z=>absurd z (noA b),e0.funs,e0.frf⟩,
  rfl,e0.bare,Un.kept hk,⟨_,x.toInCall.ns,λi y v h1 h2 h3=>?_⟩,λy c h=>⟨_,x.cell y c h⟩,e0.hok.fresh (ak _),λy c h=>?_,λp hp=>absurd (show p∈([]:List (Addr×Obj)) from hp) (by simp),e0.hok.kept hk,?_⟩
 ·exact name_of_addr x.apart (dv h1) (dv h2)
 ·have hy:scope.names.lookup y=some .cell\/scope.names.lookup y=some .free:=hy;rcases hy with hy | hy
  ·exact a4S hy
  ·exact absurd rfl (S.nofree _ (dv hy))
 ·exact dL (x.above y c (dv h))
 ·have hi:i<vs.length:=by
   unfold S8 at h2;by_cases hi:i<vs.length
   ·exact hi
   ·rw[bA (~~~hi)] at h2;rw[iy] at h2;split at h2<;>cases h2
  have ha:vs[i]?=some v:=by
   unfold S8 at h2;rw[bK (~~~hi),aH] at h2;cases e:vs[i]? with
   | none=>rw[e] at h2;cases h2
   | some a=>rw[e] at h2;cases h2;rfl
  obtain⟨u,hu,rv⟩:=r.get ha;have hp:ps[i]?=some y:=by
   rw[<- S.pre,dF ∅];exact h1
  have ndP:ps.Nodup:=by rw[<- S.pre];exact S.nd.sublist (gw _ _)
  refine⟨u,rv,?_⟩;rcases S.par y (aE hp) with k | k
  ·exact .inl ⟨k,a2T ndP hp hu k⟩
  ·obtain⟨c,e⟩:=a4S (n:=s.heap.objs.size+1) k;refine .inr ⟨.inl k,c,e,?_⟩;have q:=x.cell y c e;rw[a2V ndP hp hu (by show scope.names.lookup y≠_;rw[k];decide)] at q;exact q
 ·exact e0.hok.fresh (dL (x.above y c (dv h)))
 ·unfold S8;show _=N.length;rw[aq,aa,eg];omega
theorem b1a {CX:CXT}{P:Program}{w:World}{K:ae}{mg:Str->Option Value}{base:Heap}{k:Nat}{f:Addr}{name qual:Str}{params:Arguments}{body:List Stmt}{scope:Scope}{dV kV doc pm cdv ct oc:Value}{an od:Option Addr}
  {osl:Array (Option Value)} {N ps:List Str} {sp:Sp} (lk:K.lookup f=some ⟨oc,od,.func (dq name qual params body scope dV kV doc pm an cdv ct),osl⟩) (hcd:fO K cdv qual=true) (S:C0 N ps scope)
  (len:∀ vs H Q E,sp vs H Q E->vs.length=ps.length)
  (hbody:∀(A:Around) (outer:List Env) (s:Shared) (H:Hp) (vs:List V) (Q:VK) (E:XK),Q5 k (A.deeper (envOfC qual scope s.heap.objs.size f cdv))->sp vs H Q E ->
   ∃ t,PSs (a2l CX P w K mg base N qual scope f cdv A outer s H E) body t/\t {nx:=λ_ H'=>Q .non H',rt:=Q} (S8 N vs) H) :
  C2 P w K mg base CX (k+1) f (dq name qual params body scope dV kV doc pm an cdv ct) ps sp:=by
 refine⟨len,λA outer s H args us vs Q E hr e0 hb r hsp=>?_⟩;have hl:=len _ _ _ _ hsp;have KX:K.In s.heap:=e0.mod.kin.keeps λb o e=>(e0.bs b o e).1
 have lim:s.heap.NoLimit:=e0.mod.nolimit.keeps λb o e=>(e0.bs b o e).1
 have hkind:∀ y∈ps.zip us,scope.names.lookup y.1=some .local\/(scope.names.lookup y.1=some .cell/\((cellsFrom (s.heap.objs.size+1) scope.names []).lookup y.1).isSome=true):=λ⟨n,v⟩ hy=>by
  rcases S.par n (g8 hy).1 with q | q
  ·exact .inl q
  ·exact .inr ⟨q,ij _ _ _ (.inl q)⟩
 refine codeAny_call_function hr.depth (KX _ _ lk) rfl S.co S.gen rfl (PySem.W.codeRec_of KX hcd) (hb _ _ _ _ ?_);refine wpAny_newFunctionEnv_cells S.kind hkind λenv he s1 x=>?_
 subst he;refine⟨lim.keeps x.toInCall.keep,codeAny_func ?_⟩;obtain⟨t,ht,hq⟩:=hbody A outer s H vs Q E (hr.deeper _) hsp;have I:Inv (a2l CX P w K mg base N qual scope f cdv A outer s H E) [] (S8 N vs) H s1:=a6H S hr.hd e0 hl r x;refine bO (ht [] s1 (S8 N vs) H _ I hq) (λfl s' hs=>?_) λe s' hs=>hs
 have fin:∀ {σ':St} {H':Hp} {v:V} {u:Value},Inv (a2l CX P w K mg base N qual scope f cdv A outer s H E) [] σ' H' s'->C3 v u->Q v H'->CE outer P w H s Q u s' :=
  λ{σ' H' v u} J rv q=>⟨v,H',J.os,J.bare,J.base,J.hok,rv,q⟩
 cases fl with
 | ret u =>
  obtain⟨v,σ',H',J,rv,q⟩:=hs;exact fin J rv q
 | next =>
  obtain⟨σ',H',J,q⟩:=hs;exact fin (v:=V.non) (u:=cA) J rfl q
 | brk =>
  obtain⟨_,_,_,q⟩:=hs;exact cD q
 | cont =>
  obtain⟨_,_,_,q⟩:=hs;exact cD q
end L2
namespace L2
open PySem PySem.Spec PyProof.Rows
section
variable {X:Cx}{x:Str}{p pos:Pos}{e:Expr}{es:List Expr}{t:TA}{id T:String}{r:List V->Hp->VK->Prop}
def tCB (r:List V->Hp->VK->Prop)(t:TA):TE:=fun σ H Q=>t σ H λvs H1=>r vs H1 Q
theorem B0 (hc:N1 X (.builtin id) r)(hg:Gl X x)(hm:X.mg x=none)(hv:bootBuiltins x=some (.builtin id))(ha:PA X (e::es) t)(hn:x≠"__name__":=by decide)(hdb:(x == ("__debug__":Str))=false:=by decide)
  (he:starEach (e::es) X.env=(false,eval e X.env)::starEach es X.env:=by rfl) (hpl:(backTo pos (starEach es X.env)).any (·.1)=false:=by rfl):PE X (.Call (.Name x p) (e::es) [] pos) (tCB r t):=by
 intro pins s σ H Q I h;refine dh (a0c I hg hm hv ?_ hn hdb);exact PyProof.Rows.callWith_builtin1 (thn (ha pos pins s σ H _ I h) λus s1 ⟨vs,H1,I1,r1,q1⟩=>hc pins s1 σ H1 vs us Q I1 r1 q1) he hpl
theorem C6 (hc:N1 X (.type T) r)(hg:Gl X x)(hm:X.mg x=none)(hv:bootBuiltins x=some (.type T))(ha:PA X (e::es) t)(hn:x≠"__name__":=by decide)(hdb:(x == ("__debug__":Str))=false:=by decide)
  (he:starEach (e::es) X.env=(false,eval e X.env)::starEach es X.env:=by rfl) (hpl:(backTo pos (starEach es X.env)).any (·.1)=false:=by rfl):PE X (.Call (.Name x p) (e::es) [] pos) (tCB r t):=by
 intro pins s σ H Q I h;refine dh (a0c I hg hm hv ?_ hn hdb);exact cp (thn (ha pos pins s σ H _ I h) λus s1 ⟨vs,H1,I1,r1,q1⟩=>hc pins s1 σ H1 vs us Q I1 r1 q1) he hpl
end
end L2
namespace HT
open PySem PyProof.Rows
def lexLt:List Int->List Int->Bool
 | [],[]=>false
 | [],_::_=>true
 | _::_,[]=>false
 | x::xs,y::ys=>if x=y then lexLt xs ys else decide (x<y)
theorem lexLt_cons (x y:Int)(xs ys:List Int):lexLt (x::xs) (y::ys)=if x=y then lexLt xs ys else decide (x<y):=rfl
theorem lexLt_nil_nil:lexLt [] []=false:=rfl
theorem lexLt_nil_cons (y:Int)(ys:List Int):lexLt [] (y::ys)=true:=rfl
theorem lexLt_cons_nil (x:Int)(xs:List Int):lexLt (x::xs) []=false:=rfl
theorem eqAt_int (A:Around)(s:Shared)(a:Int)(t:Tok)(c:Int)(u:Tok):∃ e,jq A s (.int a t) (.int c u) e/\(e=true↔a=c) :=
 ⟨(a == c),ir a t c u,by simp⟩
theorem rcLt_int (A:Around)(s:Shared)(a:Int)(t:Tok)(c:Int)(u:Tok)(prog:Program)(w:World)(E:Value->Shared->Prop)(Q:Value->Shared->Prop)(h:Q (.bool (decide (a<c))) s) :
  wpAny (model prog w) A (richCompare .Lt (.int a t) (.int c u)) Q E s :=
 (g6 h:wpAny (model prog w) A (compareOp .Lt (.int a t) (.int c u)) Q E s)
section
open PySem.SeqAt
open PySem.AutoSeq1 (wpAny_loadPart')
open PySem.MeetsSeq PySem.MeetsSeq2 PySem.MeetsSeq3
theorem tuple_lt_ints (l b:Addr)(items items2:Array Value)(n n2:Nat)(dd dd2:Option Addr)(sl sl2:Array (Option Value))(ns ms:List Int)(hi:IntsAre items.toList ns)(hj:IntsAre items2.toList ms) :
  Meets (Builtin.«tuple.__lt__» ⟨[.ref l,.ref b],[]⟩)
   (λ_ R s=>s.heap.get? l=some {cls:=.type "tuple",dict:=dd,data:=.seq items n,slots:=sl}/\s.heap.get? b=some {cls:=.type "tuple",dict:=dd2,data:=.seq items2 n2,slots:=sl2} /\
    R (.ok (.ret (.bool (lexLt ns ms)))) s) :=
 .of_wp λprog w A R s h=>by
  obtain⟨hp,g,d,tk,os⟩:=s;obtain⟨hl,hb,h⟩:=h;have f2:=gT;have z1:items.size=ns.length:=by rw[<- hi.length];simp
  have z2:items2.size=ms.length:=by rw[<- hj.length];simp
  wp_walk using gf hl,gf hb,wpAny_forIn_list _ (λW4 b s'=>b.1=none/\s'=⟨hp,g,d,tk,os⟩/\∃(vs ws:List Value) (ns' ms':List Int),W4=vs.zip ws /\
   IntsAre vs ns'/\IntsAre ws ms'/\ns'.length+items2.size=ms'.length+items.size/\R (.ok (.ret (.bool (lexLt ns' ms')))) ⟨hp,g,d,tk,os⟩) _
  case turn =>
   rintro⟨y,x⟩ W4 b s' ⟨hb',rfl,vs,ws,ns',ms',hz,hvi,hwi,hlen,hR⟩;cases hvi with
   | nil=>rw[jD] at hz;cases hz
   | cons a t hvi' =>
    cases hwi with
    | nil=>rw[jw] at hz;cases hz
    | cons c u hwi' =>
     rw[cX] at hz;injection hz with hyx hrest
     injection hyx with hy hx
     subst hy hx;rw[lexLt_cons] at hR;simp only[aD] at hlen;obtain⟨e,he,hiff⟩:=eqAt_int A.in1 ⟨hp,g,d,tk,os⟩ a t c u;refine af (he prog w _ _ ?_);cases e with
     | true =>
      rw[if_pos (hiff.mp rfl)] at hR
      wp_walk
      exact⟨rfl,rfl,_,_,_,_,hrest,hvi',hwi',∅,hR⟩
     | false =>
      rw[if_neg (λq=>absurd (hiff.mpr q) aN)] at hR;have hri:=rcLt_int A.in1 ⟨hp,g,d,tk,os⟩ a t c u prog w
      wp_walk using hri
      exact⟨_,rfl, ~~~hR⟩
  case fin =>
   rintro⟨b1,b2⟩ s' ⟨hb',rfl,vs,ws,ns',ms',hz,hvi,hwi,hlen,hR⟩;simp only at hb';subst hb';have hv:lexLt ns' ms'=decide (items.size<items2.size):=by
    cases hvi with
    | nil =>
     cases hwi with
     | nil =>
      simp only[bF] at hlen;rw[lexLt_nil_nil];exact (decide_eq_false ∅).symm
     | cons c u hw =>
      simp only[bF,aD] at hlen;rw[lexLt_nil_cons];exact (decide_eq_true ∅).symm
    | cons a t hv =>
     cases hwi with
     | nil =>
      simp only[bF,aD] at hlen;rw[lexLt_cons_nil];exact (decide_eq_false ∅).symm
     | cons c u hw =>
      rw[cX] at hz;cases hz
   rw[hv] at hR
   wp_walk
   exact⟨_,rfl,by simpa [Builtin.Tuple.tupleCompareSizes] using hR⟩
  case h =>
   exact⟨rfl,rfl,items.toList,items2.toList,ns,ms,rfl,hi,hj,∅,h⟩
end
section
variable {prog:Program}{w:World}{A:Around}{E:Value->Shared->Prop}{s:Shared}
theorem lt_tupInts {l b:Addr}{items items2:Array Value}{ns ms:List Int}{Q:Value->Shared->Prop}(hl:IsTup s.heap l items)(hb:IsTup s.heap b items2)(hi:IntsAre items.toList ns)(hj:IntsAre items2.toList ms)
  (hu:A.units<cLine) (h:Q (.bool (lexLt ns ms)) s):wpAny (model prog w) A (compareOp .Lt (.ref l) (.ref b)) Q E s:=by
 obtain⟨⟨cls,dd,data,sl⟩,ho,hc,n,hd⟩:=id hl;obtain⟨⟨cls2,dd2,data2,sl2⟩,ho2,hc2,n2,hd2⟩:=id hb;simp only at hc hd hc2 hd2;subst hc hd hc2 hd2;exact richCompare_meets_room (op:=.Lt) ⟨_,ho,rfl⟩ ⟨_,ho2,rfl⟩ PySem.F.slot_tuple_lt PySem.F.entry_tuple_lt (PySem.F.args_tuple_lt_2 _ _) (tuple_lt_ints l b items items2 n n2 dd dd2 sl sl2 ns ms hi hj)
  ⟨ho,ho2,show aU (lexLt ns ms)≠iL/\Q (.bool (lexLt ns ms)) s from ⟨(λx=>nomatch x),h⟩⟩ hu
theorem cat_tup {t b:Addr}{vs ws:List Value}{Q:Value->Shared->Prop}(ht:IsTup s.heap t vs.toArray)(hb:IsTup s.heap b ws.toArray)(hv:vs≠[])
  (h1:ws=[]->Q (.ref t) s) (h2:ws≠[]->Q (.ref s.heap.objs.size) {s with heap:=s.heap.push {cls:=.type "tuple",data:=.seq (vs++ws).toArray}})
  (hsz:vs.length+ws.length<=sizeLine):wpAny (model prog w) A (binaryOp .Add (.ref t) (.ref b)) Q E s:=by
 obtain⟨⟨cls,dd,data,sl⟩,ho,hc,n,hd⟩:=id ht;obtain⟨⟨cls2,dd2,data2,sl2⟩,ho2,hc2,n2,hd2⟩:=id hb;simp only at hc hd hc2 hd2;subst hc hd hc2 hd2;have e:vs.toArray++ws.toArray=(vs++ws).toArray:=by simp
 by_cases hw:ws=[]
 ·exact jM ⟨_,ho,rfl⟩ ⟨_,ho2,rfl⟩ noFill_tuple_add jm fv fm (ff _ _)
   (tuple_addW1 t b vs.toArray ws.toArray n n2 dd dd2 sl sl2 (~~~hv) (by simp[hw])) ⟨ho,ho2,h1 hw⟩
 ·refine jM ⟨_,ho,rfl⟩ ⟨_,ho2,rfl⟩ noFill_tuple_add jm fv fm (ff _ _)
   (tuple_addW2 t b vs.toArray ws.toArray n n2 dd dd2 sl sl2 (~~~hv) (~~~hw) (by rw[aB,aB];exact hsz)) ⟨ho,ho2,?_⟩
  rw[e];exact h2 hw
def sIx (n d:Nat):Option Int->Nat
 | none=>d
 | some v=>if v<0 then (v+(n:Int)).toNat else min v.toNat n
theorem sIx_none (n d:Nat):sIx n d none=d:=rfl
theorem sIx_nat (n d k:Nat):sIx n d (some (k:Int))=min k n:=by
 show (if (k:Int)<0 then ((k:Int)+(n:Int)).toNat else min (k:Int).toNat n)=min k n;rw[if_neg ∅,cN]
end
end HT
namespace L2
open PySem PySem.Spec PyProof.Rows
abbrev TO:=St->Hp->(Option Int->Hp->Prop)->Prop
def PO (X:Cx)(e:Option Expr)(t:TO):Prop :=
 ∀(pins:List (Addr×Obj)) (s:Shared) (σ:St) (H:Hp) (Q:Option Int->Hp->Prop),Inv X pins σ H s->t σ H Q ->
  wpAny (model X.prog X.w) X.A (evalPart e X.env) (λu s'=>∃ o H',Inv X pins σ H' s'/\IsPart u o/\Q o H') X.xe s
def a5G:TO:=λ_ H Q=>Q none H
def b0H (t:TE):TO:=fun σ H Q=>t σ H λx H1=>∃ i,x=.int i/\Q (some i) H1
theorem Q8 {ns:List Int}:∀ {us:List Value},C1 (ns.map V.int) us->IntsAre us ns:=by
 induction ns with
 | nil=>intro us r;rw[cC] at r;cases r;exact .nil
 | cons n ns ih =>
  intro us r;rw[ap] at r;cases r with
  | cons r1 r2 =>
   obtain⟨t,e⟩:=r1;subst e;exact .cons n t (ih r2)
section
variable {X:Cx}{e:Expr}{te:TE}{lo hi:Option Expr}{tl th:TO}{pos p2:Pos}
theorem J7:PO X none a5G:=by
 intro pins s σ H Q I h;rw[evalPart_none];exact aK ⟨none,H,I,.none,h⟩
theorem E2 (h:PE X e te):PO X (some e) (b0H te):=by
 intro pins s σ H Q I hw;rw[evalPart_some];refine thn (h pins s σ H _ I hw) λu s1 ⟨x,H1,I1,r1,q1⟩=>?_
 obtain⟨i,rfl,q⟩:=q1;obtain⟨t,rfl⟩:=r1;exact⟨some i,H1,I1,.int i t,q⟩
def SlR (X:Cx)(r:V->Option Int->Option Int->Hp->VK->Prop):Prop :=
 ∀(pins:List (Addr×Obj)) (s:Shared) (σ:St) (H:Hp) (x:V) (v vl vu:Value) (lo hi:Option Int) (sl:Addr) (Q:VK),Inv X pins σ H s->C3 x v->s.heap.IsSliceOf sl vl vu .none->IsPart vl lo->IsPart vu hi->r x lo hi H Q ->
  ∃ T id,typeLookup (.type T) "__getitem__"=pure (some (.builtin id))/\s.TypeIs v T/\wpAny (model X.prog X.w) X.A (getItem v (.ref sl)) (EP X pins σ Q) X.xe s
def tSl (r:V->Option Int->Option Int->Hp->VK->Prop)(te:TE)(tl th:TO):TE:=fun σ H Q=>te σ H λx H1=>tl σ H1 λl H2=>th σ H2 λu H3=>r x l u H3 Q
theorem C8 {r:V->Option Int->Option Int->Hp->VK->Prop}(hr:SlR X r)(he:PE X e te)(hl:PO X lo tl)(hu:PO X hi th):PE X (.Subscript e (.Slice lo hi none p2) pos) (tSl r te tl th):=by
 intro pins s σ H Q I h;refine Subscript_ (thn (he pins s σ H _ I h) λv s1 ⟨x,H1,I1,r1,q1⟩=>?_);refine wpAny_Slice (thn (hl pins s1 σ H1 _ I1 q1) λvl s2 ⟨l,H2,I2,pl,q2⟩=>thn (hu pins s2 σ H2 _ I2 q2) λvu s3 ⟨u,H3,I3,pu,q3⟩=>?_);rw[evalPart_none];refine aK ?_;have I4:Inv X pins σ H3 {s3 with heap:=s3.heap.push {cls:=.type "slice",data:=.fields #[vl,vu,.none]}}:=I3.kept (t':=s3.toks) λb ob q=>ao _ q
 obtain⟨T,id,hT,ht,hg⟩:=hr pins {s3 with heap:=s3.heap.push {cls:=.type "slice",data:=.fields #[vl,vu,.none]}} σ H3 x v vl vu l u s3.heap.objs.size Q I4 r1 (Heap.IsSliceOf.new ..) pl pu q3;show wpAny (model X.prog X.w) X.A (subscriptTail e (.Slice lo hi none p2) v (.ref s3.heap.objs.size)) (EP X pins σ Q) X.xe {s3 with heap:=s3.heap.push {cls:=.type "slice",data:=.fields #[vl,vu,.none]}};exact tail_any (ops:=[.ref s3.heap.objs.size,v]) ht hT hg (by with_unfolding_all rfl)
def Z0 (xs:List V)(lo hi:Option Int):List V:=(xs.drop (HT.sIx xs.length 0 lo)).take (HT.sIx xs.length xs.length hi-HT.sIx xs.length 0 lo)
theorem a4Q (xs:List V)(lo hi:Option Int):(Z0 xs lo hi).length<=xs.length:=by
 unfold Z0;rw[aT,dy];omega
def b3C (K:ae):R2:=λx y H Q=>∃ a b ns ms,x=.ref a/\y=.ref b/\SqT K H a (ns.map V.int)/\SqT K H b (ms.map V.int)/\Q (.bl (HT.lexLt ns ms)) H
theorem b1W (hu:X.A.units<cLine):OpR X (compareOp .Lt) (b3C X.K):=by
 intro pins s σ H x y v u Q I rx ry h;obtain⟨a,b,ns,ms,rfl,rfl,ha,hb,q⟩:=h;cases rx;cases ry;obtain⟨its,r1,p1,_⟩:=I.tuple ha;obtain⟨its2,r2,p2,_⟩:=I.tuple hb;have i1:IntsAre its.toArray.toList ns:=Q8 r1;have i2:IntsAre its2.toArray.toList ms:=Q8 r2;exact HT.lt_tupInts p1 p2 i1 i2 hu ⟨.bl (HT.lexLt ns ms),H,I,rfl,q⟩
theorem C1.nil_iff {xs:List V}{us:List Value}(r:C1 xs us):us=[]↔xs=[]:=by
 cases r with
 | nil=>simp
 | cons _ _=>simp
end
end L2
namespace L2
open PySem PySem.Spec PyProof.Rows
def ixN (n:Nat)(i:Int):Option Nat:=if 0<=i then (if i<n then some i.toNat else none) else if -(n:Int)<=i then some (i+n).toNat else none
def atI {α:Type}(xs:List α)(i:Int):Option α:=(ixN xs.length i).bind λj=>xs[j]?
theorem a6j {n:Nat}{i:Int}{j:Nat}(h:ixN n i=some j):seqIndex? i n=some j/\j<n/\-(n:Int)<=i/\i<n:=by
 unfold ixN at h;by_cases h0:0<=i
 ·rw[if_pos h0] at h;by_cases h1:i<n
  ·rw[if_pos h1] at h;have e:i.toNat=j:=aI h;exact⟨by rw[seqIndex_of h0 h1,e],∅,∅,h1⟩
  ·rw[if_neg h1] at h;cases h
 ·rw[if_neg h0] at h;by_cases h1:-(n:Int)<=i
  ·rw[if_pos h1] at h;have e:(i+n).toNat=j:=aI h;exact⟨by rw[seqIndex_neg ∅ h1,e],∅,h1,∅⟩
  ·rw[if_neg h1] at h;cases h
theorem a3D {α:Type}{xs:List α}{i:Int}{v:α}(h:atI xs i=some v):∃ j,seqIndex? i xs.length=some j/\xs[j]?=some v/\j<xs.length/\-(xs.length:Int)<=i/\i<xs.length:=by
 unfold atI at h;cases e:ixN xs.length i with
 | none=>rw[e] at h;cases h
 | some j =>
  rw[e] at h;obtain⟨h1,h2,h3,h4⟩:=a6j e;exact⟨j,h1,h,h2,h3,h4⟩
theorem U2 {α:Type}{xs:List α}{j:Nat}{v:α}(h:xs[j]?=some v):atI xs (j:Int)=some v:=by
 have hj:j<xs.length:=(au.mp h).1;have e:ixN xs.length (j:Int)=some j:=by
  unfold ixN;rw[if_pos ∅,if_pos ∅];simp
 unfold atI;rw[e];exact h
def b0C (b:Expr):Prop:=∀ o i,subscripted b false o i=operate [o,i] (getItem o i)
def IxR (X:Cx)(r:R2):Prop :=
 ∀(value slice:Expr) (pins:List (Addr×Obj)) (s:Shared) (σ:St) (H:Hp) (x y:V) (v u:Value) (Q:VK),Inv X pins σ H s->C3 x v->C3 y u->r x y H Q ->
  subscripted slice false v u=operate [v,u] (getItem v u)->wpAny (model X.prog X.w) X.A (subscriptTail value slice v u) (EP X pins σ Q) X.xe s
def MtR (X:Cx)(id:String)(r:V->List V->Hp->VK->Prop):Prop :=
 ∀(pins:List (Addr×Obj)) (s:Shared) (σ:St) (H:Hp) (x:V) (xs:List V) (v:Value) (us:List Value) (Q:VK),Inv X pins σ H s->C3 x v->C1 xs us->r x xs H Q ->
  wpAny (model X.prog X.w) X.A (call (.builtin id) (v::us)) (EP X pins σ Q) X.xe s
section
variable {X:Cx}{a b:Expr}{ta tb:TE}{pos:Pos}
theorem E5 {r:R2}(hr:IxR X r)(ha:PE X a ta)(hb:PE X b tb)(hs:b0C b):PE X (.Subscript a b pos) (tOp r ta tb):=by
 intro pins s σ H Q I h;exact Subscript_ (b2Q ha hb I h λv u s2 x y H2 I2 rx ry q=>hr a b pins s2 σ H2 x y v u Q I2 rx ry q (hs _ _))
def a9z (K:ae):R2:=λx y H Q=>∃ p xs i v,x=.ref p/\y=.int i/\SqL K H p xs/\atI xs i=some v/\Q v H
def a9y (K:ae):R2:=λx y H Q=>∃ p xs i v,x=.ref p/\y=.int i/\SqT K H p xs/\atI xs i=some v/\Q v H
def b3F:R2:=λx y H Q=>∃ z i c,x=.str z/\y=.int i/\z.length<=sizeLine/\atI z.cps.toList i=some c/\Q (.str ⟨#[c]⟩) H
theorem b0d:IxR X (a9z X.K):=by
 intro value slice pins s σ H x y v u Q I rx ry h hs;obtain⟨p,xs,i,z,rfl,rfl,hq,he,q⟩:=h;cases rx;obtain⟨t,rfl⟩:=ry;obtain⟨its,r,pl,hz⟩:=I.list hq;obtain⟨j,h1,h2,h3,h4,h5⟩:=a3D he;obtain⟨w,ew,rw'⟩:=r.get h2;have hl:=r.length;have hn:=a0b;have fin:EP X pins σ Q w s:=⟨z,H,I,rw',q⟩
 by_cases h0:0<=i
 ·have hj:i.toNat=j:=by
   rw[seqIndex_of h0 h5] at h1;exact aI h1
  exact item_listR pl.isList h0 ∅ (by rw[hj];simpa using ew) fin hs
 ·have hj:(i+(its.toArray.size:Int)).toNat=j:=by
   rw[seqIndex_neg ∅ h4] at h1;rw[aB,<- hl];exact aI h1
  exact subscriptTail_builtinR (x:=w) pl.isList.typeIs jY.lookup
   (wpAny_getItem_list_neg (Q:=λr s'=>r=w/\EP X pins σ Q r s') pl.isList ∅ (by rw[aB]<;>omega) ∅ (by rw[hj];simpa using ew) ⟨rfl,fin⟩) hs
theorem b2k:IxR X (a9y X.K):=by
 intro value slice pins s σ H x y v u Q I rx ry h hs;obtain⟨p,xs,i,z,rfl,rfl,hq,he,q⟩:=h;cases rx;obtain⟨t,rfl⟩:=ry;obtain⟨its,r,pl,hz⟩:=I.tuple hq;obtain⟨j,h1,h2,h3,h4,h5⟩:=a3D he;obtain⟨w,ew,rw'⟩:=r.get h2;have hl:=r.length;have hn:=a0b;have fin:EP X pins σ Q w s:=⟨z,H,I,rw',q⟩
 exact subscriptTail_builtinR (x:=w) pl.typeIs slot_tuple_getitem.lookup
  (getItem_tuple (j:=j) (Q:=λr s'=>r=w/\EP X pins σ Q r s') pl ∅ ∅ (by rw[aB,<- hl];exact h1) (~~~ew) ⟨rfl,fin⟩) hs
theorem b2l:IxR X b3F:=by
 intro value slice pins s σ H x y v u Q I rx ry h hs;obtain⟨z,i,c,rfl,rfl,hz,he,q⟩:=h;obtain⟨t,rfl⟩:=rx;obtain⟨t',rfl⟩:=ry;obtain⟨j,h1,h2,h3,h4,h5⟩:=a3D he;have hl:z.cps.toList.length=z.length:=by simp[Str.length]
 rw[hl] at h1 h4 h5;have hn:=a0b
 exact tail_any (typeIs_str s z t) jZ.lookup (getItem_str (c:=c) (by
  have e1:decide (i < -(2 ^ 63:Int))=false:=decide_eq_false ∅;have e2:decide (i>=2 ^ 63)=false:=decide_eq_false ∅
  rw[e1,e2,Bool.or_false]) (by rw[h1];simpa using h2) ⟨.str ⟨#[c]⟩,H,I.tok _,⟨_,rfl⟩,q⟩) hs
theorem a5n (its:List Value)(n j:Nat)(u:Value):Obj.mapSeq (·.setIfInBounds j u) {cls:=.type "list",data:=.seq its.toArray n}={cls:=.type "list",data:=.seq (its.set j u).toArray n}:=by
 simp[Obj.mapSeq]
theorem Inv.lst {pins:List (Addr×Obj)}{σ:St}{H:Hp}{s:Shared}{p:Addr}{xs:List V}(I:Inv X pins σ H s)(h:H p=some (.lst xs)) :
  ∃(its:List Value) (n:Nat),C1 xs its/\s.heap.get? p=some {cls:=.type "list",data:=.seq its.toArray n}/\xs.length<=sizeLine:=by
 obtain⟨z,its,n,r,e⟩:=I.hok p _ h;exact⟨its,n,r,e,z⟩
theorem Inv.lstUpd {pins:List (Addr×Obj)}{σ:St}{H:Hp}{s:Shared}{p:Addr}{xs ys:List V}{its its':List Value}{n n':Nat}{f:Obj->Obj}(I:Inv X pins σ H s)(h:H p=some (.lst xs))
  (ho:s.heap.get? p=some {cls:=.type "list",data:=.seq its.toArray n}) (hf:f {cls:=.type "list",data:=.seq its.toArray n}={cls:=.type "list",data:=.seq its'.toArray n'}) (r:C1 ys its') (hz:ys.length<=sizeLine) (t:Nat) :
  Inv X pins σ (upd H p (.lst ys)) {s with heap:=s.heap.update p f,toks:=t}:=by
 have e:(s.heap.update p f).get? p=some {cls:=.type "list",data:=.seq its'.toArray n'}:=by
  rw[fP f ho (by rw[hf]<;>rfl),hf]
 refine I.write (x:=p) (e:=p) (by rw[h];trivial) (.inl rfl) (λb u hb q=>(fJ _ _ (fb hb)).trans q) ⟨_,e⟩ ?_;exact⟨hz,its',n',r,e⟩
def b0P:V->V->V->Hp->(Hp->Prop)->Prop:=λo i v H Q=>∃ p xs k j,o=.ref p/\i=.int k/\H p=some (.lst xs)/\ixN xs.length k=some j/\Q (upd H p (.lst (xs.set j v)))
theorem a7q:b4a X b0P:=by
 intro pins s σ H o i v ov iv u Q I ro ri rv h;obtain⟨p,xs,k,j,rfl,rfl,hp,hj,q⟩:=h;cases ro;obtain⟨t,rfl⟩:=ri;obtain⟨its,n,r,ho,hz⟩:=I.lst hp;obtain⟨h1,h2,h3,h4⟩:=a6j hj;have hl:=r.length;have hn:=a0b;have I':Inv X pins σ (upd H p (.lst (xs.set j v))) {s with heap:=s.heap.update p (Obj.mapSeq (·.setIfInBounds j u))} :=
  I.lstUpd hp ho (a5n its n j u) (r.set rv j) (by rw[dM];exact hz) s.toks
 by_cases h0:0<=k
 ·have hk:k.toNat=j:=by
   rw[seqIndex_of h0 h4] at h1;exact aI h1
  exact PySem.W.ki_setAt ho h0 ∅ (by rw[aB,<- hl];exact h4) (by rw[hk];exact⟨_,I',q⟩)
 ·have hk:(k+(its.toArray.size:Int)).toNat=j:=by
   rw[seqIndex_neg ∅ h3] at h1;rw[aB,<- hl];exact aI h1
  exact PySem.W.ki_setBack ho ∅ (by rw[aB,<- hl];exact h3) ∅ (by rw[hk];exact⟨_,I',q⟩)
theorem a0m (lo hi:Option Int)(n:Nat):(sliceBounds lo hi none n).1=((HT.sIx n 0 lo:Nat):Int)/\(sliceBounds lo hi none n).2.1=((HT.sIx n n hi:Nat):Int)/\(sliceBounds lo hi none n).2.2=1:=by
 refine⟨?_,?_,rfl⟩
 ·cases lo with
  | none=>simp[sliceBounds,HT.sIx]
  | some i =>
   simp only[sliceBounds,HT.sIx,Option.getD_none,show (1:Int)>0 by decide,if_true];by_cases h:i<0
   ·simp only[h,if_true]<;>omega
   ·simp only[h,if_false]<;>omega
 ·cases hi with
  | none=>simp[sliceBounds,HT.sIx]
  | some i =>
   simp only[sliceBounds,HT.sIx,Option.getD_none,show (1:Int)>0 by decide,if_true];by_cases h:i<0
   ·simp only[h,if_true]<;>omega
   ·simp only[h,if_false]<;>omega
theorem a2h (its:List Value)(lo hi:Option Int):slicePick its.toArray lo hi none=((its.drop (HT.sIx its.length 0 lo)).take (HT.sIx its.length its.length hi-HT.sIx its.length 0 lo)).toArray:=by
 obtain⟨h1,h2,h3⟩:=a0m lo hi its.toArray.size;unfold slicePick;rw[h1,h2,h3];simp only[sliceRange_one,pick_run,aB]<;>rfl
def a9x (K:ae):V->Option Int->Option Int->Hp->VK->Prop:=λx lo hi H Q=>∃ a xs,x=.ref a/\SqL K H a xs/\∀ p,H p=none->Q (.ref p) (upd H p (.lst (Z0 xs lo hi)))
theorem a9t:SlR X (a9x X.K):=by
 intro pins s σ H x v vl vu lo hi sl Q I rx hs pl pu h;obtain⟨a,xs,rfl,hx,q⟩:=h;cases rx;obtain⟨its,r,ht,hz⟩:=I.list hx;have hlen:=r.length;refine⟨"list",_,jY.lookup,ht.isList.typeIs,?_⟩;refine wpAny_getItem_list_slice ht.isList hs pl pu .none (by simp) ?_ (by rw[aB]<;>omega);rw[a2h,<- hlen];refine⟨.ref s.heap.objs.size,_,I.laid (t':=s.toks) (o:=.lst (Z0 xs lo hi)) (λb ob q=>ao _ q) (ak _) ?_,rfl,q _ (I.hok.fresh (ak _))⟩;exact⟨aM (a4Q xs lo hi) hz,_,0,(r.drop (HT.sIx xs.length 0 lo)).take (HT.sIx xs.length xs.length hi-HT.sIx xs.length 0 lo),aO _ rfl⟩
def a0x:V->Bool
 | .non=>true
 | .bl _=>true
 | .int _=>true
 | .str _=>true
 | _=>false
def eqV:V->V->Bool
 | .non,.non=>true
 | .bl a,.bl b=>a == b
 | .bl a,.int b=>(if a then 1 else 0) == b
 | .int a,.bl b=>a == (if b then 1 else 0)
 | .int a,.int b=>a == b
 | .str a,.str b=>a == b
 | _,_=>false
theorem b2I {A:Around}{s:Shared}{y x:V}{u v:Value}(ry:C3 y u)(rx:C3 x v)(fy:a0x y=true)(fx:a0x x=true):jq A s u v (eqV y x):=by
 cases y with
 | non =>
  cases ry;cases x with
  | non=>cases rx;exact SeqAt.EqAt.same _
  | bl b=>cases rx;exact SeqAt.EqAt.none_bool b
  | int b=>obtain⟨t,rfl⟩:=rx;exact SeqAt.EqAt.none_int b t
  | str b=>obtain⟨t,rfl⟩:=rx;exact SeqAt.EqAt.none_str b t
  | _=>exact absurd (show false=true from fx) aN
 | bl a =>
  cases ry;cases x with
  | non=>cases rx;exact SeqAt.EqAt.bool_none a
  | bl b=>cases rx;exact SeqAt.EqAt.bool_bool a b
  | int b=>obtain⟨t,rfl⟩:=rx;exact SeqAt.EqAt.bool_int a b t
  | str b=>obtain⟨t,rfl⟩:=rx;exact SeqAt.EqAt.bool_str a b t
  | _=>exact absurd (show false=true from fx) aN
 | int a =>
  obtain⟨t',rfl⟩:=ry;cases x with
  | non=>cases rx;exact SeqAt.EqAt.int_none a t'
  | bl b=>cases rx;exact SeqAt.EqAt.int_bool a t' b
  | int b=>obtain⟨t,rfl⟩:=rx;exact ir a t' b t
  | str b=>obtain⟨t,rfl⟩:=rx;exact iq a t' b t
  | _=>exact absurd (show false=true from fx) aN
 | str a =>
  obtain⟨t',rfl⟩:=ry;cases x with
  | non=>cases rx;exact SeqAt.EqAt.str_none a t'
  | bl b=>cases rx;exact SeqAt.EqAt.str_bool a t' b
  | int b=>obtain⟨t,rfl⟩:=rx;exact ip a t' b t
  | str b=>obtain⟨t,rfl⟩:=rx;exact SeqAt.EqAt.str_str a t' b t
  | _=>exact absurd (show false=true from fx) aN
 | _=>exact absurd (show false=true from fy) aN
def eqU (x:V)(u:Value):Bool:=match u with
 | .none=>eqV .non x
 | .bool b=>eqV (.bl b) x
 | .int i _=>eqV (.int i) x
 | .str z _=>eqV (.str z) x
 | _=>false
theorem a8M {x y:V}{u:Value}(r:C3 y u)(f:a0x y=true):eqU x u=eqV y x:=by
 cases y with
 | non=>cases r;rfl
 | bl b=>cases r;rfl
 | int i=>obtain⟨t,rfl⟩:=r;rfl
 | str z=>obtain⟨t,rfl⟩:=r;rfl
 | _=>exact absurd (show false=true from f) aN
theorem a3E {x:V}:∀ {xs:List V} {us:List Value},C1 xs us->xs.all a0x=true->us.any (eqU x)=xs.any λy=>eqV y x
 | _,_,.nil,_=>rfl
 | y::xs,u::us,.cons r t,f=>by
  rw[List.all_cons,bu] at f;rw[dO,dO,a8M r f.1,a3E t f.2]
theorem a1O {A:Around}{s:Shared}{x:V}{v:Value}(rx:C3 x v)(fx:a0x x=true):∀ {xs:List V} {us:List Value},C1 xs us->xs.all a0x=true->∀ u∈us,jq A s u v (eqU x u)
 | _,_,.nil,_=>λu hu=>by cases hu
 | y::xs,u::us,.cons r t,f=>λu' hu=>by
  rw[List.all_cons,bu] at f;rcases aQ.mp hu with rfl | hu
  ·rw[a8M r f.1];exact b2I r rx f.1 fx
  ·exact a1O rx fx t f.2 u' hu
def inV (x:V)(xs:List V):Bool:=xs.any λy=>eqV y x
def rIn (K:ae)(neg:Bool):R2:=λx y H Q=>∃ p xs,y=.ref p/\(SqL K H p xs\/SqT K H p xs)/\a0x x=true/\xs.all a0x=true/\Q (.bl (if neg then !inV x xs else inV x xs)) H
theorem a6u:OpR X (compareOp .In) (rIn X.K false):=by
 intro pins s σ H x y v u Q I rx ry h;obtain⟨p,xs,rfl,hq,fx,fs,q⟩:=h;cases ry;rcases hq with hq | hq
 ·obtain⟨its,r,pl,hz⟩:=I.list hq;refine SeqAt.in_listAt (eqU x) pl.isList (λw hw=>a1O rx fx r fs w (~~~hw)) ⟨.bl _,H,I,rfl,?_⟩;rw[show its.toArray.any (eqU x)=its.any (eqU x) by simp,a3E r fs];exact q
 ·obtain⟨its,r,pl,hz⟩:=I.tuple hq;refine SeqAt.in_tupleAt (eqU x) pl (λw hw=>a1O rx fx r fs w (~~~hw)) ⟨.bl _,H,I,rfl,?_⟩;rw[show its.toArray.any (eqU x)=its.any (eqU x) by simp,a3E r fs];exact q
theorem a3C:N1 X (.builtin "len") (λxs H Q=>∃ p ys,xs=[.ref p]/\(SqL X.K H p ys\/SqT X.K H p ys)/\Q (.int ys.length) H):=by
 intro pins s σ H xs us Q I r h;obtain⟨p,ys,rfl,hq,q⟩:=h;obtain⟨u,rfl,rx⟩:=T5 r;cases rx;have hn:=a0b;rcases hq with hq | hq
 ·obtain⟨its,r',pl,hz⟩:=I.list hq;have hlen:=r'.length;exact iW pl.isList (by simp only[aB]<;>omega) ⟨.int ys.length,H,I.tok _,⟨s.toks+1,by rw[aB,hlen]⟩,q⟩
 ·obtain⟨its,r',pl,hz⟩:=I.tuple hq;have hlen:=r'.length;exact len_tuple pl (by simp only[aB]<;>omega) ⟨.int ys.length,H,I.tok _,⟨s.toks+1,by rw[aB,hlen]⟩,q⟩
theorem a3B:N1 X (.type "list") (λxs H Q=>∃ p ys,xs=[.ref p]/\(SqL X.K H p ys\/SqT X.K H p ys)/\∀ l,H l=none->Q (.ref l) (upd H l (.lst ys))):=by
 intro pins s σ H xs us Q I r h;obtain⟨p,ys,rfl,hq,q⟩:=h;obtain⟨u,rfl,rx⟩:=T5 r;cases rx;have fin:∀(its:List Value),C1 ys its->ys.length<=sizeLine->∀(h':Heap) (c':Nat),(∀ b o',s.heap.get? b=some o'->h'.get? b=some o') ->
   h'.get? s.heap.objs.size=some {cls:=.type "list",dict:=none,data:=.seq its.toArray c',slots:=#[]}->EP X pins σ Q (.ref s.heap.objs.size) {s with heap:=h'}:=λits r' hz h' c' kp e =>
  ⟨.ref s.heap.objs.size,_,I.laid (t':=s.toks) kp (ak _) (show K8 X.prog X.w _ h' _ (.lst ys) from ⟨hz,its,c',r',e⟩),rfl,q _ (I.hok.fresh (ak _))⟩
 rcases hq with hq | hq
 ·obtain⟨its,r',pl,hz⟩:=I.list hq;have hlen:=r'.length;obtain⟨o,ho,hc,n,hd⟩:=pl.isList;exact call_list_seq p (.inl rfl) ho hc hd (λh' c' kp e=>fin its r' hz h' c' kp e) (by simp only[aB]<;>omega)
 ·obtain⟨its,r',pl,hz⟩:=I.tuple hq;have hlen:=r'.length;obtain⟨o,ho,hc,n,hd⟩:=pl;exact call_list_seq p (.inr rfl) ho hc hd (λh' c' kp e=>fin its r' hz h' c' kp e) (by simp only[aB]<;>omega)
theorem a2m:N1 X (.type "tuple") (λxs H Q=>∃ p ys,xs=[.ref p]/\((SqL X.K H p ys/\∀ l,H l=none->Q (.ref l) (upd H l (.tup ys)))\/(SqT X.K H p ys/\Q (.ref p) H))):=by
 intro pins s σ H xs us Q I r h;obtain⟨p,ys,rfl,h⟩:=h;obtain⟨u,rfl,rx⟩:=T5 r;cases rx;rcases h with ⟨hq,q⟩ | ⟨hq,q⟩
 ·obtain⟨its,r',pl,hz⟩:=I.list hq;have hlen:=r'.length;refine call_tuple_list pl.isList (λh' kp=>?_) (by simp only[aB]<;>omega);have I1:Inv X pins σ H {s with heap:=h'}:=I.kept (t':=s.toks) kp;have I2:Inv X pins σ (upd H h'.objs.size (.tup ys)) {s with heap:=h'.push {cls:=.type "tuple",data:=.seq its.toArray}} :=
   I1.laid (t':=s.toks) (λb o e=>ao _ e) (ak _) (show K8 X.prog X.w _ _ _ (.tup ys) from ⟨hz,its,r',IsTup.new _ _⟩)
  exact⟨.ref h'.objs.size,_,I2,rfl,q _ (I1.hok.fresh (ak _))⟩
 ·obtain⟨its,r',pl,hz⟩:=I.tuple hq;exact call_tuple_same pl ⟨.ref p,H,I,rfl,q⟩
def tyV (K:ae)(T:String)(x:V)(H:Hp):Prop:=match x with
 | .str _=>T="str"
 | .int _=>T="int"
 | .ref p=>(T="list"/\∃ xs,SqL K H p xs)\/(T="tuple"/\∃ o,K.lookup p=some o/\o.cls=.type "tuple"/\o.dict=none) \/
   (T="dict"/\((∃ kvs,H p=some (.dK kvs))\/∃ kvs,H p=some (.dT kvs)))\/(T="set"/\∃ S n,H p=some (.set S n))
 | _=>False
theorem a7a {pins:List (Addr×Obj)}{σ:St}{H:Hp}{s:Shared}{T:String}{x:V}{v:Value}(I:Inv X pins σ H s)(r:C3 x v)(ty:tyV X.K T x H) :
  s.TypeIs v T/\∀ a,v=.ref a->∃ ob,s.heap.get? a=some ob/\ob.dict=none:=by
 cases x with
 | str z =>
  obtain⟨t,rfl⟩:=r;cases (show T="str" from ty);exact⟨typeIs_str s z t,λ_ e=>nomatch e⟩
 | int i =>
  obtain⟨t,rfl⟩:=r;cases (show T="int" from ty);exact⟨typeIs_int s i t,λ_ e=>nomatch e⟩
 | ref p =>
  cases r;rcases ty with ⟨rfl,xs,hq⟩ | ⟨rfl,o,hk,hc,hd⟩ | ⟨rfl,hk⟩ | ⟨rfl,S,n,hk⟩
  ·obtain⟨its,_,pl,_⟩:=I.list hq;refine⟨pl.isList.typeIs,λa e=>?_⟩;cases e;obtain⟨o,n,e,c,hd,_⟩:=pl;exact⟨o,e,hd⟩
  ·refine⟨⟨o,I.kIn p o hk,hc⟩,λa e=>?_⟩;cases e;exact⟨o,I.kIn _ o hk,hd⟩
  ·have z:∃ o,s.heap.get? p=some o/\o.ExactDict:=by
    rcases hk with ⟨kvs,hk⟩ | ⟨kvs,hk⟩
    ·obtain⟨_,_,_,_,o,_,_,e,ex,_⟩:=I.hok p _ hk;exact⟨o,e,ex⟩
    ·obtain⟨_,_,_,_,o,_,_,e,ex,_⟩:=I.hok p _ hk;exact⟨o,e,ex⟩
   obtain⟨o,e,ex⟩:=z;refine⟨⟨o,e,ex.1⟩,λa e2=>?_⟩;cases e2;exact⟨o,e,ex.2.1⟩
  ·obtain⟨o,_,_,_,e,ex,_⟩:=I.hok p _ hk;refine⟨⟨o,e,ex.1⟩,λa e2=>?_⟩;cases e2;exact⟨o,e,ex.2.1⟩
 | _=>exact cD ty
def b1y (K:ae)(T:String)(r:V->List V->Hp->VK->Prop)(to:TE):TE:=fun σ H Q=>to σ H λx H1=>tyV K T x H1/\r x [] H1 Q
def tBM (K:ae)(T:String)(r:V->List V->Hp->VK->Prop)(to:TE)(t:TA):TE:=fun σ H Q=>to σ H λx H1=>tyV K T x H1/\t σ H1 λxs H2=>r x xs H2 Q
variable {o e:Expr}{es:List Expr}{to:TE}{t:TA}{name:Str}{apos cpos:Pos}{T id:String}{r:V->List V->Hp->VK->Prop}
theorem b1T (pa:PlainAttrs T)(slot:Slot T name id)(hty:typeOf (.builtin id)=pure (.type "method_descriptor"))(hm:MtR X id r)(ho:PE X o to)
  (hbase:attributeBase o name X.env (eval o X.env)=eval o X.env:=by rfl) (hline:(apos.endLine == cpos.line)=true:=by rfl):PE X (.Call (.Attribute o name apos) [] [] cpos) (b1y X.K T r to):=by
 intro pins s σ H Q I h;refine wpAny_Call_method0_late hbase hline (thn (ho pins s σ H _ I h) λv s1 ⟨x,H1,I1,r1,ty,q1⟩=>?_);obtain⟨h1,h2⟩:=a7a I1 r1 ty;exact⟨T,id,pa,slot,hty,h1,h2,fG rfl (PySem.evalArgs_none (hm pins s1 σ H1 x [] v [] Q I1 r1 .nil q1))⟩
theorem a5Y (pa:PlainAttrs T)(slot:Slot T name id)(hty:typeOf (.builtin id)=pure (.type "method_descriptor"))(hm:MtR X id r)(ho:PE X o to)(ha:PA X (e::es) t)
  (hbase:attributeBase o name X.env (eval o X.env)=eval o X.env:=by rfl)
  (hfew:((backTo cpos (starEach (e::es) X.env)).all (λx=>!x.1) && (backToKw cpos (keywordEach [] X.env)).all (λx=>x.1.isSome)
   && decide ((e::es).length+([]:List Keyword).length+(if ([]:List Keyword).isEmpty then 0 else 1)<30))=true:=by rfl)
  (hline:(apos.endLine == cpos.line)=true:=by rfl) (hs:starEach (e::es) X.env=(false,eval e X.env)::starEach es X.env:=by rfl) (hplain:(backTo cpos (starEach es X.env)).any (·.1)=false:=by rfl) :
  PE X (.Call (.Attribute o name apos) (e::es) [] cpos) (tBM X.K T r to t):=by
 intro pins s σ H Q I h;refine wpAny_Call_method_late hbase hfew hline rfl (thn (ho pins s σ H _ I h) λv s1 ⟨x,H1,I1,r1,ty,q1⟩=>?_);obtain⟨h1,h2⟩:=a7a I1 r1 ty;refine⟨T,id,pa,slot,hty,h1,h2,?_⟩;have hA:=ha cpos pins s1 σ H1 _ I1 q1;rw[hs] at hA ⊢;refine fG (by show (false || (backTo cpos (starEach es X.env)).any (·.1))=false;rw[hplain]<;>rfl) (iN ?_);exact thn hA λus s2 ⟨vs,H2,I2,r2,q2⟩=>hm pins s2 σ H2 x vs v us Q I2 r1 r2 q2
/- xs.append(e),list.index on a module's tuple .. are MtR facts of 06m -/
end
end L2
namespace L2
open PySem PySem.Spec PyProof.Rows
def MtM (X:Cx)(id:String)(r:V->List V->Hp->VK->Prop):Prop :=
 ∀(pins:List (Addr×Obj)) (s:Shared) (σ:St) (H:Hp) (x:V) (xs:List V) (v:Value) (us:List Value) (Q:VK),Inv X pins σ H s->C3 x v->C1 xs us->r x xs H Q ->
  wpAny (model X.prog X.w) X.A (call (.builtin id) (v::us)) (EP X pins σ Q) X.xe s
theorem C1.one:∀ {x:V} {us:List Value},C1 [x] us->∃ u,us=[u]/\C3 x u
 | _,_,.cons r .nil=>⟨_,rfl,r⟩
theorem C1.zero:∀ {us:List Value},C1 [] us->us=[]
 | _,.nil=>rfl
theorem C1.dropLast {xs:List V}{us:List Value}(h:C1 xs us):C1 xs.dropLast us.dropLast:=by
 induction h with
 | nil=>exact .nil
 | cons r t ih =>
  cases t with
  | nil=>exact .nil
  | cons q t'=>exact .cons r ih
theorem C1.eraseIdx:∀ {xs:List V} {us:List Value} (i:Nat),C1 xs us->C1 (xs.eraseIdx i) (us.eraseIdx i)
 | _,_,_,.nil=>.nil
 | _,_,0,.cons _ t=>t
 | _,_,i+1,.cons r t=>.cons r (C1.eraseIdx i t)
theorem C1.reverse {xs:List V}{us:List Value}(h:C1 xs us):C1 xs.reverse us.reverse:=by
 induction h with
 | nil=>exact .nil
 | cons r t ih=>rw[dW,dW];exact C1.append ih (.cons r .nil)
theorem C1.rep {xs:List V}{us:List Value}(h:C1 xs us):∀ k:Nat,C1 (List.replicate k xs).flatten (List.replicate k us).flatten
 | 0=>.nil
 | k+1=>by
  rw[cE,cE,dX,dX];exact C1.append h (C1.rep h k)
theorem a5u {α:Type}(l:List α):l.eraseIdx (l.length-1)=l.dropLast:=by
 induction l with
 | nil=>rfl
 | cons a r ih =>
  cases r with
  | nil=>rfl
  | cons b r =>
   have e:(a::b::r).length-1=((b::r).length-1)+1:=by
    have h1:(a::b::r).length=r.length+2:=rfl;have h2:(b::r).length=r.length+1:=rfl;omega
   rw[e,List.eraseIdx_cons_succ,ih];all_goals rfl
theorem a2L (its:List Value):∀(k:Nat) (acc:List Value),
  gB (λx1 x2=>x1++x2) acc.toArray (List.replicate k its.toArray)=(acc++(List.replicate k its).flatten).toArray
 | 0,acc=>by simp
 | k+1,acc=>by
  have e:acc.toArray++its.toArray=(acc++its).toArray:=by simp
  have e2:(acc++its)++(List.replicate k its).flatten=acc++(List.replicate (k+1) its).flatten:=by
   rw[cE,dX,bn]
  rw[<- e2,<- a2L its k (acc++its),<- e,cE,df]
section
variable {X:Cx}{pins:List (Addr×Obj)}{σ:St}{H:Hp}{s:Shared}{l b:Addr}{xs ys zs:List V}
theorem Inv.lset {its its':List Value}{n:Nat}{f:Array Value->Array Value}{t':Nat}(I:Inv X pins σ H s)(hH:H l=some (.lst xs))
  (e:s.heap.get? l=some {cls:=.type "list",data:=.seq its.toArray n}) (hf:f its.toArray=its'.toArray) (hv:C1 ys its') (hz:ys.length<=sizeLine) :
  Inv X pins σ (upd H l (.lst ys)) {s with heap:=s.heap.update l (Obj.mapSeq f),toks:=t'}:=by
 have q:=PySem.IsL.update e f;rw[hf] at q;refine I.write (x:=l) (e:=l) (by rw[hH];exact trivial) (.inl rfl) (λb' u hb hu=>(fJ s.heap (Obj.mapSeq f) (fb hb)).trans hu) ⟨_,q⟩ ?_;exact⟨hz,its',_,hv,q⟩
theorem Inv.lnew {its:List Value}{t':Nat}(I:Inv X pins σ H s)(hv:C1 ys its)(hz:ys.length<=sizeLine) :
  Inv X pins σ (upd H s.heap.objs.size (.lst ys)) {s with heap:=s.heap.push {cls:=.type "list",data:=.seq its.toArray},toks:=t'} :=
 I.laid (λ_ _ q=>ao _ q) (ak _) ⟨hz,its,0,hv,aO _ rfl⟩
theorem Inv.fresh (I:Inv X pins σ H s):H s.heap.objs.size=none:=I.hok.fresh (ak _)
theorem Inv.lstM (I:Inv X pins σ H s)(hH:H l=some (.lst xs)):xs.length<=sizeLine/\∃(its:List Value) (n:Nat),C1 xs its/\xs.length=its.length/\s.heap.get? l=some {cls:=.type "list",data:=.seq its.toArray n}:=by
 obtain⟨z,its,n,r,e⟩:=I.hok l _ hH;exact⟨z,its,n,r,r.length,e⟩
theorem a4z {n:Nat}(h:n<=sizeLine):Builtin.List.listTooLong n=false:=by
 unfold Builtin.List.listTooLong;exact decide_eq_false ∅
end
section
variable {X:Cx}
def a3e:V->List V->Hp->VK->Prop:=λx vs H Q=>∃ l xs y,x=.ref l/\vs=[y]/\H l=some (.lst xs)/\xs.length<sizeLine/\Q .non (upd H l (.lst (xs++[y])))
theorem a2F:MtM X "list.append" a3e:=by
 intro pins s σ H x vs v us Q I rx rv h;obtain⟨l,xs,y,rfl,rfl,hH,hz,q⟩:=h;cases rx;obtain⟨u,rfl,ru⟩:=rv.one;obtain⟨z,its,n,r,hl,e⟩:=I.lstM hH;refine fh F.slot_list_append ⟨_,e,rfl⟩ F.entry_list_append (F.args_list_append_2 _ _) (PySem.list_append l its.toArray n u (by rw[aB];omega)) ⟨e,?_⟩;refine⟨.non,_,I.lset (its':=its++[u]) hH e (by simp) (r.append (.cons ru .nil)) ?_,rfl,q⟩;rw[aq,cb];omega
def a9A:V->List V->Hp->VK->Prop:=λx vs H Q=>∃ l b xs zs,x=.ref l/\vs=[.ref b]/\H l=some (.lst xs)/\H b=some (.lst zs)/\xs.length+zs.length<=sizeLine/\Q .non (upd H l (.lst (xs++zs)))
theorem b2Z:MtM X "list.extend" a9A:=by
 intro pins s σ H x vs v us Q I rx rv h;obtain⟨l,b,xs,zs,rfl,rfl,hH,hB,hz,q⟩:=h;cases rx;obtain⟨u,rfl,ru⟩:=rv.one;cases ru;obtain⟨z,its,n,r,hl,e⟩:=I.lstM hH;obtain⟨z2,its2,n2,r2,hl2,e2⟩:=I.lstM hB;have hsz:its.toArray.size+its2.toArray.size<=sizeLine:=by rw[aB,aB];omega
 have hlong:¬ (!its.toArray.isEmpty && Builtin.List.listTooLong (its.toArray.size+its2.toArray.size))=true:=by
  rw[a4z hsz,Bool.and_false];exact aN
 refine fh F.slot_list_extend ⟨_,e,rfl⟩ F.entry_list_extend (F.args_list_extend_2 _ _)
  (AutoSeq1.list_extend_list_list_0 l its.toArray n b its2.toArray n2 hlong (by rw[aB];omega) ∅) ⟨e,e2,?_⟩
 refine⟨.non,_,I.lset (its':=its++its2) hH e (by simp) (r.append r2) ?_,rfl,q⟩;rw[aq];omega
def b1F:V->List V->Hp->VK->Prop:=λx vs H Q=>∃ l xs y,x=.ref l/\vs=[]/\H l=some (.lst xs)/\xs[xs.length-1]?=some y/\Q y (upd H l (.lst xs.dropLast))
theorem b2e:MtM X "list.pop" b1F:=by
 intro pins s σ H x vs v us Q I rx rv h;obtain⟨l,xs,y,rfl,rfl,hH,hy,q⟩:=h;cases rx;have hus:=rv.zero;subst hus;obtain⟨z,its,n,r,hl,e⟩:=I.lstM hH;obtain⟨u,hu,ru⟩:=r.get hy;have hy':its.toArray[its.toArray.size-1]?=some u:=by
  show its.toArray[its.length-1]?=some u;rw[<- bp,<- hl];exact hu
 refine fh F.slot_list_pop ⟨_,e,rfl⟩ F.entry_list_pop (F.args_list_pop_1 _) (MeetsSeq.list_pop_last l its.toArray n u hy' (by rw[aB];omega)) ⟨e,?_⟩;refine⟨y,_,I.lset (its':=its.dropLast) hH e ?_ r.dropLast ?_,ru,q⟩
 ·show its.toArray.eraseIdxIfInBounds (its.toArray.size-1)=its.dropLast.toArray;rw[aB,List.eraseIdxIfInBounds_toArray,a5u]
 ·rw[i7];omega
def b1G:R2:=λx y H Q=>∃ l b xs zs,x=.ref l/\y=.ref b/\H l=some (.lst xs)/\H b=some (.lst zs)/\xs.length+zs.length<=sizeLine/\∀ p,H p=none->Q (.ref p) (upd H p (.lst (xs++zs)))
theorem M6:OpR X (binaryOp .Add) b1G:=by
 intro pins s σ H x y v u Q I rx ry h;obtain⟨l,b,xs,zs,rfl,rfl,hH,hB,hz,q⟩:=h;cases rx;cases ry;obtain⟨z,its,n,r,hl,e⟩:=I.lstM hH;obtain⟨z2,its2,n2,r2,hl2,e2⟩:=I.lstM hB;refine PySem.P.add_list e e2 ?_ (by rw[aB,aB];omega);have ea:its.toArray++its2.toArray=(its++its2).toArray:=by simp
 rw[ea];exact⟨.ref _,_,I.lnew (t':=s.toks) (r.append r2) (by rw[aq];omega),rfl,q _ I.fresh⟩
def b4u:R2:=λx y H Q=>∃ l k xs,x=.ref l/\y=.int k/\H l=some (.lst xs)/\-(2 ^ 63)<=k/\k<2 ^ 63/\xs.length*k.toNat<=sizeLine /\
 ∀ p,H p=none->Q (.ref p) (upd H p (.lst (List.replicate k.toNat xs).flatten))
theorem b0b {α:Type}(xs:List α)(k:Nat):(List.replicate k xs).flatten.length=k*xs.length:=by
 induction k with
 | zero=>simp
 | succ k ih=>rw[cE,dX,aq,ih,iX,Nat.add_comm]
theorem b1U:OpR X (binaryOp .Mult) b4u:=by
 intro pins s σ H x y v u Q I rx ry h;obtain⟨l,k,xs,rfl,rfl,hH,h1,h2,hz,q⟩:=h;cases rx;obtain⟨t,rfl⟩:=ry;obtain⟨z,its,n,r,hl,e⟩:=I.lstM hH;have hlen:its.toArray.size*k.toNat<=sizeLine:=by rw[aB,<- hl];exact hz
 have hcap:¬ its.toArray.size*k.toNat>(2 ^ 63-1) / 8:=by
  have:(sizeLine:Nat)<=(2 ^ 63-1) / 8:=by decide
  omega
 have hfit:¬ (!Builtin.List.listFitsIndex k)=true:=by
  rw[fitsIndex_both h1 h2];exact aN
 have hlong:¬ Builtin.List.listTooLong (its.toArray.size*k.toNat)=true:=by
  rw[a4z hlen];exact aN
 have hnew:gB (λx1 x2=>x1++x2) #[] (List.replicate (if its.toArray.isEmpty=true then 0 else k.toNat) its.toArray)=(List.replicate k.toNat its).flatten.toArray:=by
  have f0:∀ m:Nat,gB (λx1 x2=>x1++x2) #[] (List.replicate m its.toArray)=(List.replicate m its).flatten.toArray:=λm=>by
   have:=a2L its m [];rw[cj] at this;exact this
  rw[f0];cases its with
  | nil=>simp
  | cons a r'=>rw[if_neg (by simp)]
 refine wpAny_binaryOp_repeat_ref (T:="list") (U:="int") (by decide) ⟨_,e,rfl⟩ (λs'=>typeIs_int s' k t) noFill_list_mul F.fills_int_mul F.slot_int_rmul repeat_list F.slot_int_index.lookup
  (fh F.slot_int_rmul (typeIs_int s k t) F.entry_int_rmul (F.args_int_rmul_2 _ _) (int___rmul___int_list k t l its.toArray n)
   ⟨e,rfl,⟨_,e,rfl⟩,fh F.slot_list_mul ⟨_,e,rfl⟩ F.entry_list_mul (F.args_list_mul_2 _ _) (AutoListH.list___mul___list_int_3 l its.toArray n k t hfit hcap hlong) ⟨e,?_⟩⟩)
 rw[hnew];exact⟨.ref _,_,I.lnew (t':=s.toks) (r.rep k.toNat) (by rw[b0b,Nat.mul_comm];exact hz),rfl,q _ I.fresh⟩
end
end L2
namespace Att
open PySem PySem.W PySem.Calls PyProof.Rows
theorem ints_of_wellAll {P:Params}{h:Heap}:∀(ns:List Int) (vs:List Value),WellAll P h vs (ns.map WData.int)->IntsAre vs ns:=by
 intro ns;induction ns with
 | nil =>
  intro vs w;rw[cC] at w;cases w;exact .nil
 | cons n ns ih =>
  intro vs w;rw[ap] at w;cases w with
  | cons a b =>
   cases a;exact .cons _ _ (ih _ b)
theorem script_of {l:OpenLaw}{n:Nat}(hn:l.most=some n){P:Params}{h:Heap}{args:List WData}{vals:List Value}
  (hpre:l.row.toRowW.claim.pre args=true) (hwl:WellAll P h vals args) :
  ∃ a vs ns,vals=[bd a]/\args=[WData.list (ns.map WData.int)]/\h.get? a=some {cls:=.type "list",data:=.seq vs.toArray}/\IntsAre vs ns/\ns.length<=n:=by
 have hsh:WShape.hasAll [] args [.list .int]=true:=(pre_splitW hpre).1;have hc:l.pre.holds [] {args:=args}=true:=(pre_splitW hpre).2;obtain⟨d,r,rfl,h1,h2⟩:=hasAllW_cons hsh;obtain rfl:=hasAllW_nil h2;obtain⟨xs,rfl,h3⟩:=hasW_list h1;obtain⟨ns,rfl⟩:=items_int h3;have hlen:ns.length<=n:=by
  unfold OpenLaw.pre at hc;have h4:(WTm.not (.lt (.lit (.int (n:Int))) (.len (.arg 0)))).holds [] {args:=[.list (ns.map .int)]}=true:=by
   have h4:=(holds_andW hc).1;rw[hn] at h4;exact h4
  have h5:=condW_of h4 (w_not (w_lt w_lit (w_len_list (w_arg rfl))));rw[aa] at h5;refine Nat.le_of_not_lt λq=>?_
  have q':(n:Int)<((ns.length:Nat):Int):=∅
  first
   | (rw[decide_eq_true q'] at h5;exact absurd h5 (by decide))
   | (simp at h5;omega)
 cases hwl with
 | cons w1 w2 =>
  cases w2;cases w1 with
  | list ho hall=>exact⟨_,_,ns,rfl,rfl,ho,ints_of_wellAll ns _ hall,hlen⟩
theorem post_true (l:OpenLaw)(args:List WData):l.row.toRowW.claim.post args (.bool true) args=true :=
 postW_of (r:=l.row.toRowW) (X:=(true == true))
  (show WShape.has [] (.bool true) .bool=true by first | rfl | decide | simp[WShape.has,WShape.arms,WShape.armsAll])
  (show (WTm.eq .res (.lit (.bool true))).value [] {args:=args,res:=some (.bool true),after:=args}=some (.bool (true == true)) from w_eq_bool (w_res rfl) w_lit) rfl
theorem attach_call {l:OpenLaw}{n:Nat}{q:Program}{loose:List Str}{XP:(Str->Option Value)->Heap->Prop}{YP:World->Heap->Prop}{d:DefRec}
  (hn:l.most=some n) (hdf:d.params.defaults=[])
  (call:∀(w:World) (sq s₁:Shared) (mg mb:Str->Option Value) (fa:Addr) (o:Obj) (pm cd doc:Value) (a:Addr) (vs:List Value) (ns:List Int),
   Ground q loose [] XP w sq mg mb s₁.heap->YP w s₁.heap ->
   s₁.heap.get? fa=some o->o.data=.func (docDef d.name d.params d.body d.scope pm cd doc)->s₁.heap.CodeRec cd d.name->mg d.name=some (.ref fa) ->
   s₁.heap.get? a=some {cls:=.type "list",data:=.seq vs.toArray}->IntsAre vs ns->ns.length<=n->s₁.gens=#[] ->
   codeAny (model l.prog w) callerA (.call (.ref fa) ⟨[.ref a],[]⟩) (λr s'=>r=.ok (.ret (.bool true))/\OldK s₁.heap s'.heap/\s'.os=s₁.os/\AllBare s'.gens) s₁) :
  WalkO q loose XP YP l.row.toRowW d [] (λf vs=>jo f vs):=by
 intro w sq s₁ mg mb G Y fa o pm cd doc dV kV ho hd hcd hD hmg hg args vals as hpre hlay hrd hwl hlo;obtain rfl:dV=.none:=Dflts.none hD hdf;obtain rfl:kV=.none:=Dflts.noKw hD;obtain⟨a,vs,ns,rfl,rfl,hobj,hints,hlen⟩:=script_of hn hpre hwl;refine enter_call (codeAny_mono (call w sq s₁ mg mb fa o pm cd doc a vs ns G Y ho (fd_plain hd) hcd hmg hobj hints hlen hg) λr s' hq=>?_);obtain⟨rfl,h2,h3,h4⟩:=hq;exact⟨.inl ⟨.bool true,.bool true,[],rfl,λ_=>rfl,.bool true,post_true l _,λ_=>⟨List.Pairwise.nil,λ_ hm=>(nomatch hm)⟩⟩,h2,h3,h4⟩
end Att
namespace L2
open PySem PySem.Spec PyProof.Rows
theorem a0A:∀ {vs:List Value} {ns:List Int},IntsAre vs ns->C1 (ns.map V.int) vs
 | _,_,.nil=>.nil
 | _,_,.cons n t h=>.cons ⟨t,rfl⟩ (a0A h)
def b2W (H:Hp):Prop:=∀ b,H b=none\/∃ o xs,H b=some (.frz o (.lst xs))
theorem a8s {P:Program}{w:World}{K:ae}{mg mb:Str->Option Value}{CX:CXT}{k:Nat}{fa a:Addr}{fd:FuncData}{x:Str}{sp:Sp}{s₁:Shared}{vs:List Value}{ns:List Int}
  (KX:K.In s₁.heap) (hns:s₁.heap.Ns mainGlobals mg) (hb:s₁.heap.Ns builtinsNs mb) (hbb:∀ x:Str,x≠"__name__"->mb x=bootBuiltins x) (hlim:s₁.heap.NoLimit) (hg:s₁.gens=#[])
  (ha:s₁.heap.get? a=some {cls:=.type "list",data:=.seq vs.toArray}) (hi:IntsAre vs ns) (hl:ns.length<=sizeLine) (hr:Q5 k callerA)
  (F:∀ base:Heap,K.In base->base.Ns mainGlobals mg->C2 P w K mg base CX k fa fd [x] sp) (hbind:∀(s:Shared) (u:Value),BindsTo s fd ⟨[u],[]⟩ [(x,u)])
  (hsp:∀ H:Hp,b2W H->SqL K H a (ns.map V.int)->sp [.ref a] H (λv _=>v=.bl true) λ_ _ _=>False)
  (hCX:∀ H e s',CX [] H s₁ (λ_ _ _=>False) e s'->False) :
  codeAny (model P w) callerA (.call (.ref fa) ⟨[.ref a],[]⟩) (λr s'=>r=.ok (.ret (.bool true))/\OldK s₁.heap s'.heap/\s'.os=s₁.os/\AllBare s'.gens) s₁:=by
 have rv:=a0A hi;have lenV:=hi.length;have core:∀ H:Hp,b2W H->SqL K H a (ns.map V.int)->HOk P w H s₁.heap->(∀ b,H b≠none->b=a)->(H a≠none->K.lookup a=none) ->
   codeAny (model P w) callerA (.call (.ref fa) ⟨[.ref a],[]⟩) (λr s'=>r=.ok (.ret (.bool true))/\OldK s₁.heap s'.heap/\s'.os=s₁.os/\AllBare s'.gens) s₁:=by
  intro H hO hS hok hA hK;have base_of:∀ {b:Addr} {o:Obj},s₁.heap.get? b=some o->H b=none->(a3u s₁.heap H).get? b=some o:=λe n=>a8D e n
  have noA:∀ {b:Addr} {o:Obj} {es:Array DictEntry} {ep:Nat},s₁.heap.get? b=some o->o.data=.dict es ep->H b=none:=λ{b o es ep} e d=>by
   cases q:H b with
   | none=>rfl
   | some u =>
    have e':b=a:=hA b (by rw[q];simp);subst e';rw[ha] at e;cases e;have d':Data.seq vs.toArray _=db es ep:=d;cases d'
  have nsK:∀ {b:Addr} {m:Str->Option Value},s₁.heap.Ns b m->(a3u s₁.heap H).Ns b m:=λ{b m} ⟨o,es,ep,e,d,r⟩=>⟨o,es,ep,base_of e (noA e d),d,r⟩
  have hKb:K.In (a3u s₁.heap H):=λb o e=>base_of (KX b o e) (by
   cases q:H b with
   | none=>rfl
   | some u =>
    have e':b=a:=hA b (by rw[q];simp);subst e'
    rw[hK (by rw[q];simp)] at e;cases e)
  have hM:Mod K mg (a3u s₁.heap H):=⟨hKb,nsK hns,⟨mb,nsK hb,hbb⟩,let ⟨mc,h1,h2⟩:=hlim;⟨mc,nsK h1,h2⟩⟩
  have e0:a5D P w K mg (a3u s₁.heap H) callerA [] s₁ H:=⟨rfl,hM,λb o e=>a9S e,iZ (a6J _ _),trivial,λb hb=>absurd (show b∈([]:List Addr) from hb) (by simp),hok,.of_eq hg⟩
  refine codeAny_mono ((F _ hKb (nsK hns)).run callerA [] s₁ H ⟨[.ref a],[]⟩ [.ref a] [.ref a] _ _ hr e0 (hbind s₁ (.ref a)) (.cons rfl .nil) (hsp H hO hS)) λr s' h=>?_
  cases r with
  | error e=>exact (hCX H e s' h).elim
  | ok fl =>
   cases fl with
   | next=>exact cD h
   | brk=>exact cD h
   | cont=>exact cD h
   | ret u =>
    obtain⟨v,H',os,bare,un,hok',r',q⟩:=h;have q':v=.bl true:=q;subst q';obtain rfl:u=aU true:=r';refine⟨rfl,OldK.of_keep λb o e=>?_,os,bare⟩;cases q:H b with
    | none=>exact un.keep b o e q (by intro z;exact absurd (show b∈([]:List Addr) from z) (by simp)) (by simp)
    | some u =>
     rcases hO b with z | ⟨ob,xs,z⟩
     ·rw[q] at z;cases z
     ·have z2:=un.frzs b ob _ z;obtain⟨e1,_⟩:=hok b _ z;obtain⟨e2,_⟩:=hok' b _ z2;rw[e] at e1;cases e1;exact e2
 cases hk:K.lookup a with
 | some o =>
  have e:=KX a o hk;rw[ha] at e;cases e;refine core (λ_=>none) (λ_=>.inl rfl) (.inr ⟨_,vs.toArray,_,hk,rfl,rfl,rfl,by rw[aB,lenV];exact hl, ~~~rv⟩) (λb u z=>by have z':(none:Option HO)=some u:=z;cases z') (λb z=>absurd rfl z) λz=>absurd rfl z
 | none =>
  refine core (λb=>if b=a then some (.frz {cls:=.type "list",data:=.seq vs.toArray} (.lst (ns.map V.int))) else none) (λb=>?_) (.inl (.inr ⟨{cls:=.type "list",data:=.seq vs.toArray},if_pos rfl⟩)) (λb u z=>?_) (λb z=>?_) λ_=>hk
  ·by_cases hb:b=a
   ·exact .inr ⟨_,_,if_pos hb⟩
   ·exact .inl (if_neg hb)
  ·by_cases hb:b=a
   ·have z':=(if_pos hb).symm.trans z;cases z';subst hb;exact⟨ha,by rw[aa];exact hl,vs,_,rv,ha⟩
   ·have z':=(if_neg hb).symm.trans z;cases z'
  ·by_cases hb:b=a
   ·exact hb
   ·exact absurd (if_neg hb) z
end L2
namespace L2
open PySem PySem.Spec PyProof.Rows
abbrev KOf {K:ae}{h:Heap}(_:K.In h):ae:=K
theorem a5E {l:gE}{n k:Nat}{q:Program}{loose:List Str}{XP:(Str->Option Value)->Heap->Prop}{YP:World->Heap->Prop}{d:DefRec}{K:Params->ae}{CX:World->CXT}{sp:World->Sp}{x:Str}
  (hn:l.most=some n) (hn2:n<=sizeLine) (hdf:d.params.defaults=[]) (hr:Q5 k callerA)
  (hY:∀(w:World) (h:Heap),YP w h->(K w.params).In h)
  (F:∀(w:World) (mg:Str->Option Value) (fa:Addr) (h:Heap),(K w.params).In h->h.Ns mainGlobals mg->mg d.name=some (.ref fa) ->
   ∃ fd:FuncData,(∀(s:Shared) (u:Value),BindsTo s fd ⟨[u],[]⟩ [(x,u)]) /\
    ∀ base:Heap,(K w.params).In base->base.Ns mainGlobals mg->C2 l.prog w (K w.params) mg base (CX w) k fa fd [x] (sp w))
  (hsp:∀(w:World) (H:Hp) (a:Addr) (ns:List Int),ns.length<=n->b2W H->SqL (K w.params) H a (ns.map V.int)->sp w [.ref a] H (λv _=>v=.bl true) λ_ _ _=>False)
  (hCX:∀(w:World) (H:Hp) (s:Shared) (e:Value) (s':Shared),CX w [] H s (λ_ _ _=>False) e s'->False) :
  PySem.W.WalkO q loose XP YP l.row.toRowW d [] (λf vs=>jo f vs):=by
 refine Att.attach_call hn hdf λw sq s₁ mg mb fa o pm cd doc a vs ns G Y ho hd hcd hmg hobj hints hlen hg=>?_
 have KX:=hY w _ Y;obtain⟨fd,hb,hF⟩:=F w mg fa _ KX G.T.g hmg;exact a8s KX G.T.g G.T.b G.T.builtins G.T.nolimit hg hobj hints (aM hlen hn2) hr hF hb (λH hO hS=>hsp w H a ns hlen hO hS) λH e s'=>hCX w H s₁ e s'
end L2
/- THE LAST THEOREM (shape;LID,My.* are yours):
   My.Adr: a structure of the addresses that your layer names (classes,functions);My.Txt K t: a structure (Prop) of the equations over K;
   My.txt_mk:{K} {implicit addresses ..} (e1:nsIn K mainGlobals "law"=some (some (.ref f))) (e2:K.lookup f=some ⟨oc,od,.func (fnOf "law" "law" params body scope dV kV doc pm an cdv ct),sl⟩) (e3:codeIn K cdv "law"=true) ..:∃ t,My.Txt K t
set_option maxRecDepth 100000 in
set_option maxHeartbeats 0 in
theorem PySem.Challenge.cw_LID_holds : PySem.Challenge.rw_LID.Holds := by
 w_on;o_law;k_head;(case hw=>w_witness2)
 k_fill
 refine L2.a5E (l:=PySem.Challenge.rw_LID) (n:=63) (k:=40) (x:="script") (CX:=λw=>..) (sp:=λ_=>My.sp_law) rfl (by decide) rfl ⟨rfl,by decide,by decide⟩ (λw h Y=>PySem.W.kIn_of Y) ?F ?S ?C
 case F =>
  intro w mg fa h KX G hmg;have T:∃ t,My.Txt (L2.KOf KX) t:=by
   dsimp only[L2.KOf] -- K must stand as «<heap const> w.params» for k_is;refine' My.txt_mk ?e1 ?e2 ?e3 ..
   (case e1=>PySem.W.k_is) -- in the order: a name -> its address -> its object -> its parts
   (case e2=>PySem.W.k_is)
   ..
  obtain⟨t,T⟩:=T;have e0:=hmg.symm.trans (aJ KX G T.law);cases e0 -- fa is the law's own address;exact⟨_,λs u=>.of_eq rfl,λbase kb nb=>My.law_fn T kb nb⟩ -- if «.of_eq rfl» comes too early: refine' ⟨_,?b,λbase kb nb=>My.law_fn T kb nb⟩;exact λs u=>.of_eq rfl
 case S=>exact λw H a ns hl hO hS=>..
 case C=>exact ..
(the tactic k_is has no namespace: write k_is) -/
namespace L2
open PySem PySem.Spec PyProof.Rows
abbrev CX0:CXT:=λ_ _ _ _ _ _=>False
abbrev E0:XK:=λ_ _ _=>False
theorem b3J {X:Cx}:a3G CX0 X E0:=λ_ _ _ _ _ _ _ h=>h.elim
structure Fun (K:ae)(x qual:Str)(st:Stmt)(f:Addr)(fd:FuncData):Prop where
 ex:∃(oc:Value) (od:Option Addr) (kV doc pm:Value) (an:Option Addr) (cdv ct:Value) (osl:Array (Option Value)),
  fd=dq x qual (V5 st) (T3 st) (B1 st) .none kV doc pm an cdv ct/\K.lookup f=some ⟨oc,od,.func fd,osl⟩/\fO K cdv qual=true
 kp:fN K (.ref f)=true
section
variable {P:Program}{w:World}{K:ae}{mg:Str->Option Value}{base:Heap}
theorem Fun.ok {x qual:Str}{st:Stmt}{f:Addr}{fd:FuncData}{N ps:List Str}{k:Nat}{sp:Sp}(F:Fun K x qual st f fd)(S:C0 N ps (B1 st))(len:∀ vs H Q E,sp vs H Q E->vs.length=ps.length)
  (hbody:∀(cdv:Value) (A:Around) (outer:List Env) (s:Shared) (H:Hp) (vs:List V) (Q:VK) (E:XK),Q5 k (A.deeper (envOfC qual (B1 st) s.heap.objs.size f cdv))->sp vs H Q E ->
   ∃ t,PSs (a2l CX0 P w K mg base N qual (B1 st) f cdv A outer s H E).nox (T3 st) t/\t {nx:=λ_ H'=>Q .non H',rt:=Q} (S8 N vs) H):C2 P w K mg base CX0 (k+1) f fd ps sp:=by
 obtain⟨oc,od,kV,doc,pm,an,cdv,ct,osl,rfl,lk,hcd⟩:=F.ex;refine b1a lk hcd S len λA outer s H vs Q E hr hsp=>?_
 obtain⟨t,h,q⟩:=hbody cdv A outer s H vs Q E hr hsp;exact⟨t,h.nox,q⟩
theorem Fun.binds {x qual:Str}{st:Stmt}{f:Addr}{fd:FuncData}{ps:List Str}(F:Fun K x qual st f fd)
  (h:∀(kV doc pm:Value) (an:Option Addr) (cdv ct:Value) (us:List Value),us.length=ps.length->bindArgs (dq x qual (V5 st) (T3 st) (B1 st) .none kV doc pm an cdv ct) ⟨us,[]⟩=pure (ps.zip us)):a2W K fd ps []:=by
 obtain⟨oc,od,kV,doc,pm,an,cdv,ct,osl,rfl,lk,hcd⟩:=F.ex;exact .all (h kV doc pm an cdv ct)
theorem E7 {x qual:Str}{st:Stmt}{f:Addr}{oc:Value}{od an:Option Addr}{osl:Array (Option Value)}{kV doc pm cdv ct:Value}(l:K.lookup f=some ⟨oc,od,.func (dq x qual (V5 st) (T3 st) (B1 st) .none kV doc pm an cdv ct),osl⟩)
  (c:fO K cdv qual=true) (k:fN K (.ref f)=true):Fun K x qual st f (dq x qual (V5 st) (T3 st) (B1 st) .none kV doc pm an cdv ct):=⟨⟨oc,od,kV,doc,pm,an,cdv,ct,osl,rfl,l,c⟩,k⟩
end
theorem L8 {A:Around}{k:Nat}(hr:Q5 k A):A.units+1<cLine:=Nat.lt_of_le_of_lt (Nat.add_le_add_left (by decide:1<=64) _) hr.units
section
variable {X:Cx}
theorem pv (i:Nat){x:Str}{pos:Pos}(hN:X.N[i]?=some x:=by rfl)(hv:Vis X.env.scope x:=by first | exact Or.inl rfl | exact Or.inr (Or.inl rfl) | exact Or.inr (Or.inr rfl))(hd:(x == ("__debug__":Str))=false:=by decide)
  (hcd:(x == ("__classdict__":Str))=false:=by decide):PE X (.Name x pos) (U3 i):=b1S hN hv hd hcd
end
theorem a1l {c A B:Prop}[Decidable c](h1:c->A)(h2:¬ c->B):if c then A else B:=by
 by_cases h:c
 ·rw[if_pos h];exact h1 h
 ·rw[if_neg h];exact h2 h
def B2 (H H':Hp):Prop:=∀ b o,H b=some o->H' b=some o
theorem B2.refl (H:Hp):B2 H H:=λ_ _ h=>h
theorem B2.trans {H H1 H2:Hp}(a:B2 H H1)(b:B2 H1 H2):B2 H H2:=λc o h=>b c o (a c o h)
theorem B2.free {H H':Hp}(e:B2 H H'){l:Addr}(h:H' l=iP):H l=iP:=by
 cases q:H l with
 | none=>rfl
 | some o =>
  rw[e l o q] at h;cases h
theorem B2.seq {K:ae}{H H':Hp}{a:Addr}{xs:List V}(e:B2 H H')(h:SqL K H a xs):SqL K H' a xs:=by
 rcases h with (h | ⟨o,h⟩) | h
 ·exact .inl (.inl (e _ _ h))
 ·exact .inl (.inr ⟨o,e _ _ h⟩)
 ·exact .inr h
end L2
namespace L2
open PySem PySem.Spec PyProof.Rows
section
variable {κ:Type}[DecidableEq κ]
def R7 (kvs:List (κ×V))(k:κ):Option V:=(kvs.find? λkv=>decide (kv.1=k)).map (·.2)
def S4 (kvs:List (κ×V))(k:κ)(v:V):List (κ×V) :=
 if (kvs.any λkv=>decide (kv.1=k))=true then kvs.map (λkv=>if kv.1=k then (kv.1,v) else kv) else kvs++[(k,v)]
def a1X (kvs:List (κ×V))(k:κ):List (κ×V):=kvs.filter λkv=>decide (kv.1≠k)
theorem P0 {p:κ×V}{r:List (κ×V)}{k:κ}(e:p.1=k):R7 (p::r) k=some p.2:=by simp[R7,dN,e]
theorem P1 {p:κ×V}{r:List (κ×V)}{k:κ}(e:¬ p.1=k):R7 (p::r) k=R7 r k:=by simp[R7,dN,e]
theorem a0f (k:κ):∀ kvs:List (κ×V),(kvs.any λkv=>decide (kv.1=k))=(R7 kvs k).isSome
 | []=>rfl
 | p::r=>by
  rw[dO];by_cases e:p.1=k
  ·simp only[P0 e,decide_eq_true e,Bool.true_or,Option.isSome_some]
  ·rw[P1 e,decide_eq_false e,Bool.false_or];exact a0f k r
theorem a3L (k j:κ)(y:V):∀ kvs:List (κ×V),R7 (kvs.map λkv=>if kv.1=k then (kv.1,y) else kv) j=(R7 kvs j).map λx=>if j=k then y else x
 | []=>rfl
 | p::r=>by
  have ih:=a3L k j y r;rw[ap];by_cases h:p.1=k
  ·rw[if_pos h];by_cases e:p.1=j
   ·rw[P0 (p:=(p.1,y)) e,P0 e,cK,if_pos (e.symm.trans h)]
   ·rw[P1 (p:=(p.1,y)) e,P1 e,ih]
  ·rw[if_neg h];by_cases e:p.1=j
   ·rw[P0 (p:=p) e,P0 e,cK,if_neg (λz=>h (e.trans z))]
   ·rw[P1 (p:=p) e,P1 e,ih]
theorem a2s (k j:κ)(y:V):∀ kvs:List (κ×V),R7 kvs k=none->R7 (kvs++[(k,y)]) j=if j=k then some y else R7 kvs j
 | [],_=>by
  by_cases e:k=j
  ·rw[if_pos e.symm];exact P0 (p:=(k,y)) e
  ·rw[if_neg (λz=>e z.symm)];exact P1 (p:=(k,y)) e
 | p::r,hn=>by
  rw[bL];have hk:¬ p.1=k:=λz=>by rw[P0 z] at hn;cases hn
  rw[P1 hk] at hn;have ih:=a2s k j y r hn;by_cases e:p.1=j
  ·rw[P0 e,P0 e,if_neg (λz=>hk (e.trans z))]
  ·rw[P1 e,P1 e,ih]
theorem a6Y (kvs:List (κ×V))(k j:κ)(y:V):R7 (S4 kvs k y) j=if j=k then some y else R7 kvs j:=by
 unfold S4;by_cases a:(kvs.any λkv=>decide (kv.1=k))=true
 ·rw[if_pos a,a3L];rw[a0f] at a;by_cases e:j=k
  ·obtain⟨x,hx⟩:=cL.mp a;rw[if_pos e,e,hx,cK,if_pos rfl]
  ·rw[if_neg e];cases R7 kvs j with
   | none=>rfl
   | some x=>rw[cK,if_neg e]
 ·rw[if_neg a];refine a2s k j y kvs ?_;rw[a0f] at a;cases q:R7 kvs k with
  | none=>rfl
  | some x=>rw[q] at a;exact (a rfl).elim
theorem R0 (kvs:List (κ×V))(k:κ)(v:V):(S4 kvs k v).length<=kvs.length+1:=by
 unfold S4;split
 ·rw[aa];omega
 ·rw[aq,aD,bF];omega
theorem a3F.isSome_eq {o:Option V}{u:Option Value}(r:a3F o u):o.isSome=u.isSome:=by
 cases o with
 | none=>cases u with
  | none=>rfl
  | some _=>exact (show False from r).elim
 | some _=>cases u with
  | none=>exact (show False from r).elim
  | some _=>rfl
theorem a3F.getD {o:Option V}{u:Option Value}{d:V}{d':Value}(r:a3F o u)(rd:C3 d d'):C3 (o.getD d) (u.getD d'):=by
 cases o with
 | none=>cases u with
  | none=>exact rd
  | some _=>exact (show False from r).elim
 | some _=>cases u with
  | none=>exact (show False from r).elim
  | some _=>exact r
theorem KV.val {kvs:List (κ×V)}{vs:List (κ×Value)}(r:KV kvs vs)(k:κ):a3F (R7 kvs k) (valueAt vs k):=by
 unfold KV at r;induction r with
 | nil=>exact cF
 | @cons p q ps qs h t ih =>
  obtain⟨h1,h2⟩:=h;by_cases e:p.1=k
  ·have e':q.1=k:=h1.symm.trans e;have b:valueAt (q::qs) k=some q.2:=by simp[valueAt,dN,e']
   rw[P0 e,b];exact h2
  ·have e':¬ q.1=k:=λz=>e (h1.trans z)
   have b:valueAt (q::qs) k=valueAt qs k:=by simp[valueAt,dN,e']
   rw[P1 e,b];exact ih
theorem KV.any {kvs:List (κ×V)}{vs:List (κ×Value)}(r:KV kvs vs)(k:κ):(kvs.any λkv=>decide (kv.1=k))=vs.any λkv=>decide (kv.1=k):=by
 unfold KV at r;induction r with
 | nil=>rfl
 | cons h t ih=>rw[dO,dO,ih,h.1]
theorem KV.repl {kvs:List (κ×V)}{vs:List (κ×Value)}(r:KV kvs vs)(k:κ){y:V}{u:Value}(ry:C3 y u) :
  KV (kvs.map λkv=>if kv.1=k then (kv.1,y) else kv) (vs.map λkv=>if kv.1=k then (kv.1,u) else kv):=by
 unfold KV at r ⊢;induction r with
 | nil=>exact .nil
 | @cons p q ps qs h t ih =>
  rw[ap,ap];refine .cons ?_ ih;obtain⟨h1,h2⟩:=h;by_cases e:p.1=k
  ·rw[if_pos e,if_pos (h1.symm.trans e)];exact⟨h1,ry⟩
  ·rw[if_neg e,if_neg (λz=>e (h1.trans z))];exact⟨h1,h2⟩
theorem KV.put {kvs:List (κ×V)}{vs:List (κ×Value)}(r:KV kvs vs)(k:κ){y:V}{u:Value}(ry:C3 y u):KV (S4 kvs k y) (stored vs k u):=by
 unfold S4 stored;rw[r.any k];by_cases e:(vs.any λkv=>decide (kv.1=k))=true
 ·rw[if_pos e,if_pos e];exact r.repl k ry
 ·rw[if_neg e,if_neg e];exact Paired.snoc r ⟨rfl,ry⟩
theorem KV.drop {kvs:List (κ×V)}{vs:List (κ×Value)}(r:KV kvs vs)(k:κ):KV (a1X kvs k) (without vs k):=by
 unfold KV at r ⊢;unfold a1X without;induction r with
 | nil=>exact .nil
 | @cons p q ps qs h t ih =>
  obtain⟨h1,h2⟩:=h;rw[List.filter_cons,List.filter_cons];by_cases e:p.1=k
  ·have a:¬ decide (p.1≠k)=true:=by simp[e]
   have b:¬ decide (q.1≠k)=true:=by simp[h1.symm.trans e]
   rw[if_neg a,if_neg b];exact ih
  ·have e':¬ q.1=k:=λz=>e (h1.trans z)
   have a:decide (p.1≠k)=true:=by simp[e]
   have b:decide (q.1≠k)=true:=by simp[e']
   rw[if_pos a,if_pos b];exact .cons ⟨h1,h2⟩ ih
theorem KV.keys {kvs:List (κ×V)}{vs:List (κ×Value)}(r:KV kvs vs):kvs.map (·.1)=vs.map (·.1):=by
 unfold KV at r;induction r with
 | nil=>rfl
 | cons h t ih=>rw[ap,ap,ih,h.1]
theorem KV.length {kvs:List (κ×V)}{vs:List (κ×Value)}(r:KV kvs vs):kvs.length=vs.length:=dH r
theorem a8Q (kvs:List (κ×V))(k:κ):(a1X kvs k).length<=kvs.length:=iR _ _
end
theorem a1h {P:Program}{w:World}{k:Key}{u:Value}(r:C3 (kV k) u):(J8 P w).is k u=true:=by
 cases k with
 | inl i=>obtain⟨t,e⟩:=(show ∃ t,u=cu i t from r);subst e;exact a4C P w i t
 | inr x=>obtain⟨t,e⟩:=(show ∃ t,u=fL x t from r);subst e;exact a4B P w x t
theorem a2I {P:Program}{w:World}:∀ {ks:List Key} {us:List Value},C1 (ks.map kV) us->ItemsAre (J8 P w) ks us
 | [],_,r=>by rw[cC] at r;cases r;exact .nil
 | k::ks,_,r=>by
  rw[ap] at r;cases r with
  | cons h t=>exact .cons (a1h h) (a2I t)
abbrev KT (H:Hp):List (List Key×V)->List (List Key×Addr×Value)->Prop:=Paired λp q=>p.1=q.1/\H q.2.1=some (.tup (p.1.map kV))/\C3 p.2 q.2.2
theorem KT.val {H:Hp}{kvs:List (List Key×V)}{xs:List (List Key×Addr×Value)}(r:KT H kvs xs)(k:List Key):a3F (R7 kvs k) ((atKey xs k).map (·.2)):=by
 induction r with
 | nil=>exact cF
 | @cons p q ps qs h t ih =>
  obtain⟨h1,_,h2⟩:=h;by_cases e:p.1=k
  ·have e':q.1=k:=h1.symm.trans e;have b:atKey (q::qs) k=some q.2:=by simp[atKey,dN,e']
   rw[P0 e,b];exact h2
  ·have e':¬ q.1=k:=λz=>e (h1.trans z)
   have b:atKey (q::qs) k=atKey qs k:=by simp[atKey,dN,e']
   rw[P1 e,b];exact ih
theorem KT.repl {H:Hp}{kvs:List (List Key×V)}{xs:List (List Key×Addr×Value)}(r:KT H kvs xs)(k:List Key){y:V}{u:Value}(ry:C3 y u) :
  KT H (kvs.map λkv=>if kv.1=k then (kv.1,y) else kv) (xs.map (putAt k u)):=by
 induction r with
 | nil=>exact .nil
 | @cons p q ps qs h t ih =>
  rw[ap,ap];refine .cons ?_ ih;obtain⟨h1,h2,h3⟩:=h;unfold putAt;by_cases e:p.1=k
  ·rw[if_pos e,if_pos (h1.symm.trans e)];exact⟨h1,h2,ry⟩
  ·rw[if_neg e,if_neg (λz=>e (h1.trans z))];exact⟨h1,h2,h3⟩
theorem KT.put {H:Hp}{kvs:List (List Key×V)}{xs:List (List Key×Addr×Value)}(r:KT H kvs xs)(k:List Key){b:Addr}{y:V}{u:Value}(hb:H b=some (.tup (k.map kV)))(ry:C3 y u) :
  KT H (S4 kvs k y) (storedH xs k b u):=by
 have e:(kvs.any λkv=>decide (kv.1=k))=(atKey xs k).isSome:=by
  rw[a0f,(r.val k).isSome_eq,gh]
 unfold S4 storedH;rw[e];by_cases q:(atKey xs k).isSome=true
 ·rw[if_pos q,if_pos q];exact r.repl k ry
 ·rw[if_neg q,if_neg q];exact Paired.snoc r ⟨rfl,hb,ry⟩
theorem KT.keeps {H H':Hp}{kvs:List (List Key×V)}{xs:List (List Key×Addr×Value)}(r:KT H kvs xs)(ht:∀ b ys,H b=some (.tup ys)->H' b=some (.tup ys)):KT H' kvs xs :=
 Paired.mapP r λ_ _ z=>⟨z.1,ht _ _ z.2.1,z.2.2⟩
section
variable {P:Program}{w:World}{H:Hp}{h:Heap}{a:Addr}
theorem b0O {u:HO}(ok:HOk P w H h)(e:Rd H a u):K8 P w H h a u:=e.ok ok
theorem a4P {kvs:List (Key×V)}(ok:HOk P w H h)(e:Rd H a (.dK kvs)):kvs.length<=sizeLine/\(a == sysModules)=false/\∃ vs,KV kvs vs/\h.DictOf (J8 P w) a vs :=
 show K8 P w H h a (.dK kvs) from b0O ok e
theorem a2N {kvs:List (Key×V)}(ok:HOk P w H h)(e:H a=some (.dK kvs)):kvs.length<=sizeLine/\(a == sysModules)=false/\∃ vs,KV kvs vs/\h.DictOf (J8 P w) a vs:=a4P ok (.inl e)
theorem a0L {ks:List Key}(ok:HOk P w H h)(e:H a=some (.tup (ks.map kV))):(tupleKind (J8 P w)).is h ks a:=by
 obtain⟨_,its,r,o,h1,h2,n,h3⟩:=(show K8 P w H h a (.tup (ks.map kV)) from ok a _ e)
 exact⟨o,its.toArray,n,h1,h2,h3,by simpa using a2I r⟩
theorem a4N {kvs:List (List Key×V)}(ok:HOk P w H h)(e:Rd H a (.dT kvs)):kvs.length<=sizeLine/\(a == sysModules)=false /\
  ∃ xs,KT H kvs xs/\h.DictOfH (tupleKind (J8 P w)) a xs:=by
 obtain⟨z,y,xs,r,o,es,ep,h1,h2,h3,h4,h5⟩:=(show K8 P w H h a (.dT kvs) from b0O ok e)
 refine⟨z,y,xs,r,o,es,ep,h1,h2,h3,h4,λx hx=>?_,h5⟩;have all:∀ {l:List (List Key×V)} {m:List (List Key×Addr×Value)},KT H l m->∀ x∈m,(tupleKind (J8 P w)).is h x.1 x.2.1:=by
  intro l m q;induction q with
  | nil=>intro x hx;exact nomatch hx
  | @cons p q ps qs hq t ih =>
   intro x hx;rcases aQ.mp hx with e | hx
   ·subst e;exact a0L ok (by rw[<- hq.1];exact hq.2.1)
   ·exact ih x hx
 exact all r x hx
theorem b1b {kvs:List (List Key×V)}(ok:HOk P w H h)(e:H a=some (.dT kvs)):kvs.length<=sizeLine/\(a == sysModules)=false /\
  ∃ xs,KT H kvs xs/\h.DictOfH (tupleKind (J8 P w)) a xs:=a4N ok (.inl e)
end
def X8 (H:Hp)(a:Addr)(y:V)(r:Option V):Prop :=
 (∃ kvs k,Rd H a (.dK kvs)/\y=kV k/\r=R7 kvs k)\/∃ kvs k b,Rd H a (.dT kvs)/\y=.ref b/\H b=some (.tup (k.map kV))/\r=R7 kvs k
def X7 (H:Hp)(a:Addr)(y v:V)(H':Hp):Prop :=
 (∃ kvs k,H a=some (.dK kvs)/\y=kV k/\kvs.length<sizeLine/\H'=upd H a (.dK (S4 kvs k v))) \/
 ∃ kvs k b,H a=some (.dT kvs)/\y=.ref b/\H b=some (.tup (k.map kV))/\kvs.length<sizeLine/\H'=upd H a (.dT (S4 kvs k v))
theorem X8.k {H:Hp}{a:Addr}{kvs:List (Key×V)}{k:Key}(e:H a=some (.dK kvs)):X8 H a (kV k) (R7 kvs k):=.inl ⟨kvs,k,.inl e,rfl,rfl⟩
theorem X8.t {H:Hp}{a b:Addr}{kvs:List (List Key×V)}{k:List Key}(e:H a=some (.dT kvs))(eb:H b=some (.tup (k.map kV))):X8 H a (.ref b) (R7 kvs k):=.inr ⟨kvs,k,b,.inl e,rfl,eb,rfl⟩
theorem X7.k {H:Hp}{a:Addr}{kvs:List (Key×V)}{k:Key}{v:V}(e:H a=some (.dK kvs))(hl:kvs.length<sizeLine):X7 H a (kV k) v (upd H a (.dK (S4 kvs k v))):=.inl ⟨kvs,k,e,rfl,hl,rfl⟩
theorem X7.t {H:Hp}{a b:Addr}{kvs:List (List Key×V)}{k:List Key}{v:V}(e:H a=some (.dT kvs))(eb:H b=some (.tup (k.map kV)))(hl:kvs.length<sizeLine) :
  X7 H a (.ref b) v (upd H a (.dT (S4 kvs k v))):=.inr ⟨kvs,k,b,e,rfl,eb,hl,rfl⟩
section
variable {X:Cx}{pins:List (Addr×Obj)}{σ:St}{H:Hp}{s:Shared}{a:Addr}{y v:V}{u r:Value}{o:Option V}{A:Around}{E:Value->Shared->Prop}
theorem Inv.big (I:Inv X pins σ H s):sysModules<s.heap.objs.size:=by
 have h:mainGlobals<s.heap.objs.size:=(I.mod.glob.keeps I.bk).lt;exact dJ (by decide) h
theorem b4M {Q:Value->Shared->Prop}(hu:A.units+1<cLine)(I:Inv X pins σ H s)(g:X8 H a y o)(ry:C3 y u)(h:∀ s',Inv X pins σ H s'->Q (.bool o.isSome) s') :
  wpAny (model X.prog X.w) A (compareOp .In u (.ref a)) Q E s:=by
 rcases g with ⟨kvs,k,e,ey,l⟩ | ⟨kvs,k,b,e,ey,eb,l⟩
 ·subst ey;obtain⟨z,hd,vs,rel,dd⟩:=a4P I.hok e;refine wpAny_in_of (a1h ry) hd dd.mapOf ?_;rw[<- (rel.val k).isSome_eq,<- l];exact h _ (I.tok _)
 ·subst ey;cases (show u=bd b from ry);obtain⟨z,hd,xs,rel,dd⟩:=a4N I.hok e;refine wpAny_in_heap (tupleKind_room_in1 hu) (a0L I.hok eb) hd dd ?_;have q:=(rel.val k).isSome_eq;rw[gh] at q;rw[<- q,<- l];exact h _ (I.tok _)
theorem b0v {Q:Value->Shared->Prop}(hu:A.units+1<cLine)(I:Inv X pins σ H s)(g:X8 H a y o)(ry:C3 y u)(h:∀ s',Inv X pins σ H s'->Q (.bool (!o.isSome)) s') :
  wpAny (model X.prog X.w) A (compareOp .NotIn u (.ref a)) Q E s:=by
 rcases g with ⟨kvs,k,e,ey,l⟩ | ⟨kvs,k,b,e,ey,eb,l⟩
 ·subst ey;obtain⟨z,hd,vs,rel,dd⟩:=a4P I.hok e;refine wpAny_notIn_of (a1h ry) hd dd.mapOf ?_;rw[<- (rel.val k).isSome_eq,<- l];exact h _ (I.tok _)
 ·subst ey;cases (show u=bd b from ry);obtain⟨z,hd,xs,rel,dd⟩:=a4N I.hok e;refine wpAny_notIn_heap (tupleKind_room_in1 hu) (a0L I.hok eb) hd dd ?_;have q:=(rel.val k).isSome_eq;rw[gh] at q;rw[<- q,<- l];exact h _ (I.tok _)
theorem Y6 {h':Heap}{t':Nat}{ob:HO}(I:Inv X pins σ H s)(mu:Mut (H a))(hs:dA a s.heap h')(he:∃ q,h'.get? a=some q)(new:K8 X.prog X.w (upd H a ob) h' a ob) :
  Inv X pins σ (upd H a ob) {s with heap:=h',toks:=t'} :=
 I.write (x:=a) (e:=a) mu (.inl rfl) (λb q hb z=>(hs.2 b hb).trans z) he new
theorem a3v {P:Program}{w:World}{H':Hp}{h':Heap}{kvs:List (Key×V)}{vs:List (Key×Value)}(z:kvs.length<=sizeLine)(hd:(a == sysModules)=false)(rel:KV kvs vs)(dd:h'.DictOf (J8 P w) a vs) :
  K8 P w H' h' a (.dK kvs):=⟨z,hd,vs,rel,dd⟩
theorem a6O {H':Hp}{Q:Unit->Shared->Prop}(hu:A.units+1<cLine)(I:Inv X pins σ H s)(g:X7 H a y v H')(ry:C3 y u)(rv:C3 v r)(h:∀ s',Inv X pins σ H' s'->Q () s') :
  wpAny (model X.prog X.w) A (setItem (.ref a) u r) Q E s:=by
 rcases g with ⟨kvs,k,e,ey,l,eH⟩ | ⟨kvs,k,b,e,ey,eb,l,eH⟩
 ·subst ey eH;obtain⟨z,hd,vs,rel,dd⟩:=a2N I.hok e;have hz:vs.length<=sizeLine:=by rw[<- rel.length];exact z
  have hl:(S4 kvs k v).length<=sizeLine:=by have:=R0 kvs k v;omega
  refine wpAny_setItem_pairs (hsz:=hz) (a1h ry) dd λh' dd' hs=>h _ ?_
  have he:∃ q,h'.get? a=some q:=let ⟨q,_,_,hq,_⟩:=dd';⟨q,hq⟩;exact Y6 I (by rw[e];exact cF) hs he (a3v hl hd (rel.put k rv) dd')
 ·subst ey eH;cases (show u=bd b from ry);obtain⟨z,hd,xs,rel,dd⟩:=b1b I.hok e;have hz:xs.length<=sizeLine:=by rw[<- dH rel];exact z
  have hl:(S4 kvs k v).length<=sizeLine:=by have:=R0 kvs k v;omega
  refine wpAny_setItem_heap (hsz:=hz) (tupleKind_room_in1 hu) (a0L I.hok eb) dd λh' dd' hs=>h _ ?_
  obtain⟨q,es,ep,hq,h2,h3,h4,_,h5⟩:=dd';refine Y6 I (by rw[e];exact cF) hs ⟨q,hq⟩ ⟨hl,hd,_,(rel.put k eb rv).keeps λc ys ec=>?_,q,es,ep,hq,h2,h3,h4,h5⟩;rw[A8 (b0V ec e (λz=>nomatch z))];exact ec
end
section
variable {X:Cx}{pins:List (Addr×Obj)}{σ:St}{H:Hp}{s:Shared}{a:Addr}{kvs:List (Key×V)}{k:Key}{u:Value}{A:Around}{E:Value->Shared->Prop}
theorem a6Q {Q:Unit->Shared->Prop}(I:Inv X pins σ H s)(e:H a=some (.dK kvs))(ry:C3 (kV k) u)(l:(R7 kvs k).isSome=true)(h:∀ s',Inv X pins σ (upd H a (.dK (a1X kvs k))) s'->Q () s') :
  wpAny (model X.prog X.w) A (delItem (.ref a) u) Q E s:=by
 obtain⟨z,hd,vs,rel,dd⟩:=a2N I.hok e;refine wpAny_delItem_slot dd.typeIs (by decide) gQ
  (jN gQ dd.typeIs PySem.F.entry_dict_delitem (PySem.F.args_dict_delitem_2 _ _) (meets_dict_delitem_pairs (J8 X.prog X.w) a (a1h ry)) ⟨vs,dd,by rw[<- rel.length];exact z,by rw[<- (rel.val k).isSome_eq];exact l,λh' dd' hs=>h _ ?_⟩)
 have he:∃ q,h'.get? a=some q:=let ⟨q,_,_,hq,_⟩:=dd';⟨q,hq⟩;exact Y6 I (by rw[e];exact cF) hs he (a3v (aM (a8Q kvs k) z) hd (rel.drop k) dd')
end
def b3u (ty td:TE):TE:=fun σ H Q=>ty σ H λy H1=>td σ H1 λx H2=>∃ a o,x=.ref a/\X8 H2 a y o/\Q (.bl o.isSome) H2
def a5H (ty td:TE):TE:=fun σ H Q=>ty σ H λy H1=>td σ H1 λx H2=>∃ a o,x=.ref a/\X8 H2 a y o/\Q (.bl (!o.isSome)) H2
def b0N (td ty tv:TE):TS:=λD σ H=>tv σ H λv H1=>td σ H1 λx H2=>ty σ H2 λy H3=>∃ a H4,x=.ref a/\X7 H3 a y v H4/\D.nx σ H4
def b3A (td ty:TE):TS:=λD σ H=>td σ H λx H1=>ty σ H1 λy H2=>∃ a kvs k,x=.ref a/\H2 a=some (.dK kvs)/\y=kV k/\(R7 kvs k).isSome=true/\D.nx σ (upd H2 a (.dK (a1X kvs k)))
section
variable {X:Cx}{o i e value:Expr}{pos pos' tpos:Pos}{td ty tv:TE}
theorem a7P (hu:X.A.units+1<cLine)(hi:PE X i ty)(ho:PE X o td):PC X .In i o (b3u ty td):=by
 intro pins s σ H Q I h;refine thn (hi pins s σ H _ I h) λiv s1 ⟨y,H1,I1,ry,q1⟩=>thn (ho pins s1 σ H1 _ I1 q1) λu s2 ⟨x,H2,I2,rx,a,ov,ex,g,q2⟩=>?_
 subst ex;obtain rfl:u=bd a:=rx;exact b4M hu I2 g ry λs3 I3=>⟨.bl ov.isSome,H2,I3,rfl,q2⟩
theorem a2E (hu:X.A.units+1<cLine)(hi:PE X i ty)(ho:PE X o td):PC X .NotIn i o (a5H ty td):=by
 intro pins s σ H Q I h;refine thn (hi pins s σ H _ I h) λiv s1 ⟨y,H1,I1,ry,q1⟩=>thn (ho pins s1 σ H1 _ I1 q1) λu s2 ⟨x,H2,I2,rx,a,ov,ex,g,q2⟩=>?_
 subst ex;obtain rfl:u=bd a:=rx;exact b0v hu I2 g ry λs3 I3=>⟨.bl (!ov.isSome),H2,I3,rfl,q2⟩
theorem a0u (hu:X.A.units+1<cLine)(ho:PE X o td)(hi:PE X i ty)(hv:PE X value tv)(hs:swapsWith value (some (.Subscript o i pos')) pos.line X.env=pure false) :
  PS X (.Assign [.Subscript o i pos'] value pos) (b0N td ty tv):=by
 intro pins s σ H D I h;refine wpAny_Assign_Subscript (thn (hv pins s σ H _ I h) λr s1 ⟨v,H1,I1,rv,q1⟩=>thn (ho pins s1 σ H1 _ I1 q1) λu s2 ⟨x,H2,I2,rx,q2⟩=>thn (hi pins s2 σ H2 _ I2 q2) λiv s3 ⟨y,H3,I3,ry,a,H4,ex,g,q3⟩=>?_) hs;subst ex;obtain rfl:u=bd a:=rx;exact a6O hu I3 g ry rv λs4 I4=>⟨σ,H4,I4,q3⟩
theorem a9F (ho:PE X o td)(hi:PE X i ty):PS X (.Delete [.Subscript o i tpos] pos) (b3A td ty):=by
 intro pins s σ H D I h;refine wpAny_Delete (wpAny_deleteEach_cons (wpAny_delete_Subscript (thn (ho pins s σ H _ I h) λu s1 ⟨x,H1,I1,rx,q1⟩=>thn (hi pins s1 σ H1 _ I1 q1) λiv s2 ⟨y,H2,I2,ry,a,kvs,k,ex,e,ey,l,q2⟩=>?_)));subst ex ey;obtain rfl:u=bd a:=rx;exact a6Q I2 e ry l λs3 I3=>wpAny_deleteEach_nil ⟨σ,_,I3,q2⟩
end
theorem a1Y {P:Program}{w:World}{H:Hp}(h:Heap)(hb:sysModules<h.objs.size):K8 P w H (h.push {cls:=.type "dict",data:=.dict #[]}) h.objs.size (.dK []) :=
 ⟨bi _,beq_eq_false_iff_ne.mpr (fb (aY hb)),[],.nil,Heap.DictOf.new h⟩
theorem a4O {P:Program}{w:World}{H:Hp}(h:Heap)(hb:sysModules<h.objs.size):K8 P w H (h.push {cls:=.type "dict",data:=.dict #[]}) h.objs.size (.dT []) :=
 ⟨bi _,beq_eq_false_iff_ne.mpr (fb (aY hb)),[],.nil,_,#[],0,aO _ rfl,⟨rfl,rfl,rfl⟩,rfl,rfl,List.nodup_nil⟩
def a7j:TE:=λ_ H Q=>∀ p,H p=none->Q (.ref p) (upd H p (.dK []))
def a7i:TE:=λ_ H Q=>∀ p,H p=none->Q (.ref p) (upd H p (.dT []))
section
variable {X:Cx}{pos:Pos}
theorem a7L:PE X (.Dict [] [] pos) a7j:=λpins s σ H Q I h =>
 wpAny_Dict_empty ⟨.ref s.heap.objs.size,_,I.laid (a:=s.heap.objs.size) (o:=.dK []) (t':=s.toks) (λ_ _ q=>ao _ q) (ak _) (a1Y s.heap I.big),rfl,h _ (I.hok.fresh (ak _))⟩
theorem a7K:PE X (.Dict [] [] pos) a7i:=λpins s σ H Q I h =>
 wpAny_Dict_empty ⟨.ref s.heap.objs.size,_,I.laid (a:=s.heap.objs.size) (o:=.dT []) (t':=s.toks) (λ_ _ q=>ao _ q) (ak _) (a4O s.heap I.big),rfl,h _ (I.hok.fresh (ak _))⟩
end
def a2Z:List (TE×TE)->St->Hp->(List (V×V)->Hp->Prop)->Prop
 | [],_,H,Q=>Q [] H
 | (tk,tv)::r,σ,H,Q=>tk σ H λx H1=>tv σ H1 λy H2=>a2Z r σ H2 λps H3=>Q ((x,y)::ps) H3
abbrev VV:List (V×V)->List (Value×Value)->Prop:=Paired λp q=>C3 p.1 q.1/\C3 p.2 q.2
def PPs (X:Cx)(pos:Pos)(keys:List (Option Expr))(values:List Expr)(trs:List (TE×TE)):Prop :=
 ∀(pins:List (Addr×Obj)) (s:Shared) (σ:St) (H:Hp) (Q:List (V×V)->Hp->Prop),Inv X pins σ H s->a2Z trs σ H Q ->
  wpAny (model X.prog X.w) X.A (evalPairs (pairTrees keys values X.env pos)) (λvs s'=>∃ ps H',Inv X pins σ H' s'/\VV ps vs/\Q ps H') X.xe s
theorem a3k {X:Cx}{pos:Pos}:PPs X pos [] [] []:=λpins s σ H Q I h=>pairTrees_nil_walk ⟨[],H,I,.nil,h⟩
theorem a1G {X:Cx}{pos:Pos}{k v:Expr}{ks:List (Option Expr)}{vs:List Expr}{tk tv:TE}{trs:List (TE×TE)}(hk:PE X k tk)(hv:PE X v tv)(hr:PPs X pos ks vs trs) :
  PPs X pos (some k::ks) (v::vs) ((tk,tv)::trs):=λpins s σ H Q I h =>
 pairTrees_cons_walk (thn (hk pins s σ H _ I h) λu s1 ⟨x,H1,I1,rx,q1⟩=>thn (hv pins s1 σ H1 _ I1 q1) λw2 s2 ⟨y,H2,I2,ry,q2⟩ =>
  thn (hr pins s2 σ H2 _ I2 q2) λws s3 ⟨ps,H3,I3,rel,q3⟩=>⟨(x,y)::ps,H3,I3,.cons ⟨rx,ry⟩ rel,q3⟩)
def a0I (kvs more:List (Key×V)):List (Key×V):=more.foldl (λacc kv=>S4 acc kv.1 kv.2) kvs
theorem KV.merge:∀ {more:List (Key×V)} {rs:List (Key×Value)} {kvs:List (Key×V)} {vs:List (Key×Value)},KV more rs->KV kvs vs->KV (a0I kvs more) (merged vs rs):=by
 intro more rs kvs vs r;unfold KV at r;induction r generalizing kvs vs with
 | nil=>intro q;exact q
 | @cons p q ps qs h t ih =>
  intro r0;have e:KV (S4 kvs p.1 p.2) (stored vs q.1 q.2):=by
   have:=r0.put p.1 h.2;rw[<- h.1];exact this
  exact ih e
theorem Z3:∀(more kvs:List (Key×V)),(a0I kvs more).length<=kvs.length+more.length
 | [],kvs=>by show kvs.length<=kvs.length+0;omega
 | p::r,kvs=>by
  have h1:=Z3 r (S4 kvs p.1 p.2);have h2:=R0 kvs p.1 p.2;show (a0I (S4 kvs p.1 p.2) r).length<=_;rw[aD];omega
theorem a1Z {P:Program}{w:World}:∀ {kvs:List (Key×V)} {ws:List (Value×Value)},VV (kvs.map λkv=>(kV kv.1,kv.2)) ws->∃ rs,Carries (J8 P w) ws rs/\KV kvs rs
 | [],_,r=>by rw[cC] at r;cases r;exact⟨[],cF,.nil⟩
 | p::kvs,_,r=>by
  rw[ap] at r;cases r with
  | @cons a b as bs h t =>
   obtain⟨rs,c,q⟩:=a1Z (P:=P) (w:=w) t;obtain⟨b1,b2⟩:=b;exact⟨(p.1,b2)::rs,⟨a1h h.1,rfl,c⟩,.cons ⟨rfl,h.2⟩ q⟩
def b0L (trs:List (TE×TE)):TE:=fun σ H Q=>∀ p,H p=none->a2Z trs σ (upd H p (.dK [])) λps H2=>H2 p=some (.dK [])/\∃ kvs:List (Key×V),ps=kvs.map (λkv=>(kV kv.1,kv.2))/\kvs.length<=15/\Q (.ref p) (upd H2 p (.dK (a0I [] kvs)))
theorem a3m {X:Cx}{pos:Pos}{keys:List (Option Expr)}{values:List Expr}{trs:List (TE×TE)}(h:PPs X pos keys values trs)(hall:keys.all (·.isSome)=true)(hl:keys.length=values.length)(h0:keys≠[])
  (h15:keys.length<=15):PE X (.Dict keys values pos) (b0L trs):=by
 intro pins s σ H Q I q;have hn:=I.hok.fresh (ak s.heap.objs.size);have I1:=I.laid (a:=s.heap.objs.size) (o:=.dK []) (h':=s.heap.push {cls:=.type "dict",data:=.dict #[]}) (t':=s.toks) (λ_ _ q=>ao _ q) (ak _) (a1Y s.heap I.big);refine wpAny_Dict_walk (knd:=J8 X.prog X.w) hall hl h0 h15 (thn (h pins _ σ _ _ I1 (q _ hn)) λws s2 ⟨ps,H2,I2,rel,e,kvs,ep,lk,q2⟩=>?_);subst ep;obtain⟨rs,c,rk⟩:=a1Z (P:=X.prog) (w:=X.w) rel;obtain⟨z,hd,vs0,r0,dd⟩:=a2N I2.hok e;cases r0;refine⟨rs,c,dd,λh' dd' hs=>⟨.ref s.heap.objs.size,_,?_,rfl,q2⟩⟩;have hz:(a0I [] kvs).length<=sizeLine:=by
  have h1:=Z3 kvs [];rw[bF] at h1;rw[sizeLine_eq];omega
 have he:∃ q,h'.get? s.heap.objs.size=some q:=let ⟨q,_,_,hq,_⟩:=dd';⟨q,hq⟩;exact Y6 I2 (by rw[e];exact cF) hs he (a3v hz hd (rk.merge .nil) dd')
structure M1 (X:Cx)(o:Expr)(m:Str)(apos:Pos)(e:Expr)(cpos:Pos):Prop where
 base:attributeBase o m X.env (eval o X.env)=eval o X.env
 few:((backTo cpos (starEach [e] X.env)).all (λx=>!x.1) && (backToKw cpos (keywordEach [] X.env)).all (λx=>x.1.isSome)
  && decide (([e]:List Expr).length+([]:List Keyword).length+(if ([]:List Keyword).isEmpty then 0 else 1)<30))=true
 line:(apos.endLine == cpos.line)=true
 trees:backTo cpos (starEach [e] X.env)=[(false,eval e X.env)]
structure M2 (X:Cx)(o:Expr)(m:Str)(apos:Pos)(e f:Expr)(cpos:Pos):Prop where
 base:attributeBase o m X.env (eval o X.env)=eval o X.env
 few:((backTo cpos (starEach [e,f] X.env)).all (λx=>!x.1) && (backToKw cpos (keywordEach [] X.env)).all (λx=>x.1.isSome)
  && decide (([e,f]:List Expr).length+([]:List Keyword).length+(if ([]:List Keyword).isEmpty then 0 else 1)<30))=true
 line:(apos.endLine == cpos.line)=true
 trees:backTo cpos (starEach [e,f] X.env)=[(false,eval e X.env),(false,eval f X.env)]
def IsD (H:Hp)(a:Addr):Prop:=(∃ kvs,Rd H a (.dK kvs))\/∃ kvs,Rd H a (.dT kvs)
theorem b2o {X:Cx}{pins:List (Addr×Obj)}{σ:St}{H:Hp}{s:Shared}{a:Addr}(I:Inv X pins σ H s)(d:IsD H a) :
  s.TypeIs (.ref a) "dict"/\(∀ b,bd a=.ref b->∃ ob,s.heap.get? b=some ob/\ob.dict=none)/\(a == sysModules)=false:=by
 rcases d with ⟨kvs,e⟩ | ⟨kvs,e⟩
 ·obtain⟨_,hd,vs,_,dd⟩:=a4P I.hok e;refine⟨dd.typeIs,λb q=>?_,hd⟩;cases q;obtain⟨ob,_,_,h1,h2,_⟩:=dd;exact⟨ob,h1,h2.2.1⟩
 ·obtain⟨_,hd,xs,_,dd⟩:=a4N I.hok e;refine⟨dd.typeIs,λb q=>?_,hd⟩;cases q;obtain⟨ob,_,_,h1,h2,_⟩:=dd;exact⟨ob,h1,h2.2.1⟩
section
variable {X:Cx}{pins:List (Addr×Obj)}{σ:St}{H:Hp}{s:Shared}{a:Addr}{y d:V}{u r:Value}{o:Option V}{A:Around}{E:Value->Shared->Prop}
theorem b2K {Q:Value->Shared->Prop}(hu:A.units+1<cLine)(I:Inv X pins σ H s)(g:X8 H a y o)(ry:C3 y u)(h:∀ w' s',Inv X pins σ H s'->C3 (o.getD .non) w'->Q w' s') :
  wpAny (model X.prog X.w) A (call (.builtin "dict.get") [.ref a,u]) Q E s:=by
 rcases g with ⟨kvs,k,e,ey,l⟩ | ⟨kvs,k,b,e,ey,eb,l⟩
 ·subst ey;obtain⟨z,hd,vs,rel,dd⟩:=a4P I.hok e;refine jN fF dd.typeIs il (ic _ _) (meets_dict_get (J8 X.prog X.w) a (a1h ry) hd) ⟨_,dd.mapOf,h _ _ (I.tok _) ?_⟩;rw[l];exact (rel.val k).getD rfl
 ·subst ey;cases (show u=bd b from ry);obtain⟨z,hd,xs,rel,dd⟩:=a4N I.hok e;refine jN fF dd.typeIs il (ic _ _) (meetsH_dict_get (tupleKind (J8 X.prog X.w)) a b hd) ⟨tupleKind_room_in1 hu,k,xs,a0L I.hok eb,dd,h _ _ (I.tok _) ?_⟩;rw[l];exact (rel.val k).getD rfl
end
def a7k (td ty:TE):TE:=fun σ H Q=>td σ H λx H1=>∃ a,x=.ref a/\IsD H1 a/\ty σ H1 λy H2=>∃ o,X8 H2 a y o/\Q (o.getD .non) H2
section
variable {X:Cx}{o e f:Expr}{apos cpos:Pos}{td ty tx:TE}
theorem a7M (hu:X.A.units+1<cLine)(ho:PE X o td)(he:PE X e ty)(m:M1 X o "get" apos e cpos):PE X (.Call (.Attribute o "get" apos) [e] [] cpos) (a7k td ty):=by
 intro pins s σ H Q I h;refine wpAny_Call_method m.base m.few m.line PySem.F.plainAttrs_dict fF PySem.F.type_dict_get (thn (ho pins s σ H _ I h) λu s1 ⟨x,H1,I1,rx,a,ex,d,q1⟩=>?_);subst ex;obtain rfl:u=bd a:=rx;obtain⟨t1,t2,_⟩:=b2o I1 d;refine⟨t1,t2,?_⟩;rw[m.trees];refine fG rfl (iN (eZ (thn (he pins s1 σ H1 _ I1 q1) λiv s2 ⟨y,H2,I2,ry,ov,g,q2⟩=>fq ?_)));exact b2K hu I2 g ry λw' s3 I3 rw'=>⟨_,H2,I3,rw',q2⟩
end
end L2
end
section
namespace Ts
open PySem PyProof.Rows
set_option autoImplicit false
def galP:Bool->Keyed->Array Keyed->Nat->Nat->Nat->StateT SortSt Sem (Option Nat):=sortPriv% PySem.Builtin.gallop
def mLo:Array Keyed->Array Keyed->StateT SortSt Sem (Array Keyed):=sortPriv% PySem.Builtin.mergeLo
def mHi:Array Keyed->Array Keyed->StateT SortSt Sem (Array Keyed):=sortPriv% PySem.Builtin.mergeHi
def setGal (g:Nat):StateT SortSt Sem Unit:=modify λs=>eI (kindOf s) (arrOf s) (pendingOf s) g (failedOf s)
theorem galP_eq (lf:Bool)(ky:Keyed)(ar:Array Keyed)(bs nn hn:Nat):galP lf ky ar bs nn hn=(do
 let bey (i:Nat):StateT SortSt Sem (Option Bool):=do
  let xx <- elem' ar (bs+i)
  if lf then lt' xx ky else return (<- lt' ky xx).map (!·)
 let mut la:=0
 let mut of:=1
 let mut l0:=0
 let mut h0:=0
 let some rg <- bey hn | return none
 if rg then
  let mx:=nn-hn
  for _ in [0:nn] do
   if of>=mx then break
   let some mo <- bey (hn+of) | return none
   if !mo then break
   la:=of
   of:=2*of+1
  l0:=hn+la+1
  h0:=hn+min of mx
 else
  let mx:=hn+1
  for _ in [0:nn] do
   if of>=mx then break
   let some fo <- bey (hn-of) | return none
   if fo then break
   la:=of
   of:=2*of+1
  l0:=hn+1-min of mx
  h0:=hn-la
 for _ in [0:nn] do
  if l0>=h0 then break
  let mm:=l0+(h0-l0) / 2
  let some mo <- bey mm | return none
  if mo then l0:=mm+1 else h0:=mm
 return some h0):=rfl
theorem mLo_eq (a b:Array Keyed):mLo a b=(do
 rule "list.sort.merge-lo"
 let tot:=a.size+b.size
 let dn (o:Array Keyed) (i j:Nat):=o++a.extract i a.size++b.extract j b.size
 let lst (o:Array Keyed) (i j:Nat):=o++b.extract j b.size++a.extract i a.size
 let mut o:Array Keyed:=#[<- elem' b 0]
 let mut i:=0
 let mut j:=1
 if j == b.size then return dn o i j
 if i+1 == a.size then return lst o i j
 let mut mg:=gallopOf (<- get)
 for _ in [0:tot] do
  let mut ac:=0
  let mut bc:=0
  for _ in [0:tot] do
   let some bw <- lt' (<- elem' b j) (<- elem' a i) | return dn o i j
   if bw then
    o:=o.push (<- elem' b j);j:=j+1;bc:=bc+1;ac:=0
    if j == b.size then return dn o i j
    if bc>=mg then break
   else
    o:=o.push (<- elem' a i);i:=i+1;ac:=ac+1;bc:=0
    if i+1 == a.size then return lst o i j
    if ac>=mg then break
  rule "list.sort.gallop"
  mg:=mg+1
  for _ in [0:tot] do
   if mg>1 then mg:=mg-1
   setGal mg
   let some k <- galP false (<- elem' b j) a i (a.size-i) 0 | return dn o i j
   ac:=k
   if k>0 then
    o:=o++a.extract i (i+k);i:=i+k
    if i+1 == a.size then return lst o i j
    if i == a.size then return dn o i j
   o:=o.push (<- elem' b j);j:=j+1
   if j == b.size then return dn o i j
   let some k <- galP true (<- elem' a i) b j (b.size-j) 0 | return dn o i j
   bc:=k
   if k>0 then
    o:=o++b.extract j (j+k);j:=j+k
    if j == b.size then return dn o i j
   o:=o.push (<- elem' a i);i:=i+1
   if i+1 == a.size then return lst o i j
   if ac<7 && bc<7 then break
  mg:=mg+1
  setGal mg
 unsupported "internal:list.sort.merge-bound"):=rfl
theorem mHi_eq (a b:Array Keyed):mHi a b=(do
 rule "list.sort.merge-hi"
 let tot:=a.size+b.size
 let dn (o:Array Keyed) (i j:Nat):=a.extract 0 i++b.extract 0 j++o.reverse
 let fst (o:Array Keyed) (i j:Nat):=b.extract 0 j++a.extract 0 i++o.reverse
 let mut i:=a.size-1
 let mut j:=b.size
 let mut o:Array Keyed:=#[<- elem' a i]
 if i == 0 then return dn o i j
 if j == 1 then return fst o i j
 let mut mg:=gallopOf (<- get)
 for _ in [0:tot] do
  let mut ac:=0
  let mut bc:=0
  for _ in [0:tot] do
   let some aw <- lt' (<- elem' b (j-1)) (<- elem' a (i-1)) | return dn o i j
   if aw then
    i:=i-1;o:=o.push (<- elem' a i);ac:=ac+1;bc:=0
    if i == 0 then return dn o i j
    if ac>=mg then break
   else
    j:=j-1;o:=o.push (<- elem' b j);bc:=bc+1;ac:=0
    if j == 1 then return fst o i j
    if bc>=mg then break
  rule "list.sort.gallop"
  mg:=mg+1
  for _ in [0:tot] do
   if mg>1 then mg:=mg-1
   setGal mg
   let some p <- galP false (<- elem' b (j-1)) a 0 i (i-1) | return dn o i j
   let k:=i-p
   ac:=k
   if k>0 then
    o:=o++(a.extract p i).reverse;i:=p
    if i == 0 then return dn o i j
   j:=j-1;o:=o.push (<- elem' b j)
   if j == 1 then return fst o i j
   let some p <- galP true (<- elem' a (i-1)) b 0 j (j-1) | return dn o i j
   let k:=j-p
   bc:=k
   if k>0 then
    o:=o++(b.extract p j).reverse;j:=p
    if j == 1 then return fst o i j
    if j == 0 then return dn o i j
   i:=i-1;o:=o.push (<- elem' a i)
   if i == 0 then return dn o i j
   if ac<7 && bc<7 then break
  mg:=mg+1
  setGal mg
 unsupported "internal:list.sort.merge-bound"):=rfl
theorem mAt_eq (i:Nat):mergeAt' i=(do
 let s <- get
 let (some (sa,na,pw),some (sb,nb,_)):=((pendingOf s)[i]?,(pendingOf s)[i+1]?) | unsupported "internal:list.sort.pending"
 set (eI (kindOf s) (arrOf s) (((pendingOf s).setIfInBounds i (sa,na+nb,pw)).eraseIdxIfInBounds (i+1)) (gallopOf s) (failedOf s))
 let some k <- galP false (<- elem' (arrOf s) sb) (arrOf s) sa na 0 | return false
 let (sa,na):=(sa+k,na-k)
 if na == 0 then return true
 let some nb <- galP true (<- elem' (arrOf s) (sa+na-1)) (arrOf s) sb nb (nb-1) | return false
 if nb == 0 then return true
 let xx:=(arrOf s).extract sa sb
 let yy:=(arrOf s).extract sb (sb+nb)
 let mm <- if na<=nb then mLo xx yy else mHi xx yy
 modify λs=>setArr s (mm.toList.zipIdx.foldl (λa (p,j)=>a.setIfInBounds (sa+j) p) (arrOf s))
 return (failedOf (<- get)).isNone):=rfl
end Ts
namespace Ts
open PySem PyProof.Rows
set_option autoImplicit false
def el (xs:Array Keyed)(i:Nat):Keyed:=(xs[i]?).getD (cA,cA)
theorem el_some {xs:Array Keyed}{i:Nat}(h:i<xs.size):xs[i]?=some (el xs i):=by
 unfold el;rw[getElem?_pos xs i h];rfl
theorem el_congr {xs ys:Array Keyed}{i j:Nat}(h:xs[i]?=ys[j]?):el xs i=el ys j:=by unfold el;rw[h]
theorem el_mem {xs:Array Keyed}{i:Nat}(h:i<xs.size):el xs i∈xs.toList:=by
 have e:el xs i=xs[i]:=by unfold el;rw[getElem?_pos xs i h];rfl
 rw[e];simp
section
variable {O:KeyOrd}{key:Keyed->O.α}
abbrev KA {O:KeyOrd}(key:Keyed->O.α)(xs:Array Keyed)(i:Nat):O.α:=key (el xs i)
theorem KA_congr {xs ys:Array Keyed}{i j:Nat}(h:xs[i]?=ys[j]?):KA key xs i=KA key ys j:=by unfold KA;rw[el_congr h]
def Seg {O:KeyOrd}(key:Keyed->O.α)(xs:Array Keyed)(lo hi:Nat):Prop:=∀ i j,lo<=i->i<=j->j<hi->O.kle (KA key xs i) (KA key xs j)
def SegD {O:KeyOrd}(key:Keyed->O.α)(xs:Array Keyed)(lo hi:Nat):Prop:=∀ i j,lo<=i->i<=j->j<hi->O.kle (KA key xs j) (KA key xs i)
theorem Seg.one (xs:Array Keyed)(lo:Nat):Seg key xs lo (lo+1):=λi j h1 h2 h3=>by
 have:i=j:=∅
 subst this;exact ci _
theorem Seg.sub {xs:Array Keyed}{lo hi lo' hi':Nat}(h:Seg key xs lo hi)(h1:lo<=lo')(h2:hi'<=hi):Seg key xs lo' hi':=λi j a b c=>h i j ∅ b ∅
theorem Seg.congr {xs ys:Array Keyed}{lo hi:Nat}(h:Seg key xs lo hi)(e:∀ i,lo<=i->i<hi->KA key ys i=KA key xs i):Seg key ys lo hi:=λi j a b c=>by
 rw[e i a ∅,e j ∅ c];exact h i j a b c
theorem KA_bubble {xs:Array Keyed}{src d:Nat}(hs:src<xs.size)(hd:d<=src)(k:Nat) :
  KA key (bubble xs src d) k=if k=src-d then KA key xs src else if src-d<k/\k<=src then KA key xs (k-1) else KA key xs k:=by
 have e:=getElem?_bubble hs d hd k;by_cases h1:k=src-d
 ·rw[if_pos h1] at e ⊢;exact KA_congr e
 ·rw[if_neg h1] at e ⊢;by_cases h2:src-d<k/\k<=src
  ·rw[if_pos h2] at e ⊢;exact KA_congr e
  ·rw[if_neg h2] at e ⊢;exact KA_congr e
theorem KA_mirror {xs:Array Keyed}{i j:Nat}(hj:j<=xs.size)(k:Nat) :
  KA key (mirror xs i j ((j-i) / 2)) k=if i<=k/\k<j then KA key xs (i+j-1-k) else KA key xs k:=by
 have e:=getElem?_mirror_all (i:=i) hj k;by_cases h1:i<=k/\k<j
 ·rw[if_pos h1] at e ⊢;exact KA_congr e
 ·rw[if_neg h1] at e ⊢;exact KA_congr e
theorem KA_mirror_equal {xs:Array Keyed}{i j:Nat}(hj:j<=xs.size)(heq:∀ k,i<=k->k<j->KA key xs k=KA key xs (j-1))(k:Nat) :
  KA key (mirror xs i j ((j-i) / 2)) k=KA key xs k:=by
 rw[KA_mirror hj];split
 ·rw[heq _ ∅ ∅,heq k ∅ ∅]
 ·rfl
end
structure SB (a₀:Array Keyed)(knd:SortKind)(st:SortSt):Prop where
 perm:(arrOf st).Perm a₀
 kind:kindOf st=knd
 failed:failedOf st=none
theorem SB.size {a₀:Array Keyed}{knd:SortKind}{st:SortSt}(h:SB a₀ knd st):(arrOf st).size=a₀.size:=h.perm.size_eq
theorem SB.setArr {a₀:Array Keyed}{knd:SortKind}{st:SortSt}(h:SB a₀ knd st){xs:Array Keyed}(hp:xs.Perm (arrOf st)):SB a₀ knd (setArr st xs):=⟨hp.trans h.perm,h.kind,h.failed⟩
theorem SB.mem {a₀:Array Keyed}{knd:SortKind}{st:SortSt}(h:SB a₀ knd st){i:Nat}(hi:i<a₀.size):el (arrOf st) i∈a₀.toList :=
 (hG.mp h.perm).mem_iff.mp (el_mem (by rw[h.size];exact hi))
def Cmp (M:Model)(A:Around)(E:Value->Shared->Prop)(s:Shared)(knd:SortKind)(O:KeyOrd)(key:Keyed->O.α)(a₀:Array Keyed):Prop :=
 ∀ p∈a₀.toList,∀ q∈a₀.toList,∀(st:SortSt) (Q:Option Bool->SortSt->Prop),kindOf st=knd->Q (some (O.blt (key p) (key q))) st->wpS M A E s (lt' p q) Q st
section
variable {M:Model}{A:Around}{E:Value->Shared->Prop}{s:Shared}{a₀:Array Keyed}{knd:SortKind}{O:KeyOrd}{key:Keyed->O.α}
theorem wpS_elem {xs:Array Keyed}{i:Nat}{Q:Keyed->SortSt->Prop}{st:SortSt}(h:i<xs.size)(q:Q (el xs i) st):wpS M A E s (elem' xs i) Q st:=by
 rw[elem'_eq,el_some h];exact ah q
theorem wpS_ltI {st:SortSt}{i j:Nat}{Q:Option Bool->SortSt->Prop}(C:Cmp M A E s knd O key a₀)(hB:SB a₀ knd st)(hi:i<a₀.size)(hj:j<a₀.size)
  (h:Q (some (O.blt (KA key (arrOf st) i) (KA key (arrOf st) j))) st):wpS M A E s (ltAt' i j) Q st:=by
 rw[ltAt'_eq];refine ai (fI ?_);refine ai (wpS_elem (by rw[hB.size];exact hi) ?_);refine ai (wpS_elem (by rw[hB.size];exact hj) ?_);exact C _ (hB.mem hi) _ (hB.mem hj) st Q hB.kind h
theorem wpS_rev {st:SortSt}{i j:Nat}{Q:Unit->SortSt->Prop}(h:Q () (setArr st (mirror (arrOf st) i j ((j-i) / 2)))):wpS M A E s (reverseSlice' i j) Q st:=by
 rw[reverseSlice'_eq];exact dS h
theorem wpS_rule {st:SortSt}{Q:Unit->SortSt->Prop}{x:String}(h:Q () st):wpS M A E s (liftM (rule x):StateT SortSt Sem Unit) Q st:=wpS_lift (wpAny_rule ⟨rfl,h⟩)
def ascL (lo a nrem:Nat):StateT SortSt Sem AscSt :=
 forIn [a:nrem] ((none,a):AscSt) λ_ c=>do
  let x <- ltAt' (lo+c.snd) (lo+c.snd-1)
  match x with
  | some sm=>if sm=true then pure (eO (none,c.snd)) else pure (bW (none,c.snd+1))
  | _=>pure (eO (some none,c.snd))
def t3L (lo n nrem:Nat):StateT SortSt Sem (Option Nat):=do
 reverseSlice' lo (lo+n)
 let c <- ascL lo n nrem
 match c.fst with
 | some r=>pure r
 | none=>pure (some c.snd)
def desL (lo n nrem:Nat):StateT SortSt Sem DescSt :=
 forIn [n:nrem] ((none,n,0):DescSt) λ_ c=>do
  let x <- ltAt' (lo+c.snd.fst) (lo+c.snd.fst-1)
  match x with
  | some sm =>
   if sm=true then
    if c.snd.snd>0 then do
     reverseSlice' (lo+c.snd.fst-(c.snd.snd+1)) (lo+c.snd.fst)
     pure (bW (none,c.snd.fst+1,0))
    else pure (bW (none,c.snd.fst+1,0))
   else do
    let y <- ltAt' (lo+c.snd.fst-1) (lo+c.snd.fst)
    match y with
    | some la =>
     if la=true then pure (eO (none,c.snd.fst,c.snd.snd))
     else pure (bW (none,c.snd.fst+1,c.snd.snd+1))
    | _=>pure (eO (some none,c.snd.fst,c.snd.snd))
  | _=>pure (eO (some none,c.snd.fst,c.snd.snd))
def desP (lo n nrem:Nat):StateT SortSt Sem (Option Nat):=do
 liftM (rule "list.sort.descending-run")
 let c <- desL lo (n+1) nrem
 match c.fst with
 | some r=>pure r
 | none =>
  if c.snd.snd>0 then do
   reverseSlice' (lo+c.snd.fst-(c.snd.snd+1)) (lo+c.snd.fst)
   t3L lo c.snd.fst nrem
  else t3L lo c.snd.fst nrem
theorem cR_eq (lo nrem:Nat):countRun' lo nrem=(do
  let c <- ascL lo 1 nrem
  match c.fst with
  | some r=>pure r
  | none =>
   if (c.snd == nrem)=true then pure (some c.snd)
   else if c.snd>1 then do
    let x <- ltAt' lo (lo+c.snd-1)
    match x with
    | some rs=>if rs=true then pure (some c.snd) else do
      reverseSlice' lo (lo+c.snd)
      desP lo c.snd nrem
    | _=>pure none
   else desP lo c.snd nrem):=by
 rw[countRun'_eq];unfold desP t3L desL ascL;refine bind_congr λc=>?_
 obtain⟨r,n⟩:=c;cases r with
 | some r=>rfl
 | none =>
  dsimp only;split
  ·rfl
  ·split
   ·refine bind_congr λx=>?_
    cases x with
    | none=>rfl
    | some rs =>
     dsimp only;split
     ·rfl
     ·refine bind_congr λu=>?_
      refine bind_congr λv=>?_
      refine bind_congr λd=>?_
      obtain⟨r2,n2,q2⟩:=d;cases r2 with
      | some r2=>rfl
      | none =>
       dsimp only;split
       ·refine bind_congr λe=>?_
        refine bind_congr λe=>?_
        refine bind_congr λd=>?_
        obtain⟨r3,n3⟩:=d;cases r3<;>rfl
       ·refine bind_congr λe=>?_
        refine bind_congr λd=>?_
        obtain⟨r3,n3⟩:=d;cases r3<;>rfl
   ·refine bind_congr λv=>?_
    refine bind_congr λd=>?_
    obtain⟨r2,n2,q2⟩:=d;cases r2 with
    | some r2=>rfl
    | none =>
     dsimp only;split
     ·refine bind_congr λe=>?_
      refine bind_congr λe=>?_
      refine bind_congr λd=>?_
      obtain⟨r3,n3⟩:=d;cases r3<;>rfl
     ·refine bind_congr λe=>?_
      refine bind_congr λd=>?_
      obtain⟨r3,n3⟩:=d;cases r3<;>rfl
structure From (lo:Nat)(st st':SortSt):Prop where
 low:∀ i,i<lo->(arrOf st')[i]?=(arrOf st)[i]?
 pend:pendingOf st'=pendingOf st
theorem From.refl (lo:Nat)(st:SortSt):From lo st st:=⟨λ_ _=>rfl,rfl⟩
theorem From.trans {lo:Nat}{a b c:SortSt}(h:From lo a b)(k:From lo b c):From lo a c:=⟨λi hi=>(k.low i hi).trans (h.low i hi),k.pend.trans h.pend⟩
theorem From.mirror {lo i j:Nat}{st:SortSt}(hi:lo<=i)(hj:j<=(arrOf st).size):From lo st (gY st (gZ (arrOf st) i j ((j-i) / 2))) :=
 ⟨λk hk=>by show (gZ (arrOf st) i j ((j-i) / 2))[k]?=_;rw[getElem?_mirror_all hj,if_neg ∅],rfl⟩
theorem From.bubble {lo src d:Nat}{st:SortSt}(hs:src<(arrOf st).size)(hd:d<=src)(hl:lo<=src-d):From lo st (gY st (g7 (arrOf st) src d)) :=
 ⟨λk hk=>by show (g7 (arrOf st) src d)[k]?=_;rw[getElem?_bubble hs d hd,if_neg ∅,if_neg ∅],rfl⟩
theorem wpS_ascL {st:SortSt}{lo a nrem:Nat}{Q:AscSt->SortSt->Prop}(C:Cmp M A E s knd O key a₀)(hn:lo+nrem<=a₀.size)(ha:1<=a)(han:a<=nrem)(hB:SB a₀ knd st)
  (hs:Seg key (arrOf st) lo (lo+a))
  (h:∀ n,a<=n->n<=nrem->Seg key (arrOf st) lo (lo+n)->(n=nrem\/O.klt (KA key (arrOf st) (lo+n)) (KA key (arrOf st) (lo+n-1)))->Q (none,n) st) :
  wpS M A E s (ascL lo a nrem) Q st:=by
 unfold ascL;refine bX (I:=λx c st'=>st'=st/\c=(none,x)/\Seg key (arrOf st) lo (lo+x)) ?step ?fin ⟨rfl,rfl,hs⟩
 case fin =>
  rintro c st' ⟨rfl,rfl,hs'⟩;rw[show max a nrem=nrem by omega] at hs' ⊢;exact h nrem han (ak _) hs' (.inl rfl)
 case step =>
  rintro x c st' hax hxn ⟨rfl,rfl,hs'⟩;dsimp only;refine ai (wpS_ltI C hB ∅ ∅ ?_);cases hless:O.blt (KA key (arrOf st') (lo+x)) (KA key (arrOf st') (lo+x-1))
  case true =>
   simp only[if_true];exact ah (h x hax ∅ hs' (.inr hless))
  case false =>
   simp only[aW,if_false];refine ah ⟨rfl,rfl,λi j hli hij hj=>?_⟩;by_cases hjx:j<lo+x
   ·exact hs' i j hli hij hjx
   ·have hj':j=lo+x:=∅
    subst hj';by_cases hi':i=lo+x
    ·subst hi';exact ci _
    ·exact aX (hs' i (lo+x-1) hli ∅ ∅) hless
theorem wpS_t3L {st:SortSt}{lo n nrem:Nat}{Q:Option Nat->SortSt->Prop}(C:Cmp M A E s knd O key a₀)(hn:lo+nrem<=a₀.size)(h1:1<=n)(hnn:n<=nrem)(hB:SB a₀ knd st)
  (hs:SegD key (arrOf st) lo (lo+n)) (h:∀ m st',SB a₀ knd st'->From lo st st'->1<=m->m<=nrem->Seg key (arrOf st') lo (lo+m)->Q (some m) st') :
  wpS M A E s (t3L lo n nrem) Q st:=by
 unfold t3L;have hsz:lo+n<=(arrOf st).size:=by rw[hB.size];omega
 refine ai (wpS_rev ?_);have hB':SB a₀ knd (setArr st (mirror (arrOf st) lo (lo+n) ((lo+n-lo) / 2))):=hB.setArr (iF _ _ _ _);have hF:=From.mirror (ak lo) hsz;refine ai (wpS_ascL C hn h1 hnn hB' ?_ λm hm1 hm2 hsm _=>ah (h m _ hB' hF ∅ hm2 hsm));intro i j hli hij hj;show O.kle (KA key (mirror (arrOf st) lo (lo+n) ((lo+n-lo) / 2)) i) (KA key (mirror (arrOf st) lo (lo+n) ((lo+n-lo) / 2)) j);rw[KA_mirror hsz,KA_mirror hsz,if_pos ∅,if_pos ∅];exact hs _ _ ∅ ∅ ∅
theorem wpS_desL {st:SortSt}{lo n nrem:Nat}{Q:DescSt->SortSt->Prop}(C:Cmp M A E s knd O key a₀)(hn:lo+nrem<=a₀.size)(h1:1<=n)(hnn:n<=nrem)(hB:SB a₀ knd st)
  (hs:SegD key (arrOf st) lo (lo+n))
  (h:∀ m neq st',SB a₀ knd st'->From lo st st'->n<=m->m<=nrem->SegD key (arrOf st') lo (lo+m)->neq+1<=m->(∀ i,lo+m-(neq+1)<=i->i<lo+m->KA key (arrOf st') i=KA key (arrOf st') (lo+m-1))->Q (none,m,neq) st') :
  wpS M A E s (desL lo n nrem) Q st:=by
 unfold desL
 refine bX (I:=λx c st'=>∃ neq,c=(none,x,neq)/\SB a₀ knd st'/\From lo st st'/\SegD key (arrOf st') lo (lo+x)/\neq+1<=x /\
   (∀ i,lo+x-(neq+1)<=i->i<lo+x->KA key (arrOf st') i=KA key (arrOf st') (lo+x-1))) ?step ?fin ⟨0,rfl,hB,From.refl _ _,hs,∅,λi h1 h2=>by congr 1;congr 1;omega⟩
 case fin =>
  rintro c st' ⟨neq,rfl,hB',hF,hs',hq,he⟩;rw[show max n nrem=nrem by omega] at hs' hq he ⊢;exact h nrem neq st' hB' hF hnn (ak _) hs' hq he
 case step =>
  rintro x c st' hax hxn ⟨neq,rfl,hB',hF,hs',hq,he⟩;dsimp only;have hsz:lo+x<=(arrOf st').size:=by rw[hB'.size];omega
  refine ai (wpS_ltI C hB' ∅ ∅ ?_);cases hless:O.blt (KA key (arrOf st') (lo+x)) (KA key (arrOf st') (lo+x-1))
  case true =>
   simp only[if_true];have step1:∀ xs:Array Keyed,(∀ k,KA key xs k=KA key (arrOf st') k)->SegD key xs lo (lo+(x+1)):=by
    intro xs hk i j hli hij hj;rw[hk,hk];by_cases hjx:j<lo+x
    ·exact hs' i j hli hij hjx
    ·have hj':j=lo+x:=∅
     subst hj';by_cases hi':i=lo+x
     ·subst hi';exact ci _
     ·exact aX (aP hless) (hs' i (lo+x-1) hli ∅ ∅)
   by_cases hneq:neq>0
   ·rw[if_pos hneq];refine ai (wpS_rev (ah ⟨0,rfl,hB'.setArr (iF _ _ _ _),hF.trans (From.mirror ∅ hsz),step1 _ (KA_mirror_equal hsz he),∅,λi h1 h2=>by congr 1;congr 1;omega⟩))
   ·rw[if_neg hneq];exact ah ⟨0,rfl,hB',hF,step1 _ (λ_=>rfl),∅,λi h1 h2=>by congr 1;congr 1;omega⟩
  case false =>
   simp only[aW,if_false];refine ai (wpS_ltI C hB' ∅ ∅ ?_);cases hlarger:O.blt (KA key (arrOf st') (lo+x-1)) (KA key (arrOf st') (lo+x))
   case true =>
    simp only[if_true];exact ah (h x neq st' hB' hF hax ∅ hs' hq he)
   case false =>
    simp only[aW,if_false];have heqx:KA key (arrOf st') (lo+x)=KA key (arrOf st') (lo+x-1):=iO hlarger hless;refine ah ⟨neq+1,rfl,hB',hF,λi j hli hij hj=>?_,∅,λi h1 h2=>?_⟩
    ·by_cases hjx:j<lo+x
     ·exact hs' i j hli hij hjx
     ·have hj':j=lo+x:=∅
      subst hj';by_cases hi':i=lo+x
      ·subst hi';exact ci _
      ·rw[heqx];exact hs' i (lo+x-1) hli ∅ ∅
    ·rw[show lo+(x+1)-1=lo+x by omega];by_cases hix:i=lo+x
     ·subst hix;rfl
     ·rw[heqx];exact he i ∅ ∅
theorem wpS_desP {st:SortSt}{lo n nrem:Nat}{Q:Option Nat->SortSt->Prop}(C:Cmp M A E s knd O key a₀)(hn:lo+nrem<=a₀.size)(hnn:n+1<=nrem)(hB:SB a₀ knd st)
  (hs:SegD key (arrOf st) lo (lo+(n+1))) (h:∀ m st',SB a₀ knd st'->From lo st st'->1<=m->m<=nrem->Seg key (arrOf st') lo (lo+m)->Q (some m) st') :
  wpS M A E s (desP lo n nrem) Q st:=by
 unfold desP;refine ai (wpS_rule ?_);refine ai (wpS_desL C hn ∅ hnn hB hs λm neq st' hB' hF hm1 hm2 hs' hq he=>?_);dsimp only;have hsz:lo+m<=(arrOf st').size:=by rw[hB'.size];omega
 by_cases hneq:neq>0
 ·rw[if_pos hneq];refine ai (wpS_rev (wpS_t3L C hn ∅ hm2 (hB'.setArr (iF _ _ _ _)) ?_ λm' st'' a b=>h m' st'' a (hF.trans ((From.mirror ∅ hsz).trans b))));intro i j hli hij hj;show O.kle (KA key (mirror (arrOf st') _ _ _) j) (KA key (mirror (arrOf st') _ _ _) i);rw[KA_mirror_equal hsz he,KA_mirror_equal hsz he];exact hs' i j hli hij hj
 ·rw[if_neg hneq];exact wpS_t3L C hn ∅ hm2 hB' hs' λm' st'' a b=>h m' st'' a (hF.trans b)
theorem wpS_cR {st:SortSt}{lo nrem:Nat}{Q:Option Nat->SortSt->Prop}(C:Cmp M A E s knd O key a₀)(hn:lo+nrem<=a₀.size)(h1:1<=nrem)(hB:SB a₀ knd st)
  (h:∀ m st',SB a₀ knd st'->From lo st st'->1<=m->m<=nrem->Seg key (arrOf st') lo (lo+m)->Q (some m) st') :
  wpS M A E s (countRun' lo nrem) Q st:=by
 rw[cR_eq];refine ai (wpS_ascL C hn (ak 1) h1 hB (Seg.one _ _) λn hn1 hn2 hsn hor=>?_);dsimp only;by_cases hnn:n=nrem
 ·rw[if_pos (~~~hnn)];exact ah (h n st hB (From.refl _ _) hn1 hn2 hsn)
 ·rw[if_neg (~~~hnn)];have hlt:O.klt (KA key (arrOf st) (lo+n)) (KA key (arrOf st) (lo+n-1)):=hor.resolve_left hnn;by_cases hgt:n>1
  ·rw[if_pos hgt];refine ai (wpS_ltI C hB ∅ ∅ ?_);cases hrose:O.blt (KA key (arrOf st) lo) (KA key (arrOf st) (lo+n-1))
   case true =>
    simp only[if_true];exact ah (h n st hB (From.refl _ _) hn1 hn2 hsn)
   case false =>
    simp only[aW,if_false];have hsz:lo+n<=(arrOf st).size:=by rw[hB.size];omega
    have hall:∀ k,lo<=k->k<lo+n->KA key (arrOf st) k=KA key (arrOf st) (lo+n-1):=by
     intro k hlk hk;have a1:=hsn lo k ∅ ∅ hk;have a2:=hsn k (lo+n-1) hlk ∅ ∅;exact iO a2 (aX hrose a1)
    refine ai (wpS_rev (wpS_desP C hn ∅ (hB.setArr (iF _ _ _ _)) ?_ λm' st'' a b=>h m' st'' a ((From.mirror (ak lo) hsz).trans b)));intro i j hli hij hj;show O.kle (KA key (mirror (arrOf st) _ _ _) j) (KA key (mirror (arrOf st) _ _ _) i);rw[KA_mirror_equal hsz hall,KA_mirror_equal hsz hall];by_cases hjn:j<lo+n
    ·rw[hall i ∅ ∅,hall j ∅ hjn];exact ci _
    ·have hj':j=lo+n:=∅
     subst hj';by_cases hi':i=lo+n
     ·subst hi';exact ci _
     ·rw[hall i ∅ ∅];exact aP hlt
  ·rw[if_neg hgt];have hn1':n=1:=∅
   subst hn1';refine wpS_desP C hn ∅ hB ?_ h;intro i j hli hij hj;by_cases hi':i=j
   ·subst hi';exact ci _
   ·have hi0:i=lo:=∅
    have hj1:j=lo+1:=∅
    subst hi0;subst hj1;exact aP hlt
theorem wpS_bS {st:SortSt}{lo n ok:Nat}{Q:Bool->SortSt->Prop}(C:Cmp M A E s knd O key a₀)(hn:lo+n<=a₀.size)(hok:ok<=n)(hB:SB a₀ knd st)(hs:Seg key (arrOf st) lo (lo+ok))
  (h:∀ st',SB a₀ knd st'->From lo st st'->Seg key (arrOf st') lo (lo+n)->Q true st'):wpS M A E s (binarySort' lo n ok) Q st:=by
 rw[binarySort'_eq]
 refine ai (cW (bX (I:=λk c st'=>c=(none,())/\SB a₀ knd st'/\From lo st st'/\Seg key (arrOf st') lo (lo+min k n))
  (Q:=λc st'=>c=(none,())/\SB a₀ knd st'/\From lo st st'/\Seg key (arrOf st') lo (lo+n)) ?step ?fin ?init) ?post)
 case post =>
  rintro c st' ⟨rfl,hB',hF,hs'⟩;exact ah (h st' hB' hF hs')
 case init =>
  refine⟨rfl,hB,From.refl _ _,λi j hli hij hj=>?_⟩;by_cases h1:ok=0
  ·have:i=j:=∅
   subst this;exact ci _
  ·exact hs i j hli hij ∅
 case fin =>
  rintro c st' ⟨hc,hB',hF,hs'⟩;refine⟨hc,hB',hF,?_⟩
  rwa [show min (max (max ok 1) n) n=n by omega] at hs'
 case step =>
  rintro k c st' hak hkn ⟨rfl,hB',hF,hs'⟩;rw[show min k n=k by omega] at hs';have hk:lo+k<a₀.size:=∅
  refine ai (cW (bX (I:=λx c st''=>st''=st'/\∃ l r,c=(none,l,r)/\l<=r/\r<=k/\r-l<=k-x /\
    (∀ i,i<l->O.kle (KA key (arrOf st') (lo+i)) (KA key (arrOf st') (lo+k)))/\(∀ i,r<=i->i<k->O.klt (KA key (arrOf st') (lo+k)) (KA key (arrOf st') (lo+i))))
   (Q:=λc st''=>st''=st'/\∃ l r,c=(none,l,r)/\l<=k /\
    (∀ i,i<l->O.kle (KA key (arrOf st') (lo+i)) (KA key (arrOf st') (lo+k)))/\(∀ i,l<=i->i<k->O.klt (KA key (arrOf st') (lo+k)) (KA key (arrOf st') (lo+i)))) ?istep ?ifin ?iinit) ?ipost)
  case iinit=>exact⟨rfl,0,k,rfl,∅,∅,∅,λi hi=>∅,λi h1 h2=>∅⟩
  case ifin =>
   rintro c st'' ⟨rfl,l,r,rfl,hlr,hrk,hm,hlo,hhi⟩;have:l=r:=∅
   subst this;exact⟨rfl,l,l,rfl,hrk,hlo,hhi⟩
  case istep =>
   rintro x c st'' _ hxk ⟨rfl,l,r,rfl,hlr,hrk,hm,hlo,hhi⟩;dsimp only;by_cases hge:l>=r
   ·rw[if_pos hge];have:l=r:=∅
    subst this;exact ah ⟨rfl,l,l,rfl,hrk,hlo,hhi⟩
   ·rw[if_neg hge];refine ai (wpS_ltI C hB' hk ∅ ?_);cases hless:O.blt (KA key (arrOf st'') (lo+k)) (KA key (arrOf st'') (lo+(l+r) / 2))
    case true =>
     simp only[if_true];refine ah ⟨rfl,l,(l+r) / 2,rfl,∅,∅,∅,hlo,λi h1 h2=>?_⟩;exact KeyOrd.klt_of_klt_of_kle hless (hs' _ _ ∅ ∅ ∅)
    case false =>
     simp only[aW,if_false];refine ah ⟨rfl,(l+r) / 2+1,r,rfl,∅,∅,∅,λi h1=>?_,hhi⟩;exact aX (hs' (lo+i) (lo+(l+r) / 2) ∅ ∅ ∅) (show O.kle _ _ from hless)
  case ipost =>
   rintro c st'' ⟨rfl,l,r,rfl,hlk,hlo,hhi⟩;show wpS _ _ _ _ (do moveDown' (lo+k) (lo+l);pure (bW (none,()))) _ _;rw[moveDown'_eq];have hks:lo+k<(arrOf st'').size:=by rw[hB'.size];exact hk
   refine ai (dS (ah ⟨rfl,hB'.setArr (bubble_perm _ _ _),hF.trans (From.bubble hks ∅ ∅),?_⟩));rw[show min (k+1) n=k+1 by omega];intro i j hli hij hj;show O.kle (KA key (bubble (arrOf st'') (lo+k) (lo+k-(lo+l))) i) (KA key (bubble (arrOf st'') (lo+k) (lo+k-(lo+l))) j);rw[KA_bubble hks ∅,KA_bubble hks ∅,show lo+k-(lo+k-(lo+l))=lo+l by omega];have hlo':∀ i,lo<=i->i<lo+l->O.kle (KA key (arrOf st'') i) (KA key (arrOf st'') (lo+k)):=λi a b=>by
    have:=hlo (i-lo) ∅
    rwa [show lo+(i-lo)=i by omega] at this
   have hhi':∀ i,lo+l<=i->i<lo+k->O.klt (KA key (arrOf st'') (lo+k)) (KA key (arrOf st'') i):=λi a b=>by
    have:=hhi (i-lo) ∅ ∅
    rwa [show lo+(i-lo)=i by omega] at this
   repeat' split
   all_goals first
    | (exfalso;omega)
    | exact ci _
    | exact hlo' _ ∅ ∅
    | exact aP (hhi' _ ∅ ∅)
    | exact hs' _ _ ∅ ∅ ∅
end
end Ts
namespace Ts
open PySem PyProof.Rows
set_option autoImplicit false
section
variable {M:Model}{A:Around}{E:Value->Shared->Prop}{s:Shared}{a₀:Array Keyed}{knd:SortKind}{O:KeyOrd}{key:Keyed->O.α}
theorem wpS_galP {P:Nat->Bool}{lf:Bool}{ky:Keyed}{ar:Array Keyed}{bs nn hn:Nat}{st:SortSt}{Q:Option Nat->SortSt->Prop}(hk:kindOf st=knd)
  (hb:∀ i,i<nn->∀(st:SortSt) (Q:Option Bool->SortSt->Prop),kindOf st=knd->Q (some (P i)) st ->
   wpS M A E s (do let xx <- elem' ar (bs+i);if lf then lt' xx ky else return (<- lt' ky xx).map (!·)) Q st)
  (hP:∀ i j,i<=j->j<nn->P j=true->P i=true) (hh:hn<nn)
  (h:∀ k,k<=nn->(∀ i,i<k->P i=true)->(∀ i,k<=i->i<nn->P i=false)->Q (some k) st):wpS M A E s (galP lf ky ar bs nn hn) Q st:=by
 rw[galP_eq];have hN:∀ i j,i<=j->j<nn->P i=false->P j=false:=λi j a b c=>by
  cases e:P j with
  | false=>rfl
  | true=>rw[hP i j a b e] at c;exact absurd c (by simp)
 refine ai (hb hn hh _ _ hk ?_);cases e:P hn with
 | true =>
  simp only[if_true]
  refine ai (cW (bX (I:=λx c st'=>st'=st/\∃ la o,c=(none,la,o)/\la<o/\x+1<=o/\hn+la<nn/\P (hn+la)=true)
   (Q:=λc st'=>st'=st/\∃ la o,c=(none,la,o)/\la<o/\hn+la<nn/\P (hn+la)=true/\(nn-hn<=o\/(o<nn-hn/\P (hn+o)=false))) ?step ?fin ⟨rfl,0,1,rfl,∅,∅,hh,e⟩) ?post)
  case fin =>
   rintro c st' ⟨rfl,la,o,rfl,h1,h2,h3,h4⟩;exact⟨rfl,la,o,rfl,h1,h3,h4,.inl ∅⟩
  case step =>
   rintro x c st' _ hx ⟨rfl,la,o,rfl,h1,h2,h3,h4⟩;dsimp only;by_cases hge:o>=nn-hn
   ·rw[if_pos hge];exact ah ⟨rfl,la,o,rfl,h1,h3,h4,.inl hge⟩
   ·rw[if_neg hge];refine ai (hb (hn+o) ∅ _ _ hk ?_);cases e2:P (hn+o) with
    | true =>
     simp only[eN,aW,if_false];exact ah ⟨rfl,o,_,rfl,∅,∅,∅,e2⟩
    | false =>
     simp only[Bool.not_false,if_true];exact ah ⟨rfl,la,o,rfl,h1,h3,h4,.inr ⟨∅,e2⟩⟩
  case post =>
   rintro c st' ⟨rfl,la,o,rfl,h1,h3,h4,h5⟩;dsimp only;have hT:∀ i,i<(hn+la+1)->P i=true:=λi hi=>hP i (hn+la) ∅ h3 h4
   have hF:∀ i,(hn+min o (nn-hn))<=i->i<nn->P i=false:=λi hi hin=>by
    rcases h5 with h5 | ⟨h5,h6⟩
    ·omega
    ·exact hN (hn+o) i ∅ hin h6
   refine ai (cW (bX (I:=λx c st''=>st''=st'/\∃ l r,c=(none,l,r)/\l<=r/\r<=nn/\r-l<=nn-x/\(∀ i,i<l->P i=true)/\(∀ i,r<=i->i<nn->P i=false))
    (Q:=λc st''=>st''=st'/\∃ l,c=(none,l,l)/\l<=nn/\(∀ i,i<l->P i=true)/\(∀ i,l<=i->i<nn->P i=false)) ?step2 ?fin2 ⟨rfl,(hn+la+1),(hn+min o (nn-hn)),rfl,∅,∅,∅,hT,hF⟩) ?post2)
   case fin2 =>
    rintro c st'' ⟨rfl,l,r,rfl,h1,h2,h3,h4,h5⟩;have:l=r:=∅
    subst this;exact⟨rfl,l,rfl,h2,h4,h5⟩
   case post2 =>
    rintro c st'' ⟨rfl,l,rfl,h2,h4,h5⟩;exact ah (h l h2 h4 h5)
   case step2 =>
    rintro x c st'' _ hx ⟨rfl,l,r,rfl,h1,h2,h3,h4,h5⟩;dsimp only;by_cases hge:l>=r
    ·rw[if_pos hge];have:l=r:=∅
     subst this;exact ah ⟨rfl,l,rfl,h2,h4,h5⟩
    ·rw[if_neg hge];refine ai (hb (l+(r-l) / 2) ∅ _ _ hk ?_);cases e:P (l+(r-l) / 2) with
     | true =>
      simp only[if_true];exact ah ⟨rfl,_,r,rfl,∅,h2,∅,λi hi=>hP i _ ∅ ∅ e,h5⟩
     | false =>
      simp only[aW,if_false];exact ah ⟨rfl,l,_,rfl,∅,∅,∅,h4,λi a b=>hN _ i a b e⟩
 | false =>
  simp only[aW,if_false]
  refine ai (cW (bX (I:=λx c st'=>st'=st/\∃ la o,c=(none,la,o)/\la<o/\x+1<=o/\la<=hn/\P (hn-la)=false)
   (Q:=λc st'=>st'=st/\∃ la o,c=(none,la,o)/\la<o/\la<=hn/\P (hn-la)=false/\(hn+1<=o\/(o<=hn/\P (hn-o)=true))) ?step ?fin ⟨rfl,0,1,rfl,∅,∅,∅,e⟩) ?post)
  case fin =>
   rintro c st' ⟨rfl,la,o,rfl,h1,h2,h3,h4⟩;exact⟨rfl,la,o,rfl,h1,h3,h4,.inl ∅⟩
  case step =>
   rintro x c st' _ hx ⟨rfl,la,o,rfl,h1,h2,h3,h4⟩;dsimp only;by_cases hge:o>=hn+1
   ·rw[if_pos hge];exact ah ⟨rfl,la,o,rfl,h1,h3,h4,.inl hge⟩
   ·rw[if_neg hge];refine ai (hb (hn-o) ∅ _ _ hk ?_);cases e2:P (hn-o) with
    | true =>
     simp only[if_true];exact ah ⟨rfl,la,o,rfl,h1,h3,h4,.inr ⟨∅,e2⟩⟩
    | false =>
     simp only[aW,if_false];exact ah ⟨rfl,o,_,rfl,∅,∅,∅,e2⟩
  case post =>
   rintro c st' ⟨rfl,la,o,rfl,h1,h3,h4,h5⟩;dsimp only;have hT:∀ i,i<(hn+1-min o (hn+1))->P i=true:=λi hi=>by
    rcases h5 with h5 | ⟨h5,h6⟩
    ·omega
    ·exact hP i (hn-o) ∅ ∅ h6
   have hF:∀ i,(hn-la)<=i->i<nn->P i=false:=λi hi hin=>hN (hn-la) i hi hin h4
   refine ai (cW (bX (I:=λx c st''=>st''=st'/\∃ l r,c=(none,l,r)/\l<=r/\r<=nn/\r-l<=nn-x/\(∀ i,i<l->P i=true)/\(∀ i,r<=i->i<nn->P i=false))
    (Q:=λc st''=>st''=st'/\∃ l,c=(none,l,l)/\l<=nn/\(∀ i,i<l->P i=true)/\(∀ i,l<=i->i<nn->P i=false)) ?step2 ?fin2 ⟨rfl,(hn+1-min o (hn+1)),(hn-la),rfl,∅,∅,∅,hT,hF⟩) ?post2)
   case fin2 =>
    rintro c st'' ⟨rfl,l,r,rfl,h1,h2,h3,h4,h5⟩;have:l=r:=∅
    subst this;exact⟨rfl,l,rfl,h2,h4,h5⟩
   case post2 =>
    rintro c st'' ⟨rfl,l,rfl,h2,h4,h5⟩;exact ah (h l h2 h4 h5)
   case step2 =>
    rintro x c st'' _ hx ⟨rfl,l,r,rfl,h1,h2,h3,h4,h5⟩;dsimp only;by_cases hge:l>=r
    ·rw[if_pos hge];have:l=r:=∅
     subst this;exact ah ⟨rfl,l,rfl,h2,h4,h5⟩
    ·rw[if_neg hge];refine ai (hb (l+(r-l) / 2) ∅ _ _ hk ?_);cases e:P (l+(r-l) / 2) with
     | true =>
      simp only[if_true];exact ah ⟨rfl,_,r,rfl,∅,h2,∅,λi hi=>hP i _ ∅ ∅ e,h5⟩
     | false =>
      simp only[aW,if_false];exact ah ⟨rfl,l,_,rfl,∅,∅,∅,h4,λi a b=>hN _ i a b e⟩
theorem wpS_galR {ky:Keyed}{ar:Array Keyed}{bs nn hn:Nat}{st:SortSt}{Q:Option Nat->SortSt->Prop}(C:Cmp M A E s knd O key a₀)(hk:kindOf st=knd)(hm:ky∈a₀.toList)
  (ha:∀ i,i<nn->el ar (bs+i)∈a₀.toList) (hsz:bs+nn<=ar.size) (hs:Seg key ar bs (bs+nn)) (hh:hn<nn)
  (h:∀ k,k<=nn->(∀ i,bs<=i->i<bs+k->O.kle (KA key ar i) (key ky))->(∀ i,bs+k<=i->i<bs+nn->O.klt (key ky) (KA key ar i))->Q (some k) st):wpS M A E s (galP false ky ar bs nn hn) Q st:=by
 refine wpS_galP (P:=λi=>!O.blt (key ky) (KA key ar (bs+i))) hk (λi hi st Q hk q=>?_) (λi j hij hj e=>?_) hh λk hk1 h1 h2=>?_
 ·refine ai (wpS_elem ∅ ?_);simp only[aW,if_false];exact ai (C _ hm _ (ha i hi) st _ hk (ah q))
 ·have e':O.kle (KA key ar (bs+j)) (key ky):=by simpa [KeyOrd.kle] using e
  have:=aX (hs (bs+i) (bs+j) ∅ ∅ ∅) e';simpa [KeyOrd.kle] using this
 ·refine h k hk1 (λi a b=>?_) λi a b=>?_
  ·have:=h1 (i-bs) ∅;rw[show bs+(i-bs)=i by omega] at this;simpa [KeyOrd.kle] using this
  ·have:=h2 (i-bs) ∅ ∅;rw[show bs+(i-bs)=i by omega] at this;simpa [KeyOrd.klt] using this
theorem wpS_galL {ky:Keyed}{ar:Array Keyed}{bs nn hn:Nat}{st:SortSt}{Q:Option Nat->SortSt->Prop}(C:Cmp M A E s knd O key a₀)(hk:kindOf st=knd)(hm:ky∈a₀.toList)
  (ha:∀ i,i<nn->el ar (bs+i)∈a₀.toList) (hsz:bs+nn<=ar.size) (hs:Seg key ar bs (bs+nn)) (hh:hn<nn)
  (h:∀ k,k<=nn->(∀ i,bs<=i->i<bs+k->O.klt (KA key ar i) (key ky))->(∀ i,bs+k<=i->i<bs+nn->O.kle (key ky) (KA key ar i))->Q (some k) st):wpS M A E s (galP true ky ar bs nn hn) Q st:=by
 refine wpS_galP (P:=λi=>O.blt (KA key ar (bs+i)) (key ky)) hk (λi hi st Q hk q=>?_) (λi j hij hj e=>?_) hh λk hk1 h1 h2=>?_
 ·refine ai (wpS_elem ∅ ?_);simp only[if_true];exact C _ (ha i hi) _ hm st _ hk q
 ·exact KeyOrd.klt_of_kle_of_klt (hs (bs+i) (bs+j) ∅ ∅ ∅) e
 ·refine h k hk1 (λi a b=>?_) λi a b=>?_
  ·have:=h1 (i-bs) ∅
   rwa [show bs+(i-bs)=i by omega] at this
  ·have:=h2 (i-bs) ∅ ∅
   rwa [show bs+(i-bs)=i by omega] at this
end
end Ts
namespace Ts
open PySem PyProof.Rows
set_option autoImplicit false
theorem toList_el {a:Array Keyed}{k:Nat}(h:k<a.size):a.toList[k]?=some (el a k):=by
 rw[bp];exact el_some h
theorem take_succ_el {a:Array Keyed}{i:Nat}(h:i<a.size):a.toList.take (i+1)=a.toList.take i++[el a i]:=by
 rw[di,toList_el h];rfl
theorem drop_el {a:Array Keyed}{i:Nat}(h:i<a.size):a.toList.drop i=el a i::a.toList.drop (i+1):=by
 have hl:i<a.toList.length:= ~~~h
 rw[dt hl];congr 1;have:=toList_el h;rw[aA hl] at this;exact aI this
theorem mem_drop_el {a:Array Keyed}{i:Nat}{y:Keyed}(h:y∈a.toList.drop i):∃ k,i<=k/\k<a.size/\y=el a k:=by
 obtain⟨n,hn⟩:=bY.mp h;rw[fg] at hn;have hlt:i+n<a.size:=by
  have:=(au.mp hn).1;simpa using this
 rw[toList_el hlt] at hn;exact⟨i+n,∅,hlt,(aI hn).symm⟩
theorem mem_take_el {a:Array Keyed}{i:Nat}{y:Keyed}(h:y∈a.toList.take i):∃ k,k<i/\k<a.size/\y=el a k:=by
 obtain⟨n,hn⟩:=bY.mp h;by_cases hi:n<i
 ·rw[dF hi] at hn;have hlt:n<a.size:=by
   have:=(au.mp hn).1;simpa using this
  rw[toList_el hlt] at hn;exact⟨n,hi,hlt,(aI hn).symm⟩
 ·rw[List.getElem?_take_eq_none ∅] at hn;cases hn
theorem ext_end (a:Array Keyed)(i:Nat):(a.extract i a.size).toList=a.toList.drop i:=by
 rw[bS,bD,bV (by simp)]
theorem ext_top (a:Array Keyed)(i:Nat):(a.extract 0 i).toList=a.toList.take i:=by
 rw[bS,bD];simp
theorem ext_mid {a:Array Keyed}{i k:Nat}(h:i+k<a.size):(a.extract i (i+(k+1))).toList=(a.extract i (i+k)).toList++[el a (i+k)]:=by
 rw[bS,bD,bS,bD,show i+(k+1)-i=k+1 by omega,show i+k-i=k by omega,di,fg,toList_el h];rfl
theorem ext_low {a:Array Keyed}{p i:Nat}(h:p<i)(hi:i<=a.size):(a.extract p i).toList=el a p::(a.extract (p+1) i).toList:=by
 rw[bS,bD,bS,bD,drop_el ∅,show i-p=(i-(p+1))+1 by omega,je]
section
variable {O:KeyOrd}{key:Keyed->O.α}
def le {O:KeyOrd}(key:Keyed->O.α)(p q:Keyed):Prop:=O.kle (key p) (key q)
theorem pw_of_seg {a:Array Keyed}(h:Seg key a 0 a.size):a.toList.Pairwise (le key):=by
 rw[cJ];intro i j hi hj hij;have hi':i<a.size:= ~~~hi
 have hj':j<a.size:= ~~~hj
 have e1:=toList_el hi';rw[aA hi] at e1;have e2:=toList_el hj';rw[aA hj] at e2;rw[aI e1,aI e2];exact h i j ∅ ∅ hj'
theorem seg_of_pw {a:Array Keyed}(h:a.toList.Pairwise (le key)):Seg key a 0 a.size:=by
 rw[cJ] at h;intro i j _ hij hj;by_cases e:i=j
 ·subst e;exact ci _
 ·have hi':i<a.size:=∅
  have hi:i<a.toList.length:= ~~~hi'
  have hj2:j<a.toList.length:= ~~~hj
  have e1:=toList_el hi';rw[aA hi] at e1;have e2:=toList_el hj;rw[aA hj2] at e2;have:=h i j hi hj2 ∅;rw[aI e1,aI e2] at this;exact this
def Res {O:KeyOrd}(key:Keyed->O.α)(a b m:Array Keyed):Prop:=m.toList.Perm (a.toList++b.toList)/\m.toList.Pairwise (le key)
structure GLo {O:KeyOrd}(key:Keyed->O.α)(a b o:Array Keyed)(i j:Nat):Prop where
 hi:i<=a.size
 hj:j<=b.size
 sz:o.size=i+j
 pm:o.toList.Perm (a.toList.take i++b.toList.take j)
 so:o.toList.Pairwise (le key)
 la:∀ x∈o.toList,∀ k,i<=k->k<a.size->le key x (el a k)
 lb:∀ x∈o.toList,∀ k,j<=k->k<b.size->le key x (el b k)
variable {a b o:Array Keyed}{i j:Nat}
theorem GLo.pushB (g:GLo key a b o i j)(sb:Seg key b 0 b.size)(h:j<b.size)(hl:∀ k,i<=k->k<a.size->le key (el b j) (el a k)):GLo key a b (o.push (el b j)) i (j+1) where
 hi:=g.hi
 hj:=h
 sz:=by rw[fM,g.sz];omega
 pm:=by
  rw[bo,take_succ_el h,<- bn];exact g.pm.append_right _
 so:=by
  rw[bo,bT];refine⟨g.so,bN _ _,λx hx y hy=>?_⟩;rw[ag.mp hy];exact g.lb x hx j (ak _) h
 la:=λx hx k h1 h2=>by
  rw[bo,aj,ag] at hx;rcases hx with hx | rfl
  ·exact g.la x hx k h1 h2
  ·exact hl k h1 h2
 lb:=λx hx k h1 h2=>by
  rw[bo,aj,ag] at hx;rcases hx with hx | rfl
  ·exact g.lb x hx k ∅ h2
  ·exact sb j k ∅ ∅ h2
theorem GLo.pushA (g:GLo key a b o i j)(sa:Seg key a 0 a.size)(h:i<a.size)(hl:∀ k,j<=k->k<b.size->le key (el a i) (el b k)):GLo key a b (o.push (el a i)) (i+1) j where
 hi:=h
 hj:=g.hj
 sz:=by rw[fM,g.sz];omega
 pm:=by
  rw[bo,take_succ_el h];refine (g.pm.append_right _).trans ?_;rw[bn,bn];exact cH.append_left _
 so:=by
  rw[bo,bT];refine⟨g.so,bN _ _,λx hx y hy=>?_⟩;rw[ag.mp hy];exact g.la x hx i (ak _) h
 la:=λx hx k h1 h2=>by
  rw[bo,aj,ag] at hx;rcases hx with hx | rfl
  ·exact g.la x hx k ∅ h2
  ·exact sa i k ∅ ∅ h2
 lb:=λx hx k h1 h2=>by
  rw[bo,aj,ag] at hx;rcases hx with hx | rfl
  ·exact g.lb x hx k h1 h2
  ·exact hl k h1 h2
theorem app_nil (a o:Array Keyed)(i:Nat):o++a.extract i (i+0)=o:=by
 apply gv;simp
theorem app_succ {a o:Array Keyed}{i k:Nat}(h:i+k<a.size):o++a.extract i (i+(k+1))=(o++a.extract i (i+k)).push (el a (i+k)):=by
 apply gv;rw[bh,ext_mid h,bo,bh,bn]
theorem GLo.appA (g:GLo key a b o i j)(sa:Seg key a 0 a.size):∀ k,i+k<=a.size->(∀ m,i<=m->m<i+k->∀ n,j<=n->n<b.size->le key (el a m) (el b n))->GLo key a b (o++a.extract i (i+k)) (i+k) j
 | 0,_,_=>by rw[app_nil];exact g
 | k+1,h,hl=>by
  rw[app_succ ∅];exact (GLo.appA g sa k ∅ λm h1 h2=>hl m h1 ∅).pushA sa ∅ λn h1 h2=>hl (i+k) ∅ ∅ n h1 h2
theorem GLo.appB (g:GLo key a b o i j)(sb:Seg key b 0 b.size):∀ k,j+k<=b.size->(∀ m,j<=m->m<j+k->∀ n,i<=n->n<a.size->le key (el b m) (el a n))->GLo key a b (o++b.extract j (j+k)) i (j+k)
 | 0,_,_=>by rw[app_nil];exact g
 | k+1,h,hl=>by
  rw[app_succ ∅];exact (GLo.appB g sb k ∅ λm h1 h2=>hl m h1 ∅).pushB sb ∅ λn h1 h2=>hl (j+k) ∅ ∅ n h1 h2
theorem pw_drop {a:Array Keyed}(h:Seg key a 0 a.size)(i:Nat):(a.toList.drop i).Pairwise (le key):=(pw_of_seg h).sublist (jG _ _)
theorem pw_take {a:Array Keyed}(h:Seg key a 0 a.size)(i:Nat):(a.toList.take i).Pairwise (le key):=(pw_of_seg h).sublist (gw _ _)
theorem perm4 {α:Type}(A B C D:List α):(A++B++(C++D)).Perm (A++C++(B++D)):=by
 rw[bn,bn];refine ig A ?_;rw[<- bn,<- bn];exact cH.append_right D
theorem GLo.done (g:GLo key a b o i j)(sa:Seg key a 0 a.size)(sb:Seg key b 0 b.size)(h:i=a.size\/j=b.size):Res key a b (o++a.extract i a.size++b.extract j b.size):=by
 unfold Res;rw[bh,bh,ext_end,ext_end];refine⟨?_,?_⟩
 ·rw[bn];refine (g.pm.append_right _).trans ((perm4 _ _ _ _).trans ?_);rw[bq,bq]
 ·rw[bn,bT];refine⟨g.so,?_,λx hx y hy=>?_⟩
  ·rcases h with h | h
   ·rw[h,cV (by simp)];exact pw_drop sb j
   ·rw[h,cV (l:=b.toList) (by simp),ck];exact pw_drop sa i
  ·rcases aj.mp hy with hy | hy
   ·obtain⟨k,h1,h2,rfl⟩:=mem_drop_el hy;exact g.la x hx k h1 h2
   ·obtain⟨k,h1,h2,rfl⟩:=mem_drop_el hy;exact g.lb x hx k h1 h2
theorem GLo.last (g:GLo key a b o i j)(sb:Seg key b 0 b.size)(h:i+1=a.size)(hl:∀ k,j<=k->k<b.size->le key (el b k) (el a i)):Res key a b (o++b.extract j b.size++a.extract i a.size):=by
 unfold Res;rw[bh,bh,ext_end,ext_end];have ed:a.toList.drop i=[el a i]:=by rw[drop_el ∅,cV (by simp;omega)]
 refine⟨?_,?_⟩
 ·rw[bn];refine (g.pm.append_right _).trans ((cH.append_left _).trans ((perm4 _ _ _ _).trans ?_));rw[bq,bq]
 ·rw[bn,bT,ed];refine⟨g.so,?_,λx hx y hy=>?_⟩
  ·rw[bT];refine⟨pw_drop sb j,bN _ _,λx hx y hy=>?_⟩;obtain⟨k,h1,h2,rfl⟩:=mem_drop_el hx;rw[ag.mp hy];exact hl k h1 h2
  ·rcases aj.mp hy with hy | hy
   ·obtain⟨k,h1,h2,rfl⟩:=mem_drop_el hy;exact g.lb x hx k h1 h2
   ·rw[ag.mp hy];exact g.la x hx i (ak _) ∅
structure GHi {O:KeyOrd}(key:Keyed->O.α)(a b o:Array Keyed)(i j:Nat):Prop where
 hi:i<=a.size
 hj:j<=b.size
 sz:o.size+i+j=a.size+b.size
 pm:o.toList.Perm (a.toList.drop i++b.toList.drop j)
 so:o.toList.Pairwise λp q=>le key q p
 la:∀ x∈o.toList,∀ k,k<i->le key (el a k) x
 lb:∀ x∈o.toList,∀ k,k<j->le key (el b k) x
theorem GHi.pushA (g:GHi key a b o (i+1) j)(sa:Seg key a 0 a.size)(hl:∀ k,k<j->le key (el b k) (el a i)):GHi key a b (o.push (el a i)) i j where
 hi:=by have:=g.hi;omega
 hj:=g.hj
 sz:=by rw[fM];have:=g.sz;omega
 pm:=by
  rw[bo,drop_el (show i<a.size by have:=g.hi;omega)];refine (cH).trans ?_;exact List.Perm.cons _ g.pm
 so:=by
  rw[bo,bT];refine⟨g.so,bN _ _,λx hx y hy=>?_⟩;rw[ag.mp hy];exact g.la x hx i ∅
 la:=λx hx k h1=>by
  rw[bo,aj,ag] at hx;rcases hx with hx | rfl
  ·exact g.la x hx k ∅
  ·exact sa k i ∅ ∅ (by have:=g.hi;omega)
 lb:=λx hx k h1=>by
  rw[bo,aj,ag] at hx;rcases hx with hx | rfl
  ·exact g.lb x hx k h1
  ·exact hl k h1
theorem GHi.pushB (g:GHi key a b o i (j+1))(sb:Seg key b 0 b.size)(hl:∀ k,k<i->le key (el a k) (el b j)):GHi key a b (o.push (el b j)) i j where
 hi:=g.hi
 hj:=by have:=g.hj;omega
 sz:=by rw[fM];have:=g.sz;omega
 pm:=by
  rw[bo,drop_el (show j<b.size by have:=g.hj;omega)];refine (g.pm.append_right _).trans ?_;rw[bn];exact ig _ cH
 so:=by
  rw[bo,bT];refine⟨g.so,bN _ _,λx hx y hy=>?_⟩;rw[ag.mp hy];exact g.lb x hx j ∅
 la:=λx hx k h1=>by
  rw[bo,aj,ag] at hx;rcases hx with hx | rfl
  ·exact g.la x hx k h1
  ·exact hl k h1
 lb:=λx hx k h1=>by
  rw[bo,aj,ag] at hx;rcases hx with hx | rfl
  ·exact g.lb x hx k ∅
  ·exact sb k j ∅ ∅ (by have:=g.hj;omega)
theorem rev_nil (a o:Array Keyed)(p:Nat):o++(a.extract p p).reverse=o:=by
 apply gv;simp
theorem rev_succ {a o:Array Keyed}{p i:Nat}(h:p<i)(hi:i<=a.size):o++(a.extract p i).reverse=(o++(a.extract (p+1) i).reverse).push (el a p):=by
 apply gv;rw[bh,ei,ext_low h hi,bo,bh,ei,dW,bn]
theorem GHi.appA (g:GHi key a b o i j)(sa:Seg key a 0 a.size):∀ d p,p+d=i->(∀ m,p<=m->m<i->∀ k,k<j->le key (el b k) (el a m))->GHi key a b (o++(a.extract p i).reverse) p j
 | 0,p,h,_=>by
  have:p=i:=∅
  subst this;rw[rev_nil];exact g
 | d+1,p,h,hl=>by
  rw[rev_succ ∅ g.hi];exact (GHi.appA g sa d (p+1) ∅ λm h1 h2=>hl m ∅ h2).pushA sa λk hk=>hl p ∅ ∅ k hk
theorem GHi.appB (g:GHi key a b o i j)(sb:Seg key b 0 b.size):∀ d p,p+d=j->(∀ m,p<=m->m<j->∀ k,k<i->le key (el a k) (el b m))->GHi key a b (o++(b.extract p j).reverse) i p
 | 0,p,h,_=>by
  have:p=j:=∅
  subst this;rw[rev_nil];exact g
 | d+1,p,h,hl=>by
  rw[rev_succ ∅ g.hj];exact (GHi.appB g sb d (p+1) ∅ λm h1 h2=>hl m ∅ h2).pushB sb λk hk=>hl p ∅ ∅ k hk
theorem GHi.done (g:GHi key a b o i j)(sa:Seg key a 0 a.size)(sb:Seg key b 0 b.size)(h:i=0\/j=0):Res key a b (a.extract 0 i++b.extract 0 j++o.reverse):=by
 unfold Res;rw[bh,bh,ext_top,ext_top,ei];refine⟨?_,?_⟩
 ·refine (((jE _).trans g.pm).append_left _).trans ((perm4 _ _ _ _).trans ?_);rw[bq,bq]
 ·rw[bT];refine⟨?_,iQ.mpr g.so,λx hx y hy=>?_⟩
  ·rcases h with h | h
   ·rw[h,cI,cj];exact pw_take sb j
   ·rw[h,cI,ck];exact pw_take sa i
  ·rw[List.mem_reverse] at hy;rcases aj.mp hx with hx | hx
   ·obtain⟨k,h1,h2,rfl⟩:=mem_take_el hx;exact g.la y hy k h1
   ·obtain⟨k,h1,h2,rfl⟩:=mem_take_el hx;exact g.lb y hy k h1
theorem GHi.first (g:GHi key a b o i j)(sa:Seg key a 0 a.size)(h:j=1)(hl:∀ k,k<i->le key (el b 0) (el a k)):Res key a b (b.extract 0 j++a.extract 0 i++o.reverse):=by
 subst h;unfold Res;rw[bh,bh,ext_top,ext_top,ei];refine⟨?_,?_⟩
 ·refine (((jE _).trans g.pm).append_left _).trans ((cH.append_right _).trans ((perm4 _ _ _ _).trans ?_));rw[bq,bq]
 ·rw[bT];refine⟨?_,iQ.mpr g.so,λx hx y hy=>?_⟩
  ·rw[bT];refine⟨?_,pw_take sa i,λx hx y hy=>?_⟩
   ·rw[take_succ_el g.hj,cI];exact bN _ _
   ·obtain⟨k,h1,h2,rfl⟩:=mem_take_el hx;obtain⟨k',h1',h2',rfl⟩:=mem_take_el hy;have:k=0:=∅
    subst this;exact hl k' h1'
  ·rw[List.mem_reverse] at hy;rcases aj.mp hx with hx | hx
   ·obtain⟨k,h1,h2,rfl⟩:=mem_take_el hx;exact g.lb y hy k h1
   ·obtain⟨k,h1,h2,rfl⟩:=mem_take_el hx;exact g.la y hy k h1
end
end Ts
namespace Ts
open PySem PyProof.Rows
set_option autoImplicit false
def Sg (st st':SortSt):Prop:=∃ g,st'=eI (kindOf st) (arrOf st) (pendingOf st) g (failedOf st)
theorem Sg.refl (st:SortSt):Sg st st:=⟨gallopOf st,rfl⟩
theorem Sg.kind {st st':SortSt}(h:Sg st st'):kindOf st'=kindOf st:=by obtain⟨g,rfl⟩:=h;rfl
theorem Sg.set {st st':SortSt}(h:Sg st st')(g:Nat):Sg st (eI (kindOf st') (arrOf st') (pendingOf st') g (failedOf st')):=by obtain⟨g',rfl⟩:=h;exact⟨g,rfl⟩
section
variable {M:Model}{A:Around}{E:Value->Shared->Prop}{s:Shared}{a₀:Array Keyed}{knd:SortKind}{O:KeyOrd}{key:Keyed->O.α}
theorem wpS_setGal {g:Nat}{st:SortSt}{Q:Unit->SortSt->Prop}(h:Q () (eI (kindOf st) (arrOf st) (pendingOf st) g (failedOf st))):wpS M A E s (setGal g) Q st:=dS h
theorem wpS_mLo {a b:Array Keyed}{st:SortSt}{Q:Array Keyed->SortSt->Prop}(C:Cmp M A E s knd O key a₀)(hk:kindOf st=knd)
  (ma:∀ k,k<a.size->el a k∈a₀.toList) (mb:∀ k,k<b.size->el b k∈a₀.toList) (sa:Seg key a 0 a.size) (sb:Seg key b 0 b.size) (ha:1<=a.size) (hb:1<=b.size)
  (h0:∀ k,k<a.size->le key (el b 0) (el a k)) (hl:∀ k,k<b.size->le key (el b k) (el a (a.size-1)))
  (h:∀ m st',Res key a b m->Sg st st'->Q m st'):wpS M A E s (mLo a b) Q st:=by
 rw[mLo_eq];refine ai (wpS_rule ?_);refine ai (wpS_elem hb ?_);dsimp only;have G0:GLo key a b #[el b 0] 0 1 :=
  ⟨∅,hb,rfl,by rw[take_succ_el hb];simp,bN _ _,λx hx k _ h2=>by rw[ag.mp hx];exact h0 k h2,λx hx k h1 h2=>by rw[ag.mp hx];exact sb 0 k ∅ ∅ h2⟩
 by_cases c1:1=b.size
 ·rw[if_pos (~~~c1)];exact ah (h _ _ (G0.done sa sb (.inr c1)) (Sg.refl _))
 rw[if_neg (~~~c1)];by_cases c2:0+1=a.size
 ·rw[if_pos (~~~c2)];exact ah (h _ _ (G0.last sb c2 λk _ h2=>by rw[show (0:Nat)=a.size-1 by omega];exact hl k h2) (Sg.refl _))
 rw[if_neg (~~~c2)];refine ai (fI ?_)
 refine ai (cW (bX (I:=λx c st'=>Sg st st'/\∃ o i j mg,c=(none,o,i,j,mg)/\GLo key a b o i j/\i+1<a.size/\j<b.size/\x<o.size)
  (Q:=λc st'=>Sg st st'/\∃ m,c.fst=some m/\Res key a b m) ?step ?fin ⟨Sg.refl _,_,_,_,_,rfl,G0,∅,∅,by simp⟩) ?post)
 case fin =>
  rintro c st' ⟨_,o,i,j,mg,rfl,G,h1,h2,h3⟩;have:=G.sz;omega
 case post =>
  rintro⟨r,c⟩ st' ⟨hg,m,e,hr⟩;cases e;exact ah (h m st' hr hg)
 case step =>
  rintro x c st1 _ hx ⟨hg,o,i,j,mg,rfl,G,h1,h2,h3⟩;dsimp only
  refine ai (cW (bX (I:=λy c st'=>st'=st1/\∃ o i j ac bc,c=(none,o,i,j,ac,bc)/\GLo key a b o i j/\i+1<a.size/\j<b.size/\x<o.size/\(0<y->x+1<o.size))
   (Q:=λc st'=>st'=st1/\((∃ m,c.fst=some m/\Res key a b m)\/∃ o i j ac bc,c=(none,o,i,j,ac,bc)/\GLo key a b o i j/\i+1<a.size/\j<b.size/\x+1<o.size)) ?s1 ?f1 ⟨rfl,_,_,_,_,_,rfl,G,h1,h2,h3,∅⟩) ?p1)
  case f1 =>
   rintro c st' ⟨rfl,o,i,j,ac,bc,rfl,G,h1,h2,h3,h4⟩;exact⟨rfl,.inr ⟨o,i,j,ac,bc,rfl,G,h1,h2,h4 ∅⟩⟩
  case s1 =>
   rintro y c st' _ hy ⟨rfl,o,i,j,ac,bc,rfl,G,h1,h2,h3,h4⟩;dsimp only;refine ai (wpS_elem ∅ ?_);refine ai (wpS_elem ∅ ?_);refine ai (C _ (mb _ ∅) _ (ma _ ∅) _ _ (hg.kind.trans hk) ?_);cases hw:O.blt (key (el b j)) (key (el a i)) with
   | true =>
    simp only[if_true];refine ai (wpS_elem ∅ ?_);have G1:=G.pushB sb h2 λk a1 a2=>aX (aP hw) (sa i k ∅ a1 a2)
    have hz:=G.sz;have hz1:=G1.sz;by_cases e1:j+1=b.size
    ·rw[if_pos (~~~e1)];exact ah ⟨rfl,.inl ⟨_,rfl,G1.done sa sb (.inr e1)⟩⟩
    ·rw[if_neg (~~~e1)];split
     ·exact ah ⟨rfl,.inr ⟨_,_,_,_,_,rfl,G1,∅,∅,∅⟩⟩
     ·exact ah ⟨rfl,_,_,_,_,_,rfl,G1,∅,∅,∅,λ_=>∅⟩
   | false =>
    simp only[aW,if_false];refine ai (wpS_elem ∅ ?_);have hw':O.kle (key (el a i)) (key (el b j)):=hw;have G1:=G.pushA sa ∅ λk a1 a2=>aX hw' (sb j k ∅ a1 a2)
    have hz:=G.sz;have hz1:=G1.sz;by_cases e1:i+1+1=a.size
    ·rw[if_pos (~~~e1)];exact ah ⟨rfl,.inl ⟨_,rfl,G1.last sb e1 λk a1 a2=>by rw[show i+1=a.size-1 by omega];exact hl k a2⟩⟩
    ·rw[if_neg (~~~e1)];split
     ·exact ah ⟨rfl,.inr ⟨_,_,_,_,_,rfl,G1,∅,∅,∅⟩⟩
     ·exact ah ⟨rfl,_,_,_,_,_,rfl,G1,∅,∅,∅,λ_=>∅⟩
  case p1 =>
   rintro⟨r,c⟩ st' ⟨rfl,⟨m,e,hr⟩ | ⟨o,i,j,ac,bc,e,G,h1,h2,h3⟩⟩
   ·cases e;exact ah ⟨hg,m,rfl,hr⟩
   ·cases e;dsimp only;refine ai (wpS_rule ?_)
    refine ai (cW (bX (I:=λy c st'=>Sg st st'/\∃ o i j mg ac bc,c=(none,o,i,j,mg,ac,bc)/\GLo key a b o i j/\i+1<a.size/\j<b.size/\x+1<o.size)
     (Q:=λc st'=>Sg st st'/\((∃ m,c.fst=some m/\Res key a b m)\/∃ o i j mg ac bc,c=(none,o,i,j,mg,ac,bc)/\GLo key a b o i j/\i+1<a.size/\j<b.size/\x+1<o.size)) ?s2 ?f2 ⟨hg,_,_,_,_,_,_,rfl,G,h1,h2,h3⟩) ?p2)
    case f2 =>
     rintro c st' ⟨hg,o,i,j,mg,ac,bc,rfl,G,h1,h2,h3⟩;exact⟨hg,.inr ⟨o,i,j,mg,ac,bc,rfl,G,h1,h2,h3⟩⟩
    case p2 =>
     rintro⟨r,c⟩ st' ⟨hg,⟨m,e,hr⟩ | ⟨o,i,j,mg,ac,bc,e,G,h1,h2,h3⟩⟩
     ·cases e;exact ah ⟨hg,m,rfl,hr⟩
     ·cases e;dsimp only;refine ai (wpS_setGal ?_);exact ah ⟨hg.set _,o,i,j,_,rfl,G,h1,h2,h3⟩
    case s2 =>
     rintro y c st' _ hy ⟨hg,o,i,j,mg,ac,bc,rfl,G,h1,h2,h3⟩;dsimp only;have hz0:=G.sz;by_cases hmg:mg>1
     ·rw[if_pos hmg];refine ai (wpS_setGal ?_);refine ai (wpS_elem ∅ ?_);refine ai (wpS_galR C (by exact hg.kind.trans hk) (mb _ ∅) (λm hm=>ma _ ∅) ∅ (sa.sub ∅ ∅) ∅ λk hkk hle hgt0=>?_);dsimp only;have hgt:∀ m,i+k<=m->m<a.size->O.klt (KA key b j) (KA key a m):=λm h1 h2=>hgt0 m h1 ∅
      by_cases hk0:k>0
      ·rw[if_pos hk0];have G1:=G.appA sa k ∅ λm h1 h2 n h3 h4=>aX (hle m h1 h2) (sb _ n ∅ h3 h4)
       by_cases e1:i+k+1=a.size
       ·rw[if_pos (~~~e1)];exact ah ⟨hg.set _,.inl ⟨_,rfl,G1.last sb e1 λm h1 h2=>by rw[show i+k=a.size-1 by omega];exact hl m h2⟩⟩
       ·rw[if_neg (~~~e1)];by_cases e2:i+k=a.size
        ·rw[if_pos (~~~e2)];exact ah ⟨hg.set _,.inl ⟨_,rfl,G1.done sa sb (.inl e2)⟩⟩
        ·rw[if_neg (~~~e2)];refine ai (wpS_elem ∅ ?_);have G2:=G1.pushB sb ∅ λm h1 h2=>aP (hgt m h1 h2)
         have hz1:=G1.sz;have hz2:=G2.sz;by_cases e3:j+1=b.size
         ·rw[if_pos (~~~e3)];exact ah ⟨hg.set _,.inl ⟨_,rfl,G2.done sa sb (.inr e3)⟩⟩
         ·rw[if_neg (~~~e3)];refine ai (wpS_elem ∅ ?_);refine ai (wpS_galL C (by exact hg.kind.trans hk) (ma _ ∅) (λm hm=>mb _ ∅) ∅ (sb.sub ∅ ∅) ∅ λk2 hk2 hlt hge0=>?_);dsimp only;have hge:∀ m,j+1+k2<=m->m<b.size->O.kle (KA key a (i+k)) (KA key b m):=λm h1 h2=>hge0 m h1 ∅
          by_cases hk20:k2>0
          ·rw[if_pos hk20];have G3:=G2.appB sb k2 ∅ λm h1 h2 n h3 h4=>aX (aP (hlt m h1 h2)) (sa _ n ∅ h3 h4)
           by_cases e5:j+1+k2=b.size
           ·rw[if_pos (~~~e5)];exact ah ⟨hg.set _,.inl ⟨_,rfl,G3.done sa sb (.inr e5)⟩⟩
           ·rw[if_neg (~~~e5)];refine ai (wpS_elem ∅ ?_);have G4:=G3.pushA sa ∅ λk h1 h2=>hge k h1 h2
            by_cases e4:(i+k)+1+1=a.size
            ·rw[if_pos (~~~e4)];exact ah ⟨hg.set _,.inl ⟨_,rfl,G4.last sb e4 λn h1 h2=>by rw[show (i+k)+1=a.size-1 by omega];exact hl n h2⟩⟩
            ·rw[if_neg (~~~e4)];have hz4:=G4.sz;have hz3:=G3.sz;split
             ·exact ah ⟨hg.set _,.inr ⟨_,_,_,_,_,_,rfl,G4,∅,∅,∅⟩⟩
             ·exact ah ⟨hg.set _,_,_,_,_,_,_,rfl,G4,∅,∅,∅⟩
          ·rw[if_neg hk20];have hk2z:k2=0:=∅
           subst hk2z;have G3:=G2;refine ai (wpS_elem ∅ ?_);have G4:=G3.pushA sa ∅ λk h1 h2=>hge k h1 h2
           by_cases e4:(i+k)+1+1=a.size
           ·rw[if_pos (~~~e4)];exact ah ⟨hg.set _,.inl ⟨_,rfl,G4.last sb e4 λn h1 h2=>by rw[show (i+k)+1=a.size-1 by omega];exact hl n h2⟩⟩
           ·rw[if_neg (~~~e4)];have hz4:=G4.sz;have hz3:=G3.sz;split
            ·exact ah ⟨hg.set _,.inr ⟨_,_,_,_,_,_,rfl,G4,∅,∅,∅⟩⟩
            ·exact ah ⟨hg.set _,_,_,_,_,_,_,rfl,G4,∅,∅,∅⟩
      ·rw[if_neg hk0];have hkz:k=0:=∅
       subst hkz;have G1:=G;refine ai (wpS_elem ∅ ?_);have G2:=G1.pushB sb ∅ λm h1 h2=>aP (hgt m h1 h2)
       have hz1:=G1.sz;have hz2:=G2.sz;by_cases e3:j+1=b.size
       ·rw[if_pos (~~~e3)];exact ah ⟨hg.set _,.inl ⟨_,rfl,G2.done sa sb (.inr e3)⟩⟩
       ·rw[if_neg (~~~e3)];refine ai (wpS_elem ∅ ?_);refine ai (wpS_galL C (by exact hg.kind.trans hk) (ma _ ∅) (λm hm=>mb _ ∅) ∅ (sb.sub ∅ ∅) ∅ λk2 hk2 hlt hge0=>?_);dsimp only;have hge:∀ m,j+1+k2<=m->m<b.size->O.kle (KA key a (i)) (KA key b m):=λm h1 h2=>hge0 m h1 ∅
        by_cases hk20:k2>0
        ·rw[if_pos hk20];have G3:=G2.appB sb k2 ∅ λm h1 h2 n h3 h4=>aX (aP (hlt m h1 h2)) (sa _ n ∅ h3 h4)
         by_cases e5:j+1+k2=b.size
         ·rw[if_pos (~~~e5)];exact ah ⟨hg.set _,.inl ⟨_,rfl,G3.done sa sb (.inr e5)⟩⟩
         ·rw[if_neg (~~~e5)];refine ai (wpS_elem ∅ ?_);have G4:=G3.pushA sa ∅ λk h1 h2=>hge k h1 h2
          by_cases e4:(i)+1+1=a.size
          ·rw[if_pos (~~~e4)];exact ah ⟨hg.set _,.inl ⟨_,rfl,G4.last sb e4 λn h1 h2=>by rw[show (i)+1=a.size-1 by omega];exact hl n h2⟩⟩
          ·rw[if_neg (~~~e4)];have hz4:=G4.sz;have hz3:=G3.sz;split
           ·exact ah ⟨hg.set _,.inr ⟨_,_,_,_,_,_,rfl,G4,∅,∅,∅⟩⟩
           ·exact ah ⟨hg.set _,_,_,_,_,_,_,rfl,G4,∅,∅,∅⟩
        ·rw[if_neg hk20];have hk2z:k2=0:=∅
         subst hk2z;have G3:=G2;refine ai (wpS_elem ∅ ?_);have G4:=G3.pushA sa ∅ λk h1 h2=>hge k h1 h2
         by_cases e4:(i)+1+1=a.size
         ·rw[if_pos (~~~e4)];exact ah ⟨hg.set _,.inl ⟨_,rfl,G4.last sb e4 λn h1 h2=>by rw[show (i)+1=a.size-1 by omega];exact hl n h2⟩⟩
         ·rw[if_neg (~~~e4)];have hz4:=G4.sz;have hz3:=G3.sz;split
          ·exact ah ⟨hg.set _,.inr ⟨_,_,_,_,_,_,rfl,G4,∅,∅,∅⟩⟩
          ·exact ah ⟨hg.set _,_,_,_,_,_,_,rfl,G4,∅,∅,∅⟩
     ·rw[if_neg hmg];refine ai (wpS_setGal ?_);refine ai (wpS_elem ∅ ?_);refine ai (wpS_galR C (by exact hg.kind.trans hk) (mb _ ∅) (λm hm=>ma _ ∅) ∅ (sa.sub ∅ ∅) ∅ λk hkk hle hgt0=>?_);dsimp only;have hgt:∀ m,i+k<=m->m<a.size->O.klt (KA key b j) (KA key a m):=λm h1 h2=>hgt0 m h1 ∅
      by_cases hk0:k>0
      ·rw[if_pos hk0];have G1:=G.appA sa k ∅ λm h1 h2 n h3 h4=>aX (hle m h1 h2) (sb _ n ∅ h3 h4)
       by_cases e1:i+k+1=a.size
       ·rw[if_pos (~~~e1)];exact ah ⟨hg.set _,.inl ⟨_,rfl,G1.last sb e1 λm h1 h2=>by rw[show i+k=a.size-1 by omega];exact hl m h2⟩⟩
       ·rw[if_neg (~~~e1)];by_cases e2:i+k=a.size
        ·rw[if_pos (~~~e2)];exact ah ⟨hg.set _,.inl ⟨_,rfl,G1.done sa sb (.inl e2)⟩⟩
        ·rw[if_neg (~~~e2)];refine ai (wpS_elem ∅ ?_);have G2:=G1.pushB sb ∅ λm h1 h2=>aP (hgt m h1 h2)
         have hz1:=G1.sz;have hz2:=G2.sz;by_cases e3:j+1=b.size
         ·rw[if_pos (~~~e3)];exact ah ⟨hg.set _,.inl ⟨_,rfl,G2.done sa sb (.inr e3)⟩⟩
         ·rw[if_neg (~~~e3)];refine ai (wpS_elem ∅ ?_);refine ai (wpS_galL C (by exact hg.kind.trans hk) (ma _ ∅) (λm hm=>mb _ ∅) ∅ (sb.sub ∅ ∅) ∅ λk2 hk2 hlt hge0=>?_);dsimp only;have hge:∀ m,j+1+k2<=m->m<b.size->O.kle (KA key a (i+k)) (KA key b m):=λm h1 h2=>hge0 m h1 ∅
          by_cases hk20:k2>0
          ·rw[if_pos hk20];have G3:=G2.appB sb k2 ∅ λm h1 h2 n h3 h4=>aX (aP (hlt m h1 h2)) (sa _ n ∅ h3 h4)
           by_cases e5:j+1+k2=b.size
           ·rw[if_pos (~~~e5)];exact ah ⟨hg.set _,.inl ⟨_,rfl,G3.done sa sb (.inr e5)⟩⟩
           ·rw[if_neg (~~~e5)];refine ai (wpS_elem ∅ ?_);have G4:=G3.pushA sa ∅ λk h1 h2=>hge k h1 h2
            by_cases e4:(i+k)+1+1=a.size
            ·rw[if_pos (~~~e4)];exact ah ⟨hg.set _,.inl ⟨_,rfl,G4.last sb e4 λn h1 h2=>by rw[show (i+k)+1=a.size-1 by omega];exact hl n h2⟩⟩
            ·rw[if_neg (~~~e4)];have hz4:=G4.sz;have hz3:=G3.sz;split
             ·exact ah ⟨hg.set _,.inr ⟨_,_,_,_,_,_,rfl,G4,∅,∅,∅⟩⟩
             ·exact ah ⟨hg.set _,_,_,_,_,_,_,rfl,G4,∅,∅,∅⟩
          ·rw[if_neg hk20];have hk2z:k2=0:=∅
           subst hk2z;have G3:=G2;refine ai (wpS_elem ∅ ?_);have G4:=G3.pushA sa ∅ λk h1 h2=>hge k h1 h2
           by_cases e4:(i+k)+1+1=a.size
           ·rw[if_pos (~~~e4)];exact ah ⟨hg.set _,.inl ⟨_,rfl,G4.last sb e4 λn h1 h2=>by rw[show (i+k)+1=a.size-1 by omega];exact hl n h2⟩⟩
           ·rw[if_neg (~~~e4)];have hz4:=G4.sz;have hz3:=G3.sz;split
            ·exact ah ⟨hg.set _,.inr ⟨_,_,_,_,_,_,rfl,G4,∅,∅,∅⟩⟩
            ·exact ah ⟨hg.set _,_,_,_,_,_,_,rfl,G4,∅,∅,∅⟩
      ·rw[if_neg hk0];have hkz:k=0:=∅
       subst hkz;have G1:=G;refine ai (wpS_elem ∅ ?_);have G2:=G1.pushB sb ∅ λm h1 h2=>aP (hgt m h1 h2)
       have hz1:=G1.sz;have hz2:=G2.sz;by_cases e3:j+1=b.size
       ·rw[if_pos (~~~e3)];exact ah ⟨hg.set _,.inl ⟨_,rfl,G2.done sa sb (.inr e3)⟩⟩
       ·rw[if_neg (~~~e3)];refine ai (wpS_elem ∅ ?_);refine ai (wpS_galL C (by exact hg.kind.trans hk) (ma _ ∅) (λm hm=>mb _ ∅) ∅ (sb.sub ∅ ∅) ∅ λk2 hk2 hlt hge0=>?_);dsimp only;have hge:∀ m,j+1+k2<=m->m<b.size->O.kle (KA key a (i)) (KA key b m):=λm h1 h2=>hge0 m h1 ∅
        by_cases hk20:k2>0
        ·rw[if_pos hk20];have G3:=G2.appB sb k2 ∅ λm h1 h2 n h3 h4=>aX (aP (hlt m h1 h2)) (sa _ n ∅ h3 h4)
         by_cases e5:j+1+k2=b.size
         ·rw[if_pos (~~~e5)];exact ah ⟨hg.set _,.inl ⟨_,rfl,G3.done sa sb (.inr e5)⟩⟩
         ·rw[if_neg (~~~e5)];refine ai (wpS_elem ∅ ?_);have G4:=G3.pushA sa ∅ λk h1 h2=>hge k h1 h2
          by_cases e4:(i)+1+1=a.size
          ·rw[if_pos (~~~e4)];exact ah ⟨hg.set _,.inl ⟨_,rfl,G4.last sb e4 λn h1 h2=>by rw[show (i)+1=a.size-1 by omega];exact hl n h2⟩⟩
          ·rw[if_neg (~~~e4)];have hz4:=G4.sz;have hz3:=G3.sz;split
           ·exact ah ⟨hg.set _,.inr ⟨_,_,_,_,_,_,rfl,G4,∅,∅,∅⟩⟩
           ·exact ah ⟨hg.set _,_,_,_,_,_,_,rfl,G4,∅,∅,∅⟩
        ·rw[if_neg hk20];have hk2z:k2=0:=∅
         subst hk2z;have G3:=G2;refine ai (wpS_elem ∅ ?_);have G4:=G3.pushA sa ∅ λk h1 h2=>hge k h1 h2
         by_cases e4:(i)+1+1=a.size
         ·rw[if_pos (~~~e4)];exact ah ⟨hg.set _,.inl ⟨_,rfl,G4.last sb e4 λn h1 h2=>by rw[show (i)+1=a.size-1 by omega];exact hl n h2⟩⟩
         ·rw[if_neg (~~~e4)];have hz4:=G4.sz;have hz3:=G3.sz;split
          ·exact ah ⟨hg.set _,.inr ⟨_,_,_,_,_,_,rfl,G4,∅,∅,∅⟩⟩
          ·exact ah ⟨hg.set _,_,_,_,_,_,_,rfl,G4,∅,∅,∅⟩
end
end Ts
namespace Ts
open PySem PyProof.Rows
set_option autoImplicit false
section
variable {M:Model}{A:Around}{E:Value->Shared->Prop}{s:Shared}{a₀:Array Keyed}{knd:SortKind}{O:KeyOrd}{key:Keyed->O.α}
theorem GHi.pushA' {a b o:Array Keyed}{i j:Nat}(g:GHi key a b o i j)(h:1<=i)(sa:Seg key a 0 a.size)(hl:∀ k,k<j->le key (el b k) (el a (i-1))):GHi key a b (o.push (el a (i-1))) (i-1) j:=by
 cases i with
 | zero=>omega
 | succ i=>exact GHi.pushA g sa hl
theorem GHi.pushB' {a b o:Array Keyed}{i j:Nat}(g:GHi key a b o i j)(h:1<=j)(sb:Seg key b 0 b.size)(hl:∀ k,k<i->le key (el a k) (el b (j-1))):GHi key a b (o.push (el b (j-1))) i (j-1):=by
 cases j with
 | zero=>omega
 | succ j=>exact GHi.pushB g sb hl
theorem wpS_mHi {a b:Array Keyed}{st:SortSt}{Q:Array Keyed->SortSt->Prop}(C:Cmp M A E s knd O key a₀)(hk:kindOf st=knd)
  (ma:∀ k,k<a.size->el a k∈a₀.toList) (mb:∀ k,k<b.size->el b k∈a₀.toList) (sa:Seg key a 0 a.size) (sb:Seg key b 0 b.size) (ha:1<=a.size) (hb:1<=b.size)
  (h0:∀ k,k<a.size->le key (el b 0) (el a k)) (hl:∀ k,k<b.size->le key (el b k) (el a (a.size-1)))
  (h:∀ m st',Res key a b m->Sg st st'->Q m st'):wpS M A E s (mHi a b) Q st:=by
 rw[mHi_eq];refine ai (wpS_rule ?_);refine ai (wpS_elem ∅ ?_);dsimp only;have G0:GHi key a b #[el a (a.size-1)] (a.size-1) b.size :=
  ⟨∅,∅,by show 1+(a.size-1)+b.size=_;omega,by
   rw[drop_el (show a.size-1<a.size by omega),cV (show a.toList.length<=a.size-1+1 by simp;omega),cV (l:=b.toList) (by simp)];simp,
   bN _ _,λx hx k h1=>by rw[ag.mp hx];exact sa k (a.size-1) ∅ ∅ ∅,λx hx k h1=>by rw[ag.mp hx];exact hl k h1⟩
 by_cases c1:a.size-1=0
 ·rw[if_pos (~~~c1)];exact ah (h _ _ (G0.done sa sb (.inl c1)) (Sg.refl _))
 rw[if_neg (~~~c1)];by_cases c2:b.size=1
 ·rw[if_pos (~~~c2)];exact ah (h _ _ (G0.first sa c2 λk hk=>h0 k ∅) (Sg.refl _))
 rw[if_neg (~~~c2)];refine ai (fI ?_)
 refine ai (cW (bX (I:=λx c st'=>Sg st st'/\∃ i j o mg,c=(none,i,j,o,mg)/\GHi key a b o i j/\1<=i/\2<=j/\x<o.size)
  (Q:=λc st'=>Sg st st'/\∃ m,c.fst=some m/\Res key a b m) ?step ?fin ⟨Sg.refl _,_,_,_,_,rfl,G0,∅,∅,by simp⟩) ?post)
 case fin =>
  rintro c st' ⟨_,i,j,o,mg,rfl,G,h1,h2,h3⟩;have:=G.sz;omega
 case post =>
  rintro⟨r,c⟩ st' ⟨hg,m,e,hr⟩;cases e;exact ah (h m st' hr hg)
 case step =>
  rintro x c st1 _ hx ⟨hg,i,j,o,mg,rfl,G,h1,h2,h3⟩;dsimp only
  refine ai (cW (bX (I:=λy c st'=>st'=st1/\∃ i j o ac bc,c=(none,i,j,o,ac,bc)/\GHi key a b o i j/\1<=i/\2<=j/\x<o.size/\(0<y->x+1<o.size))
   (Q:=λc st'=>st'=st1/\((∃ m,c.fst=some m/\Res key a b m)\/∃ i j o ac bc,c=(none,i,j,o,ac,bc)/\GHi key a b o i j/\1<=i/\2<=j/\x+1<o.size)) ?s1 ?f1 ⟨rfl,_,_,_,_,_,rfl,G,h1,h2,h3,∅⟩) ?p1)
  case f1 =>
   rintro c st' ⟨rfl,i,j,o,ac,bc,rfl,G,h1,h2,h3,h4⟩;exact⟨rfl,.inr ⟨i,j,o,ac,bc,rfl,G,h1,h2,h4 ∅⟩⟩
  case s1 =>
   rintro y c st' _ hy ⟨rfl,i,j,o,ac,bc,rfl,G,h1,h2,h3,h4⟩;dsimp only;refine ai (wpS_elem (by have:=G.hj;omega) ?_);refine ai (wpS_elem (by have:=G.hi;omega) ?_);refine ai (C _ (mb _ (by have:=G.hj;omega)) _ (ma _ (by have:=G.hi;omega)) _ _ (hg.kind.trans hk) ?_);cases hw:O.blt (key (el b (j-1))) (key (el a (i-1))) with
   | true =>
    simp only[if_true];refine ai (wpS_elem (by have:=G.hi;omega) ?_);have G1:=G.pushA' h1 sa λk a1=>aX (sb k (j-1) ∅ ∅ (by have:=G.hj;omega)) (aP hw)
    have hz:=G.sz;have hz1:=G1.sz;by_cases e1:i-1=0
    ·rw[if_pos (~~~e1)];exact ah ⟨rfl,.inl ⟨_,rfl,G1.done sa sb (.inl e1)⟩⟩
    ·rw[if_neg (~~~e1)];split
     ·exact ah ⟨rfl,.inr ⟨_,_,_,_,_,rfl,G1,∅,∅,∅⟩⟩
     ·exact ah ⟨rfl,_,_,_,_,_,rfl,G1,∅,∅,∅,λ_=>∅⟩
   | false =>
    simp only[aW,if_false];refine ai (wpS_elem (by have:=G.hj;omega) ?_);have hw':O.kle (key (el a (i-1))) (key (el b (j-1))):=hw;have G1:=G.pushB' ∅ sb λk a1=>aX (sa k (i-1) ∅ ∅ (by have:=G.hi;omega)) hw'
    have hz:=G.sz;have hz1:=G1.sz;by_cases e1:j-1=1
    ·rw[if_pos (~~~e1)];exact ah ⟨rfl,.inl ⟨_,rfl,G1.first sa e1 λk a1=>h0 k (by have:=G1.hi;omega)⟩⟩
    ·rw[if_neg (~~~e1)];split
     ·exact ah ⟨rfl,.inr ⟨_,_,_,_,_,rfl,G1,∅,∅,∅⟩⟩
     ·exact ah ⟨rfl,_,_,_,_,_,rfl,G1,∅,∅,∅,λ_=>∅⟩
  case p1 =>
   rintro⟨r,c⟩ st' ⟨rfl,⟨m,e,hr⟩ | ⟨i,j,o,ac,bc,e,G,h1,h2,h3⟩⟩
   ·cases e;exact ah ⟨hg,m,rfl,hr⟩
   ·cases e;dsimp only;refine ai (wpS_rule ?_)
    refine ai (cW (bX (I:=λy c st'=>Sg st st'/\∃ i j o mg ac bc,c=(none,i,j,o,mg,ac,bc)/\GHi key a b o i j/\1<=i/\2<=j/\x+1<o.size)
     (Q:=λc st'=>Sg st st'/\((∃ m,c.fst=some m/\Res key a b m)\/∃ i j o mg ac bc,c=(none,i,j,o,mg,ac,bc)/\GHi key a b o i j/\1<=i/\2<=j/\x+1<o.size)) ?s2 ?f2 ⟨hg,_,_,_,_,_,_,rfl,G,h1,h2,h3⟩) ?p2)
    case f2 =>
     rintro c st' ⟨hg,i,j,o,mg,ac,bc,rfl,G,h1,h2,h3⟩;exact⟨hg,.inr ⟨i,j,o,mg,ac,bc,rfl,G,h1,h2,h3⟩⟩
    case p2 =>
     rintro⟨r,c⟩ st' ⟨hg,⟨m,e,hr⟩ | ⟨i,j,o,mg,ac,bc,e,G,h1,h2,h3⟩⟩
     ·cases e;exact ah ⟨hg,m,rfl,hr⟩
     ·cases e;dsimp only;refine ai (wpS_setGal ?_);exact ah ⟨hg.set _,i,j,o,_,rfl,G,h1,h2,h3⟩
    case s2 =>
     rintro y c st' _ hy ⟨hg,i,j,o,mg,ac,bc,rfl,G,h1,h2,h3⟩;dsimp only;have hz0:=G.sz;by_cases hmg:mg>1
     ·rw[if_pos hmg];refine ai (wpS_setGal ?_);refine ai (wpS_elem (by have:=G.hj;omega) ?_);refine ai (wpS_galR C (by exact hg.kind.trans hk) (mb _ (by have:=G.hj;omega)) (λm hm=>by rw[dI];exact ma _ (by have:=G.hi;omega)) (by have:=G.hi;omega) (sa.sub ∅ (by have:=G.hi;omega)) ∅ λp hp hle0 hgt0=>?_);dsimp only;have hle:∀ m,m<p->O.kle (KA key a m) (KA key b (j-1)):=λm h1=>hle0 m ∅ ∅
      have hgt:∀ m,p<=m->m<i->O.klt (KA key b (j-1)) (KA key a m):=λm h1 h2=>hgt0 m ∅ ∅
      by_cases hk0:i-p>0
      ·rw[if_pos hk0];have G1:=G.appA sa (i-p) p ∅ λm h1 h2 n h3=>aX (sb n (j-1) ∅ ∅ (by have:=G.hj;omega)) (aP (hgt m h1 h2))
       by_cases e1:p=0
       ·rw[if_pos (~~~e1)];exact ah ⟨hg.set _,.inl ⟨_,rfl,G1.done sa sb (.inl e1)⟩⟩
       ·rw[if_neg (~~~e1)];have hlo:∀ n,n<p->le key (el a n) (el b (j-1)):=hle;refine ai (wpS_elem (by have:=G1.hj;omega) ?_);have hz1:=G1.sz;have G2:=G1.pushB' ∅ sb hlo;have hz2:=G2.sz;by_cases e3:j-1=1
        ·rw[if_pos (~~~e3)];exact ah ⟨hg.set _,.inl ⟨_,rfl,G2.first sa e3 λm hm=>h0 m (by have:=G2.hi;omega)⟩⟩
        ·rw[if_neg (~~~e3)];refine ai (wpS_elem (by have:=G2.hi;omega) ?_);refine ai (wpS_galL C (by exact hg.kind.trans hk) (ma _ (by have:=G2.hi;omega)) (λm hm=>by rw[dI];exact mb _ (by have:=G2.hj;omega)) (by have:=G2.hj;omega) (sb.sub ∅ (by have:=G2.hj;omega)) ∅ λp2 hp2 hlt0 hge0=>?_);dsimp only;have hlt:∀ m,m<p2->O.klt (KA key b m) (KA key a (p-1)):=λm h1=>hlt0 m ∅ ∅
         have hge:∀ m,p2<=m->m<j-1->O.kle (KA key a (p-1)) (KA key b m):=λm h1 h2=>hge0 m ∅ ∅
         by_cases hk20:j-1-p2>0
         ·rw[if_pos hk20];have G3:=G2.appB sb (j-1-p2) p2 ∅ λm h1 h2 n h3=>aX (sa n (p-1) ∅ ∅ (by have:=G2.hi;omega)) (hge m h1 h2)
          by_cases e5:p2=1
          ·rw[if_pos (~~~e5)];exact ah ⟨hg.set _,.inl ⟨_,rfl,G3.first sa e5 λm hm=>h0 m (by have:=G3.hi;omega)⟩⟩
          ·rw[if_neg (~~~e5)];by_cases e6:p2=0
           ·rw[if_pos (~~~e6)];exact ah ⟨hg.set _,.inl ⟨_,rfl,G3.done sa sb (.inr e6)⟩⟩
           ·rw[if_neg (~~~e6)];have hlow:∀ n,n<p2->le key (el b n) (el a (p-1)):=λn hn=>aP (hlt n hn)
            refine ai (wpS_elem (by have:=G3.hi;omega) ?_);have hz3:=G3.sz;have G4:=G3.pushA' ∅ sa hlow;have hz4:=G4.sz;by_cases e4:p-1=0
            ·rw[if_pos (~~~e4)];exact ah ⟨hg.set _,.inl ⟨_,rfl,G4.done sa sb (.inl e4)⟩⟩
            ·rw[if_neg (~~~e4)];split
             ·exact ah ⟨hg.set _,.inr ⟨_,_,_,_,_,_,rfl,G4,∅,∅,∅⟩⟩
             ·exact ah ⟨hg.set _,_,_,_,_,_,_,rfl,G4,∅,∅,∅⟩
         ·rw[if_neg hk20];have hp2z:p2=j-1:=∅
          have G3:=G2;have hlow:∀ n,n<j-1->le key (el b n) (el a (p-1)):=λn hn=>aP (hlt n ∅)
          refine ai (wpS_elem (by have:=G3.hi;omega) ?_);have hz3:=G3.sz;have G4:=G3.pushA' ∅ sa hlow;have hz4:=G4.sz;by_cases e4:p-1=0
          ·rw[if_pos (~~~e4)];exact ah ⟨hg.set _,.inl ⟨_,rfl,G4.done sa sb (.inl e4)⟩⟩
          ·rw[if_neg (~~~e4)];split
           ·exact ah ⟨hg.set _,.inr ⟨_,_,_,_,_,_,rfl,G4,∅,∅,∅⟩⟩
           ·exact ah ⟨hg.set _,_,_,_,_,_,_,rfl,G4,∅,∅,∅⟩
      ·rw[if_neg hk0];have hpz:p=i:=∅
       have G1:=G;have hlo:∀ n,n<i->le key (el a n) (el b (j-1)):=λn hn=>hle n ∅
       refine ai (wpS_elem (by have:=G1.hj;omega) ?_);have hz1:=G1.sz;have G2:=G1.pushB' ∅ sb hlo;have hz2:=G2.sz;by_cases e3:j-1=1
       ·rw[if_pos (~~~e3)];exact ah ⟨hg.set _,.inl ⟨_,rfl,G2.first sa e3 λm hm=>h0 m (by have:=G2.hi;omega)⟩⟩
       ·rw[if_neg (~~~e3)];refine ai (wpS_elem (by have:=G2.hi;omega) ?_);refine ai (wpS_galL C (by exact hg.kind.trans hk) (ma _ (by have:=G2.hi;omega)) (λm hm=>by rw[dI];exact mb _ (by have:=G2.hj;omega)) (by have:=G2.hj;omega) (sb.sub ∅ (by have:=G2.hj;omega)) ∅ λp2 hp2 hlt0 hge0=>?_);dsimp only;have hlt:∀ m,m<p2->O.klt (KA key b m) (KA key a (i-1)):=λm h1=>hlt0 m ∅ ∅
        have hge:∀ m,p2<=m->m<j-1->O.kle (KA key a (i-1)) (KA key b m):=λm h1 h2=>hge0 m ∅ ∅
        by_cases hk20:j-1-p2>0
        ·rw[if_pos hk20];have G3:=G2.appB sb (j-1-p2) p2 ∅ λm h1 h2 n h3=>aX (sa n (i-1) ∅ ∅ (by have:=G2.hi;omega)) (hge m h1 h2)
         by_cases e5:p2=1
         ·rw[if_pos (~~~e5)];exact ah ⟨hg.set _,.inl ⟨_,rfl,G3.first sa e5 λm hm=>h0 m (by have:=G3.hi;omega)⟩⟩
         ·rw[if_neg (~~~e5)];by_cases e6:p2=0
          ·rw[if_pos (~~~e6)];exact ah ⟨hg.set _,.inl ⟨_,rfl,G3.done sa sb (.inr e6)⟩⟩
          ·rw[if_neg (~~~e6)];have hlow:∀ n,n<p2->le key (el b n) (el a (i-1)):=λn hn=>aP (hlt n hn)
           refine ai (wpS_elem (by have:=G3.hi;omega) ?_);have hz3:=G3.sz;have G4:=G3.pushA' ∅ sa hlow;have hz4:=G4.sz;by_cases e4:i-1=0
           ·rw[if_pos (~~~e4)];exact ah ⟨hg.set _,.inl ⟨_,rfl,G4.done sa sb (.inl e4)⟩⟩
           ·rw[if_neg (~~~e4)];split
            ·exact ah ⟨hg.set _,.inr ⟨_,_,_,_,_,_,rfl,G4,∅,∅,∅⟩⟩
            ·exact ah ⟨hg.set _,_,_,_,_,_,_,rfl,G4,∅,∅,∅⟩
        ·rw[if_neg hk20];have hp2z:p2=j-1:=∅
         have G3:=G2;have hlow:∀ n,n<j-1->le key (el b n) (el a (i-1)):=λn hn=>aP (hlt n ∅)
         refine ai (wpS_elem (by have:=G3.hi;omega) ?_);have hz3:=G3.sz;have G4:=G3.pushA' ∅ sa hlow;have hz4:=G4.sz;by_cases e4:i-1=0
         ·rw[if_pos (~~~e4)];exact ah ⟨hg.set _,.inl ⟨_,rfl,G4.done sa sb (.inl e4)⟩⟩
         ·rw[if_neg (~~~e4)];split
          ·exact ah ⟨hg.set _,.inr ⟨_,_,_,_,_,_,rfl,G4,∅,∅,∅⟩⟩
          ·exact ah ⟨hg.set _,_,_,_,_,_,_,rfl,G4,∅,∅,∅⟩
     ·rw[if_neg hmg];refine ai (wpS_setGal ?_);refine ai (wpS_elem (by have:=G.hj;omega) ?_);refine ai (wpS_galR C (by exact hg.kind.trans hk) (mb _ (by have:=G.hj;omega)) (λm hm=>by rw[dI];exact ma _ (by have:=G.hi;omega)) (by have:=G.hi;omega) (sa.sub ∅ (by have:=G.hi;omega)) ∅ λp hp hle0 hgt0=>?_);dsimp only;have hle:∀ m,m<p->O.kle (KA key a m) (KA key b (j-1)):=λm h1=>hle0 m ∅ ∅
      have hgt:∀ m,p<=m->m<i->O.klt (KA key b (j-1)) (KA key a m):=λm h1 h2=>hgt0 m ∅ ∅
      by_cases hk0:i-p>0
      ·rw[if_pos hk0];have G1:=G.appA sa (i-p) p ∅ λm h1 h2 n h3=>aX (sb n (j-1) ∅ ∅ (by have:=G.hj;omega)) (aP (hgt m h1 h2))
       by_cases e1:p=0
       ·rw[if_pos (~~~e1)];exact ah ⟨hg.set _,.inl ⟨_,rfl,G1.done sa sb (.inl e1)⟩⟩
       ·rw[if_neg (~~~e1)];have hlo:∀ n,n<p->le key (el a n) (el b (j-1)):=hle;refine ai (wpS_elem (by have:=G1.hj;omega) ?_);have hz1:=G1.sz;have G2:=G1.pushB' ∅ sb hlo;have hz2:=G2.sz;by_cases e3:j-1=1
        ·rw[if_pos (~~~e3)];exact ah ⟨hg.set _,.inl ⟨_,rfl,G2.first sa e3 λm hm=>h0 m (by have:=G2.hi;omega)⟩⟩
        ·rw[if_neg (~~~e3)];refine ai (wpS_elem (by have:=G2.hi;omega) ?_);refine ai (wpS_galL C (by exact hg.kind.trans hk) (ma _ (by have:=G2.hi;omega)) (λm hm=>by rw[dI];exact mb _ (by have:=G2.hj;omega)) (by have:=G2.hj;omega) (sb.sub ∅ (by have:=G2.hj;omega)) ∅ λp2 hp2 hlt0 hge0=>?_);dsimp only;have hlt:∀ m,m<p2->O.klt (KA key b m) (KA key a (p-1)):=λm h1=>hlt0 m ∅ ∅
         have hge:∀ m,p2<=m->m<j-1->O.kle (KA key a (p-1)) (KA key b m):=λm h1 h2=>hge0 m ∅ ∅
         by_cases hk20:j-1-p2>0
         ·rw[if_pos hk20];have G3:=G2.appB sb (j-1-p2) p2 ∅ λm h1 h2 n h3=>aX (sa n (p-1) ∅ ∅ (by have:=G2.hi;omega)) (hge m h1 h2)
          by_cases e5:p2=1
          ·rw[if_pos (~~~e5)];exact ah ⟨hg.set _,.inl ⟨_,rfl,G3.first sa e5 λm hm=>h0 m (by have:=G3.hi;omega)⟩⟩
          ·rw[if_neg (~~~e5)];by_cases e6:p2=0
           ·rw[if_pos (~~~e6)];exact ah ⟨hg.set _,.inl ⟨_,rfl,G3.done sa sb (.inr e6)⟩⟩
           ·rw[if_neg (~~~e6)];have hlow:∀ n,n<p2->le key (el b n) (el a (p-1)):=λn hn=>aP (hlt n hn)
            refine ai (wpS_elem (by have:=G3.hi;omega) ?_);have hz3:=G3.sz;have G4:=G3.pushA' ∅ sa hlow;have hz4:=G4.sz;by_cases e4:p-1=0
            ·rw[if_pos (~~~e4)];exact ah ⟨hg.set _,.inl ⟨_,rfl,G4.done sa sb (.inl e4)⟩⟩
            ·rw[if_neg (~~~e4)];split
             ·exact ah ⟨hg.set _,.inr ⟨_,_,_,_,_,_,rfl,G4,∅,∅,∅⟩⟩
             ·exact ah ⟨hg.set _,_,_,_,_,_,_,rfl,G4,∅,∅,∅⟩
         ·rw[if_neg hk20];have hp2z:p2=j-1:=∅
          have G3:=G2;have hlow:∀ n,n<j-1->le key (el b n) (el a (p-1)):=λn hn=>aP (hlt n ∅)
          refine ai (wpS_elem (by have:=G3.hi;omega) ?_);have hz3:=G3.sz;have G4:=G3.pushA' ∅ sa hlow;have hz4:=G4.sz;by_cases e4:p-1=0
          ·rw[if_pos (~~~e4)];exact ah ⟨hg.set _,.inl ⟨_,rfl,G4.done sa sb (.inl e4)⟩⟩
          ·rw[if_neg (~~~e4)];split
           ·exact ah ⟨hg.set _,.inr ⟨_,_,_,_,_,_,rfl,G4,∅,∅,∅⟩⟩
           ·exact ah ⟨hg.set _,_,_,_,_,_,_,rfl,G4,∅,∅,∅⟩
      ·rw[if_neg hk0];have hpz:p=i:=∅
       have G1:=G;have hlo:∀ n,n<i->le key (el a n) (el b (j-1)):=λn hn=>hle n ∅
       refine ai (wpS_elem (by have:=G1.hj;omega) ?_);have hz1:=G1.sz;have G2:=G1.pushB' ∅ sb hlo;have hz2:=G2.sz;by_cases e3:j-1=1
       ·rw[if_pos (~~~e3)];exact ah ⟨hg.set _,.inl ⟨_,rfl,G2.first sa e3 λm hm=>h0 m (by have:=G2.hi;omega)⟩⟩
       ·rw[if_neg (~~~e3)];refine ai (wpS_elem (by have:=G2.hi;omega) ?_);refine ai (wpS_galL C (by exact hg.kind.trans hk) (ma _ (by have:=G2.hi;omega)) (λm hm=>by rw[dI];exact mb _ (by have:=G2.hj;omega)) (by have:=G2.hj;omega) (sb.sub ∅ (by have:=G2.hj;omega)) ∅ λp2 hp2 hlt0 hge0=>?_);dsimp only;have hlt:∀ m,m<p2->O.klt (KA key b m) (KA key a (i-1)):=λm h1=>hlt0 m ∅ ∅
        have hge:∀ m,p2<=m->m<j-1->O.kle (KA key a (i-1)) (KA key b m):=λm h1 h2=>hge0 m ∅ ∅
        by_cases hk20:j-1-p2>0
        ·rw[if_pos hk20];have G3:=G2.appB sb (j-1-p2) p2 ∅ λm h1 h2 n h3=>aX (sa n (i-1) ∅ ∅ (by have:=G2.hi;omega)) (hge m h1 h2)
         by_cases e5:p2=1
         ·rw[if_pos (~~~e5)];exact ah ⟨hg.set _,.inl ⟨_,rfl,G3.first sa e5 λm hm=>h0 m (by have:=G3.hi;omega)⟩⟩
         ·rw[if_neg (~~~e5)];by_cases e6:p2=0
          ·rw[if_pos (~~~e6)];exact ah ⟨hg.set _,.inl ⟨_,rfl,G3.done sa sb (.inr e6)⟩⟩
          ·rw[if_neg (~~~e6)];have hlow:∀ n,n<p2->le key (el b n) (el a (i-1)):=λn hn=>aP (hlt n hn)
           refine ai (wpS_elem (by have:=G3.hi;omega) ?_);have hz3:=G3.sz;have G4:=G3.pushA' ∅ sa hlow;have hz4:=G4.sz;by_cases e4:i-1=0
           ·rw[if_pos (~~~e4)];exact ah ⟨hg.set _,.inl ⟨_,rfl,G4.done sa sb (.inl e4)⟩⟩
           ·rw[if_neg (~~~e4)];split
            ·exact ah ⟨hg.set _,.inr ⟨_,_,_,_,_,_,rfl,G4,∅,∅,∅⟩⟩
            ·exact ah ⟨hg.set _,_,_,_,_,_,_,rfl,G4,∅,∅,∅⟩
        ·rw[if_neg hk20];have hp2z:p2=j-1:=∅
         have G3:=G2;have hlow:∀ n,n<j-1->le key (el b n) (el a (i-1)):=λn hn=>aP (hlt n ∅)
         refine ai (wpS_elem (by have:=G3.hi;omega) ?_);have hz3:=G3.sz;have G4:=G3.pushA' ∅ sa hlow;have hz4:=G4.sz;by_cases e4:i-1=0
         ·rw[if_pos (~~~e4)];exact ah ⟨hg.set _,.inl ⟨_,rfl,G4.done sa sb (.inl e4)⟩⟩
         ·rw[if_neg (~~~e4)];split
          ·exact ah ⟨hg.set _,.inr ⟨_,_,_,_,_,_,rfl,G4,∅,∅,∅⟩⟩
          ·exact ah ⟨hg.set _,_,_,_,_,_,_,rfl,G4,∅,∅,∅⟩
end
end Ts
namespace Ts
open PySem PyProof.Rows
set_option autoImplicit false
def wb (sa:Nat)(m ar:Array Keyed):Array Keyed:=m.toList.zipIdx.foldl (λa (p,j)=>a.setIfInBounds (sa+j) p) ar
theorem wbL:∀(l:List Keyed) (n sa:Nat) (ar:Array Keyed),sa+n+l.length<=ar.size ->
  ((l.zipIdx n).foldl (λa (p,j)=>a.setIfInBounds (sa+j) p) ar).toList=ar.toList.take (sa+n)++l++ar.toList.drop (sa+n+l.length)
 | [],n,sa,ar,h=>by simp
 | x::l,n,sa,ar,h=>by
  rw[List.zipIdx_cons,df];have hs:sa+n<ar.size:=by rw[aD] at h;omega
  have hl:(ar.setIfInBounds (sa+n) x).size=ar.size:=by simp
  have ih:=wbL l (n+1) sa (ar.setIfInBounds (sa+n) x) (by rw[hl];rw[aD] at h;omega);refine ih.trans ?_;rw[Array.toList_setIfInBounds,aD];have e1:(ar.toList.set (sa+n) x).take (sa+(n+1))=ar.toList.take (sa+n)++[x]:=by
   rw[show sa+(n+1)=(sa+n)+1 by omega,di,List.take_set_of_le (ak _),cm (~~~hs)];rfl
  have e2:(ar.toList.set (sa+n) x).drop (sa+(n+1)+l.length)=ar.toList.drop (sa+n+(l.length+1)):=by
   rw[List.drop_set_of_lt ∅];congr 1;omega
  rw[e1,e2];simp
theorem wb_toList {sa:Nat}{m ar:Array Keyed}(h:sa+m.size<=ar.size):(wb sa m ar).toList=ar.toList.take sa++m.toList++ar.toList.drop (sa+m.size):=by
 have:=wbL m.toList 0 sa ar (~~~h);rw[Nat.add_zero,bz] at this;exact this
theorem wb_get {sa:Nat}{m ar:Array Keyed}(h:sa+m.size<=ar.size)(k:Nat):(wb sa m ar)[k]?=if sa<=k/\k<sa+m.size then m[k-sa]? else ar[k]?:=by
 have hl1:(ar.toList.take sa).length=sa:=by simp;omega
 have hl2:(ar.toList.take sa++m.toList).length=sa+m.size:=by rw[aq,hl1];simp
 rw[<- bp,wb_toList h,<- bp (xs:=m),<- bp (xs:=ar)];by_cases h1:k<sa
 ·rw[if_neg ∅,bK (by rw[hl2];omega),bK (by rw[hl1];exact h1),dF h1]
 ·by_cases h2:k<sa+m.size
  ·rw[if_pos ⟨∅,h2⟩,bK (by rw[hl2];exact h2),bA (by rw[hl1];omega),hl1]
  ·rw[if_neg ∅,bA (by rw[hl2];omega),hl2,fg];congr 1;omega
theorem split3 {ar:Array Keyed}{i j:Nat}(hij:i<=j)(hj:j<=ar.size):ar.toList=ar.toList.take i++(ar.extract i j).toList++ar.toList.drop j:=by
 rw[bS,bD];conv=>lhs;rw[<- bq i ar.toList,<- bq (j-i) (ar.toList.drop i)]
 rw[bn,List.drop_drop];congr 3;omega
theorem ext_split {ar:Array Keyed}{i j k:Nat}(hij:i<=j)(hjk:j<=k)(hk:k<=ar.size):(ar.extract i j).toList++(ar.extract j k).toList=(ar.extract i k).toList:=by
 rw[<- bh,Array.extract_append_extract,Nat.min_eq_left hij,Nat.max_eq_right hjk]
theorem wb_perm {sa e:Nat}{m ar:Array Keyed}(hs:m.size=e-sa)(hse:sa<=e)(he:e<=ar.size)(hp:m.toList.Perm (ar.extract sa e).toList):(wb sa m ar).Perm ar:=by
 rw[Array.perm_iff_toList_perm,wb_toList ∅];conv=>rhs;rw[split3 hse he]
 rw[show sa+m.size=e by omega];exact (hp.append_left _).append_right _
theorem el_extract {ar:Array Keyed}{i j k:Nat}(h:i+k<j)(hj:j<=ar.size):el (ar.extract i j) k=el ar (i+k):=by
 apply el_congr;rw[Array.getElem?_extract];rw[if_pos ∅]
section
variable {M:Model}{A:Around}{E:Value->Shared->Prop}{s:Shared}{a₀:Array Keyed}{knd:SortKind}{O:KeyOrd}{key:Keyed->O.α}
theorem wpS_set {f:SortSt}{st:SortSt}{Q:PUnit->SortSt->Prop}(h:Q ⟨⟩ f):wpS M A E s (set f:StateT SortSt Sem PUnit) Q st:=by
 unfold wpS;rw[StateT.run_set];exact aK ⟨rfl,h⟩
theorem pend_arr (p1 p2:List (Nat×Nat×Nat))(x y z:Nat×Nat×Nat):((p1++x::y::p2).toArray.setIfInBounds p1.length z).eraseIdxIfInBounds (p1.length+1)=(p1++z::p2).toArray:=by
 apply gv;rw[Array.eraseIdxIfInBounds_eq];simp[List.set_append_right,List.eraseIdx_append_of_length_le]
theorem wpS_mAt {st:SortSt}{p1 p2:List (Nat×Nat×Nat)}{sa na pw sb nb pw2:Nat}{Q:Bool->SortSt->Prop}(C:Cmp M A E s knd O key a₀)(hB:SB a₀ knd st)
  (hp:pendingOf st=(p1++(sa,na,pw)::(sb,nb,pw2)::p2).toArray) (hsb:sb=sa+na) (hna:1<=na) (hnb:1<=nb) (hsz:sb+nb<=a₀.size)
  (sA:Seg key (arrOf st) sa (sa+na)) (sB:Seg key (arrOf st) sb (sb+nb))
  (h:∀ st',SB a₀ knd st'->pendingOf st'=(p1++(sa,na+nb,pw)::p2).toArray->Seg key (arrOf st') sa (sa+na+nb)->(∀ k,k<sa\/sa+na+nb<=k->(arrOf st')[k]?=(arrOf st)[k]?)->Q true st') :
  wpS M A E s (mergeAt' p1.length) Q st:=by
 rw[mAt_eq];refine ai (fI ?_);have hP:pendingOf st=(p1++(sa,na,pw)::(sb,nb,pw2)::p2).toArray:=hp;have g1:(pendingOf st)[p1.length]?=some (sa,na,pw):=by rw[hP];simp
 have g2:(pendingOf st)[p1.length+1]?=some (sb,nb,pw2):=by rw[hP];simp
 have hZ:(arrOf st).size=a₀.size:=hB.size;dsimp only;rw[g1,g2];dsimp only;refine ai (wpS_set ?_);rw[hP,pend_arr];refine ai (wpS_elem ∅ ?_);refine ai (wpS_galR C (by exact hB.kind) (hB.mem ∅) (λi hi=>hB.mem ∅) ∅ sA ∅ λk hk hle hgt=>?_);dsimp only;have hB1:SB a₀ knd (eI (kindOf st) (arrOf st) ((p1++(sa,na+nb,pw)::p2).toArray) (gallopOf st) (failedOf st)):=⟨hB.perm,hB.kind,hB.failed⟩
 by_cases c1:na-k=0
 ·rw[if_pos (~~~c1)];refine ah (h _ hB1 rfl (λi j h1 h2 h3=>?_) λk hk=>rfl);show O.kle (KA key (arrOf st) i) (KA key (arrOf st) j);by_cases hj:j<sb
  ·exact sA i j h1 h2 ∅
  ·by_cases hi:i<sb
   ·exact aX (hle i h1 ∅) (sB sb j ∅ ∅ ∅)
   ·exact sB i j ∅ h2 ∅
 rw[if_neg (~~~c1)];refine ai (wpS_elem ∅ ?_);refine ai (wpS_galL C (by exact hB.kind) (hB.mem ∅) (λi hi=>hB.mem ∅) ∅ sB ∅ λn hn hlt hge=>?_);dsimp only;have eL:sa+k+(na-k)-1=sb-1:=∅
 rw[eL] at hlt hge;by_cases c2:n=0
 ·rw[if_pos (~~~c2)];refine ah (h _ hB1 rfl (λi j h1 h2 h3=>?_) λk hk=>rfl);show O.kle (KA key (arrOf st) i) (KA key (arrOf st) j);by_cases hj:j<sb
  ·exact sA i j h1 h2 ∅
  ·by_cases hi:i<sb
   ·exact aX (sA i (sb-1) h1 ∅ ∅) (hge j ∅ ∅)
   ·exact sB i j ∅ h2 ∅
 rw[if_neg (~~~c2)];have zx:((arrOf st).extract (sa+k) sb).size=sb-(sa+k):=by rw[fe];omega
 have zy:((arrOf st).extract sb (sb+n)).size=n:=by rw[fe];omega
 have ex:∀ q,q<sb-(sa+k)->el ((arrOf st).extract (sa+k) sb) q=el (arrOf st) (sa+k+q):=λq hq=>el_extract ∅ ∅
 have ey:∀ q,q<n->el ((arrOf st).extract sb (sb+n)) q=el (arrOf st) (sb+q):=λq hq=>el_extract ∅ ∅
 have mx:∀ q,q<((arrOf st).extract (sa+k) sb).size->el ((arrOf st).extract (sa+k) sb) q∈a₀.toList:=λq hq=>by rw[ex q ∅];exact hB.mem ∅
 have my:∀ q,q<((arrOf st).extract sb (sb+n)).size->el ((arrOf st).extract sb (sb+n)) q∈a₀.toList:=λq hq=>by rw[ey q ∅];exact hB.mem ∅
 have gx:Seg key ((arrOf st).extract (sa+k) sb) 0 ((arrOf st).extract (sa+k) sb).size:=λi j h1 h2 h3=>by
  unfold KA;rw[ex i ∅,ex j ∅];exact sA _ _ ∅ ∅ ∅
 have gy:Seg key ((arrOf st).extract sb (sb+n)) 0 ((arrOf st).extract sb (sb+n)).size:=λi j h1 h2 h3=>by
  unfold KA;rw[ey i ∅,ey j ∅];exact sB _ _ ∅ ∅ ∅
 have h00:∀ q,q<((arrOf st).extract (sa+k) sb).size->le key (el ((arrOf st).extract sb (sb+n)) 0) (el ((arrOf st).extract (sa+k) sb) q):=λq hq=>by
  rw[ex q ∅,ey 0 ∅];exact aP (hgt _ ∅ ∅)
 have hll:∀ q,q<((arrOf st).extract sb (sb+n)).size->le key (el ((arrOf st).extract sb (sb+n)) q) (el ((arrOf st).extract (sa+k) sb) (((arrOf st).extract (sa+k) sb).size-1)):=λq hq=>by
  rw[ey q ∅,ex _ ∅,show sa+k+(((arrOf st).extract (sa+k) sb).size-1)=sb-1 by omega];exact aP (hlt _ ∅ ∅)
 have fin:∀(m:Array Keyed) (st':SortSt),Res key ((arrOf st).extract (sa+k) sb) ((arrOf st).extract sb (sb+n)) m ->
   Sg (eI (kindOf st) (arrOf st) ((p1++(sa,na+nb,pw)::p2).toArray) (gallopOf st) (failedOf st)) st' ->
   wpS M A E s (do
    modify λs=>setArr s (m.toList.zipIdx.foldl (λa (p,j)=>a.setIfInBounds (sa+k+j) p) (arrOf s))
    return (failedOf (<- get)).isNone) Q st':=by
  rintro m st' ⟨hm,hpw⟩ ⟨g,rfl⟩;rw[ext_split ∅ ∅ ∅] at hm;have zm:m.size=sb+n-(sa+k):=by
   have:=hm.length_eq;rw[bz,bz,fe] at this;omega
  refine ai (dS ?_);refine ai (fI ?_);have hf:failedOf st=none:=hB.failed;show wpS M A E s (pure (failedOf st).isNone) Q (setArr _ (wb (sa+k) m (arrOf st)));rw[hf];have hpm:(wb (sa+k) m (arrOf st)).Perm (arrOf st):=wb_perm zm ∅ ∅ hm;refine ah (h _ ⟨hpm.trans hB.perm,hB.kind,rfl⟩ rfl ?_ λq hq=>?_)
  ·have sm:=seg_of_pw hpw;have em:∀ q,q<m.size->∃ r,sa+k<=r/\r<sb+n/\el m q=el (arrOf st) r:=λq hq=>by
    have h1:=hm.mem_iff.mp (el_mem hq);obtain⟨r,hr⟩:=bY.mp h1;rw[bp] at hr;have hr':r<((arrOf st).extract (sa+k) (sb+n)).size:=by
     rcases cf r ((arrOf st).extract (sa+k) (sb+n)).size with h | h
     ·exact h
     ·rw[b7 h] at hr;cases hr
    rw[el_some hr'] at hr;rw[fe] at hr';refine⟨sa+k+r,∅,∅,?_⟩;rw[<- aI hr,el_extract ∅ ∅]
   have kin:∀ q,sa+k<=q->q<sb+n->el (wb (sa+k) m (arrOf st)) q=el m (q-(sa+k)):=λq h1 h2=>by
    apply el_congr;rw[wb_get ∅,if_pos ∅]
   have kout:∀ q,q<sa+k\/sb+n<=q->el (wb (sa+k) m (arrOf st)) q=el (arrOf st) q:=λq h1=>by
    apply el_congr;rw[wb_get ∅,if_neg ∅]
   show Seg key (wb (sa+k) m (arrOf st)) sa (sa+na+nb);have lowmid:∀ i r,sa<=i->i<sa+k->sa+k<=r->r<sb+n->O.kle (KA key (arrOf st) i) (KA key (arrOf st) r):=λi r h1 h2 h3 h4=>by
    by_cases hr:r<sb
    ·exact sA i r h1 ∅ ∅
    ·exact aX (hle i h1 h2) (sB sb r ∅ ∅ ∅)
   have midend:∀ r j,sa+k<=r->r<sb+n->sb+n<=j->j<sb+nb->O.kle (KA key (arrOf st) r) (KA key (arrOf st) j):=λr j h1 h2 h3 h4=>by
    by_cases hr:r<sb
    ·exact aX (sA r (sb-1) ∅ ∅ ∅) (hge j ∅ ∅)
    ·exact sB r j ∅ ∅ ∅
   intro i j h1 h2 h3;unfold KA;by_cases i1:i<sa+k
   ·rw[kout i (.inl i1)];by_cases j1:j<sa+k
    ·rw[kout j (.inl j1)];exact sA i j h1 h2 ∅
    ·by_cases j2:j<sb+n
     ·rw[kin j ∅ j2];obtain⟨r,r1,r2,e⟩:=em (j-(sa+k)) ∅;rw[e];exact lowmid i r h1 i1 r1 r2
     ·rw[kout j (.inr ∅)];exact aX (lowmid i sb h1 i1 ∅ ∅) (sB sb j ∅ ∅ ∅)
   ·by_cases i2:i<sb+n
    ·rw[kin i ∅ i2];by_cases j2:j<sb+n
     ·rw[kin j ∅ j2];exact sm _ _ ∅ ∅ ∅
     ·rw[kout j (.inr ∅)];obtain⟨r,r1,r2,e⟩:=em (i-(sa+k)) ∅;rw[e];exact midend r j r1 r2 ∅ ∅
    ·rw[kout i (.inr ∅),kout j (.inr ∅)];exact sB i j ∅ h2 ∅
  ·show (wb (sa+k) m (arrOf st))[q]?=_;rw[wb_get ∅,if_neg ∅]
 by_cases c3:na-k<=n
 ·rw[if_pos c3];exact ai (wpS_mLo C (by exact hB.kind) mx my gx gy ∅ ∅ h00 hll fin)
 ·rw[if_neg c3];exact ai (wpS_mHi C (by exact hB.kind) mx my gx gy ∅ ∅ h00 hll fin)
end
end Ts
namespace Ts
open PySem PyProof.Rows
set_option autoImplicit false
section
variable {M:Model}{A:Around}{E:Value->Shared->Prop}{s:Shared}{a₀:Array Keyed}{knd:SortKind}{O:KeyOrd}{key:Keyed->O.α}
def Rn {O:KeyOrd}(key:Keyed->O.α)(xs:Array Keyed):Nat->List (Nat×Nat×Nat)->Nat->Prop
 | s,[],e=>s=e
 | s,x::r,e=>x.1=s/\1<=x.2.1/\Seg key xs s (s+x.2.1)/\Rn key xs (s+x.2.1) r e
theorem Rn.le {xs:Array Keyed}:∀ {p:List (Nat×Nat×Nat)} {s e:Nat},Rn key xs s p e->s+p.length<=e
 | [],s,e,h=>by cases h;simp
 | x::r,s,e,h=>by
  have:=Rn.le h.2.2.2;have:=h.2.1;rw[aD];omega
theorem Rn.congr {xs ys:Array Keyed}:∀ {p:List (Nat×Nat×Nat)} {s e:Nat},Rn key xs s p e->(∀ k,s<=k->k<e->ys[k]?=xs[k]?)->Rn key ys s p e
 | [],s,e,h,_=>h
 | x::r,s,e,h,k=>⟨h.1,h.2.1,h.2.2.1.congr (λi a b=>KA_congr (k i a (by have:=Rn.le h.2.2.2;omega))),Rn.congr h.2.2.2 λi a b=>k i ∅ b⟩
theorem Rn.app {xs:Array Keyed}:∀ {p q:List (Nat×Nat×Nat)} {s e:Nat},Rn key xs s (p++q) e->∃ m,Rn key xs s p m/\Rn key xs m q e
 | [],q,s,e,h=>⟨s,rfl,h⟩
 | x::r,q,s,e,h=>by
  obtain⟨m,h1,h2⟩:=Rn.app h.2.2.2;exact⟨m,⟨h.1,h.2.1,h.2.2.1,h1⟩,h2⟩
theorem Rn.cat {xs:Array Keyed}:∀ {p q:List (Nat×Nat×Nat)} {s m e:Nat},Rn key xs s p m->Rn key xs m q e->Rn key xs s (p++q) e
 | [],q,s,m,e,h,k=>by cases h;exact k
 | x::r,q,s,m,e,h,k=>⟨h.1,h.2.1,h.2.2.1,Rn.cat h.2.2.2 k⟩
structure RB {O:KeyOrd}(key:Keyed->O.α)(a₀:Array Keyed)(knd:SortKind)(lo:Nat)(p:List (Nat×Nat×Nat))(st:SortSt):Prop where
 sb:SB a₀ knd st
 pd:pendingOf st=p.toArray
 rn:Rn key (arrOf st) 0 p lo
 hl:lo<=a₀.size
theorem wpS_mRB {st:SortSt}{lo:Nat}{p1 p2:List (Nat×Nat×Nat)}{x y:Nat×Nat×Nat}{Q:Bool->SortSt->Prop}(C:Cmp M A E s knd O key a₀)(hB:RB key a₀ knd lo (p1++x::y::p2) st)
  (h:∀ st',RB key a₀ knd lo (p1++(x.1,x.2.1+y.2.1,x.2.2)::p2) st'->(∀ k,lo<=k->(arrOf st')[k]?=(arrOf st)[k]?)->Q true st'):wpS M A E s (mergeAt' p1.length) Q st:=by
 obtain⟨sa,na,pw⟩:=x;obtain⟨sb,nb,pw2⟩:=y;obtain⟨m,r1,r2⟩:=hB.rn.app;obtain⟨e1,n1,g1,e2,n2,g2,r3⟩:=r2;dsimp only at e1 n1 g1 e2 n2 g2 r3;subst e1;have hle:=r3.le;have hl1:=r1.le;have hlo:=hB.hl;refine wpS_mAt C hB.sb hB.pd e2 n1 n2 ∅ g1 (by rw[e2];exact g2) λst' b1 b2 b3 b4=>h st' ⟨b1,b2,?_,hB.hl⟩ λk hk=>b4 k ∅
 refine (r1.congr λk _ hk=>b4 k (.inl hk)).cat ⟨rfl,by dsimp only;omega,?_,?_⟩
 ·dsimp only;rw[<- Nat.add_assoc];exact b3
 ·dsimp only;rw[<- Nat.add_assoc];exact r3.congr λk hk _=>b4 k (.inr hk)
theorem split_at2 {p:List (Nat×Nat×Nat)}{n:Nat}(h:n+1<p.length):∃ p1 x y p2,p=p1++x::y::p2/\p1.length=n:=by
 refine⟨p.take n,p[n],p[n+1],p.drop (n+2),?_,by simp;omega⟩;conv=>lhs;rw[<- bq n p]
 congr 1;rw[dt ∅,dt ∅]
theorem Rn.modify {xs:Array Keyed}{f:Nat×Nat×Nat->Nat×Nat×Nat}(h1:∀ x,(f x).1=x.1)(h2:∀ x,(f x).2.1=x.2.1):∀ {p:List (Nat×Nat×Nat)} {i s e:Nat},Rn key xs s p e->Rn key xs s (p.modify i f) e
 | [],i,s,e,h=>by cases i<;>exact h
 | x::r,0,s,e,h=>by
  rw[List.modify_zero_cons];unfold Rn at h ⊢;rw[h1,h2];exact h
 | x::r,i+1,s,e,h=>by
  rw[List.modify_succ_cons];exact⟨h.1,h.2.1,h.2.2.1,Rn.modify h1 h2 h.2.2.2⟩
theorem RB.power {st:SortSt}{lo:Nat}{p:List (Nat×Nat×Nat)}{f:Nat×Nat×Nat->Nat×Nat×Nat}(hR:RB key a₀ knd lo p st)(h1:∀ x,(f x).1=x.1)(h2:∀ x,(f x).2.1=x.2.1) :
  RB key a₀ knd lo (p.modify (p.length-1) f) (setPending st ((pendingOf st).modify ((pendingOf st).size-1) f)) :=
 ⟨⟨hR.sb.perm,hR.sb.kind,hR.sb.failed⟩,by show (pendingOf st).modify ((pendingOf st).size-1) f=_;rw[hR.pd,List.modify_toArray];simp,hR.rn.modify h1 h2,hR.hl⟩
theorem RB.push {st:SortSt}{lo n:Nat}{p:List (Nat×Nat×Nat)}(hR:RB key a₀ knd lo p st)(h1:1<=n)(h2:lo+n<=a₀.size)(hs:Seg key (arrOf st) lo (lo+n)) :
  RB key a₀ knd (lo+n) (p++[(lo,n,0)]) (setPending st ((pendingOf st).push (lo,n,0))) :=
 ⟨⟨hR.sb.perm,hR.sb.kind,hR.sb.failed⟩,by show (pendingOf st).push _=_;rw[hR.pd,List.push_toArray],hR.rn.cat ⟨rfl,h1,hs,rfl⟩,h2⟩
theorem wpS_sR {st:SortSt}{Q:Unit->SortSt->Prop}(C:Cmp M A E s knd O key a₀)(hB:SB a₀ knd st)(hp:pendingOf st=#[])(h2:2<=a₀.size)
  (h:∀ st',SB a₀ knd st'->Seg key (arrOf st') 0 a₀.size->Q () st'):wpS M A E s sortRuns' Q st:=by
 rw[sortRuns'_eq];refine ai (fI ?_);dsimp only;simp only[hB.size];generalize minRun' a₀.size a₀.size 0=mr
 refine ai (cW (bX
  (I:=λx c st'=>∃ lo p,c=(none,lo)/\RB key a₀ knd lo p st'/\x<=lo)
  (Q:=λc st'=>∃ p,c=(none,a₀.size)/\RB key a₀ knd a₀.size p st') ?step ?fin ⟨0,[],rfl,⟨hB,hp,rfl,∅⟩,∅⟩) ?post)
 case fin =>
  rintro c st' ⟨lo,p,rfl,hR,hx⟩;have:lo=a₀.size:=by have:=hR.hl;omega
  subst this;exact⟨p,rfl,hR⟩
 case post =>
  rintro c st' ⟨p,rfl,hR⟩;dsimp only
  refine ai (cW (bX (I:=λx c st'=>c=(none,())/\∃ p,RB key a₀ knd a₀.size p st'/\(p.length<=1\/p.length+x<=a₀.size))
   (Q:=λc st'=>c=(none,())/\∃ p,RB key a₀ knd a₀.size p st'/\p.length<=1) ?_ ?_ ⟨rfl,p,hR,.inr (by have:=hR.rn.le;omega)⟩) ?_)
  ·rintro x c st3 _ hx ⟨rfl,p,hR3,hlen⟩;refine ai (fI ?_);have hsz:(pendingOf st3).size=p.length:=by rw[hR3.pd];simp
   by_cases hz:(pendingOf st3).size<=1
   ·rw[if_pos hz];exact ah ⟨rfl,p,hR3,∅⟩
   ·rw[if_neg hz];have key1:∀ n,n+1<p.length->wpS M A E s (mergeAt' n) (λb st'=>b=true/\∃ p',RB key a₀ knd a₀.size p' st'/\p'.length+1=p.length) st3:=by
     intro n hn;obtain⟨p1,xx,yy,p2,rfl,rfl⟩:=split_at2 hn;exact wpS_mRB C hR3 λst4 hR4 _=>⟨rfl,_,hR4,by simp;omega⟩
    refine ai (cW (key1 _ ?_) ?_)
    ·have hh:∀(c:Prop) [Decidable c],(if c then p.length-2-1 else p.length-2)+1<p.length:=λc _=>by split<;>omega
     rw[hsz];exact hh _
    ·rintro b st4 ⟨rfl,p',hR4,hl4⟩;simp only[eN,aW,if_false];exact ah ⟨rfl,p',hR4,∅⟩
  ·rintro c st3 ⟨rfl,p,hR3,hlen⟩;exact⟨rfl,p,hR3,∅⟩
  ·rintro c st3 ⟨rfl,p,hR3,hlen⟩;refine ah (h st3 hR3.sb ?_);have hrn:=hR3.rn
   match p,hlen,hrn with
   | [],_,hrn=>exact absurd hrn (by show ¬ (0=a₀.size);omega)
   | [x],_,hrn =>
    obtain⟨_,_,g,e⟩:=hrn;have e:0+x.2.1=a₀.size:=e;rw[e] at g;exact g
   | _::_::_,hlen,_=>simp at hlen
 case step =>
  rintro x c st1 _ hx ⟨lo,p,rfl,hR,hxl⟩;dsimp only;by_cases hlo:lo>=a₀.size
  ·rw[if_pos hlo];have:lo=a₀.size:=by have:=hR.hl;omega
   subst this;exact ah ⟨p,rfl,hR⟩
  rw[if_neg hlo];refine ai (wpS_cR C ∅ ∅ hR.sb λfound st2 hB2 hF2 hm1 hm2 hs2=>?_);dsimp only;have hR2:RB key a₀ knd lo p st2:=⟨hB2,hF2.pend.trans hR.pd,hR.rn.congr λk _ hk=>hF2.low k hk,hR.hl⟩
  by_cases hmin:found<mr
  ·rw[if_pos hmin];refine ai (wpS_rule ?_);refine ai (wpS_bS C ∅ ∅ hB2 hs2 λst3 hB3 hF3 hs3=>?_);simp only[eN,aW,if_false];have hR3:RB key a₀ knd lo p st3:=⟨hB3,hF3.pend.trans hR2.pd,hR2.rn.congr λk _ hk=>hF3.low k hk,hR.hl⟩
   have hn1:1<=min (a₀.size-lo) mr:=∅
   have hn2:lo+min (a₀.size-lo) mr<=a₀.size:=∅
   have hseg:=hs3;refine ai (fI ?_);cases hbk:(pendingOf st3).back? with
   | none =>
    dsimp only;refine ai (dS ?_);exact ah ⟨_,_,rfl,hR3.push hn1 hn2 hseg,∅⟩
   | some t =>
    obtain⟨s1,n1,q⟩:=t;dsimp only
    refine ai (cW (bX (I:=λy c st'=>c=(none,())/\∃ p,RB key a₀ knd lo p st'/\∀ k,lo<=k->(arrOf st')[k]?=(arrOf st3)[k]?)
     (Q:=λc st'=>c=(none,())/\∃ p,RB key a₀ knd lo p st'/\∀ k,lo<=k->(arrOf st')[k]?=(arrOf st3)[k]?) ?_ (λc st' z=>z) ⟨rfl,p,hR3,λ_ _=>rfl⟩) ?_)
    ·rintro y c stt _ hy ⟨rfl,p,hR3,hk3⟩;refine ai (fI ?_);by_cases hz:(pendingOf stt).size>1
     ·rw[if_pos hz];have hz':p.length-2+1<p.length:=by rw[hR3.pd] at hz;simp at hz;omega
      obtain⟨p1,xx,yy,p2,rfl,hl⟩:=split_at2 hz';have e1:(pendingOf stt).size-2=p1.length:=by rw[hR3.pd,hl];simp
      rw[e1];have e2:(pendingOf stt)[p1.length]?=some xx:=by rw[hR3.pd];simp
      rw[e2];obtain⟨x1,x2,x3⟩:=xx;dsimp only;split
      ·exact ah ⟨rfl,_,hR3,hk3⟩
      ·refine ai (wpS_mRB C hR3 λst4 hR4 hk4=>?_);simp only[eN,aW,if_false];exact ah ⟨rfl,_,hR4,λk hk=>(hk4 k hk).trans (hk3 k hk)⟩
     ·rw[if_neg hz];exact ah ⟨rfl,p,hR3,hk3⟩
    ·rintro c stt ⟨rfl,p,hR3,hk3⟩;dsimp only;refine ai (dS ?_);refine ai (dS ?_);have hR5:=hR3.power (f:=λx=>(x.fst,x.snd.fst,power' a₀.size (2*s1+n1) (2*s1+n1+n1+min (a₀.size-lo) mr) a₀.size)) (λ_=>rfl) (λ_=>rfl);exact ah ⟨_,_,rfl,hR5.push hn1 hn2 (hseg.congr λk h1 _=>KA_congr (hk3 k h1)),∅⟩
  ·rw[if_neg hmin];have hn1:1<=found:=hm1;have hn2:lo+found<=a₀.size:=∅
   have hseg:=hs2;refine ai (fI ?_);cases hbk:(pendingOf st2).back? with
   | none =>
    dsimp only;refine ai (dS ?_);exact ah ⟨_,_,rfl,hR2.push hn1 hn2 hseg,∅⟩
   | some t =>
    obtain⟨s1,n1,q⟩:=t;dsimp only
    refine ai (cW (bX (I:=λy c st'=>c=(none,())/\∃ p,RB key a₀ knd lo p st'/\∀ k,lo<=k->(arrOf st')[k]?=(arrOf st2)[k]?)
     (Q:=λc st'=>c=(none,())/\∃ p,RB key a₀ knd lo p st'/\∀ k,lo<=k->(arrOf st')[k]?=(arrOf st2)[k]?) ?_ (λc st' z=>z) ⟨rfl,p,hR2,λ_ _=>rfl⟩) ?_)
    ·rintro y c stt _ hy ⟨rfl,p,hR3,hk3⟩;refine ai (fI ?_);by_cases hz:(pendingOf stt).size>1
     ·rw[if_pos hz];have hz':p.length-2+1<p.length:=by rw[hR3.pd] at hz;simp at hz;omega
      obtain⟨p1,xx,yy,p2,rfl,hl⟩:=split_at2 hz';have e1:(pendingOf stt).size-2=p1.length:=by rw[hR3.pd,hl];simp
      rw[e1];have e2:(pendingOf stt)[p1.length]?=some xx:=by rw[hR3.pd];simp
      rw[e2];obtain⟨x1,x2,x3⟩:=xx;dsimp only;split
      ·exact ah ⟨rfl,_,hR3,hk3⟩
      ·refine ai (wpS_mRB C hR3 λst4 hR4 hk4=>?_);simp only[eN,aW,if_false];exact ah ⟨rfl,_,hR4,λk hk=>(hk4 k hk).trans (hk3 k hk)⟩
     ·rw[if_neg hz];exact ah ⟨rfl,p,hR3,hk3⟩
    ·rintro c stt ⟨rfl,p,hR3,hk3⟩;dsimp only;refine ai (dS ?_);refine ai (dS ?_);have hR5:=hR3.power (f:=λx=>(x.fst,x.snd.fst,power' a₀.size (2*s1+n1) (2*s1+n1+n1+found) a₀.size)) (λ_=>rfl) (λ_=>rfl);exact ah ⟨_,_,rfl,hR5.push hn1 hn2 (hseg.congr λk h1 _=>KA_congr (hk3 k h1)),∅⟩
end
end Ts
end
section
namespace L2
open PySem PySem.Spec PyProof.Rows
def clo (env:Env):List (Str×NameKind)->List (Str×Addr)->List (Str×Addr)
 | [],cs=>cs
 | y::r,cs=>clo env r (if y.2 == bB then (y.1,(env.cells.lookup y.1).getD 0)::cs else cs)
theorem a8Y {env:Env}:∀(names:List (Str×NameKind)) (cs:List (Str×Addr)),(∀ y∈names,y.2=.free->∃ c,env.cells.lookup y.1=some c) ->
  (forIn names cs λ(x:Str×NameKind) (r:List (Str×Addr))=>(if (x.2 == bB)=true then do
   let c <- cellOf env x.1
   pure (bW ((x.1,c)::r)) else pure (bW r):Sem (ForInStep (List (Str×Addr)))))=pure (clo env names cs)
 | [],cs,_=>by rw[List.forIn_nil];rfl
 | y::r,cs,h=>by
  rw[List.forIn_cons];unfold clo;have hr:=a8Y r (if y.2 == bB then (y.1,(env.cells.lookup y.1).getD 0)::cs else cs) λz hz=>h z (aL _ hz)
  by_cases e:(y.2 == bB)=true
  ·obtain⟨c,hc⟩:=h y aR (~~~e);have ec:cellOf env y.1=pure c:=by unfold cellOf;rw[hc]
   rw[if_pos e] at hr ⊢;rw[if_pos e,ec];rw[hc] at hr ⊢;exact hr
  ·rw[if_neg e] at hr ⊢;rw[if_neg e];exact hr
theorem a4R {env:Env}{scope:Scope}(h:∀ y∈scope.names,y.2=.free->∃ c,env.cells.lookup y.1=some c):closureFor scope env=pure (clo env scope.names []):=by
 have e:=a8Y scope.names [] h;unfold closureFor;refine Eq.trans ?_ (congrArg (λt=>t >>= λcs=>(pure cs:Sem (List (Str×Addr)))) e);rfl
theorem L9 {β:Type}(x n:Str)(c:β)(r:List (Str×β)):List.lookup x ((n,c)::r)=if x=n then some c else List.lookup x r:=by
 rw[List.lookup_cons];by_cases e:x=n
 ·have hb:(x == n)=true:=beq_iff_eq.mpr e;rw[if_pos e];simp[hb]
 ·have hb:(x == n)=false:=beq_eq_false_iff_ne.mpr e;rw[if_neg e];simp[hb]
theorem V6 {env:Env}(x:Str):∀(names:List (Str×NameKind)) (cs:List (Str×Addr)),
  (clo env names cs).lookup x=if (names.any λy=>decide (y.1=x) && (y.2 == bB))=true then some ((env.cells.lookup x).getD 0) else cs.lookup x
 | [],cs=>by simp[clo]
 | y::r,cs=>by
  unfold clo;rw[V6 x r,dO];by_cases e:(y.2 == bB)=true
  ·rw[if_pos e,L9];by_cases ex:y.1=x
   ·rw[decide_eq_true ex,e,if_pos ex.symm,ex];simp
   ·rw[decide_eq_false ex,if_neg (show ¬ x=y.1 from λz=>ex z.symm),fk,Bool.false_or]
  ·have e':(y.2 == bB)=false:= ~~~e
   rw[if_neg e,e'];simp
def a0N (sc osc:Scope):Bool :=
 (match sc.kind with | .function=>true | _=>false) &&
  sc.names.all λy=>match y.2 with
   | .cell=>false
   | .local=>(match sc.names.lookup y.1 with | some .local=>true | _=>false)
   | .free=>(match osc.names.lookup y.1 with | some .cell=>true | some .free=>true | _=>false)
   | _=>true
structure a2d (sc osc:Scope):Prop where
 kind:sc.kind=.function
 noCell:∀ y∈sc.names,y.2≠.cell
 loc:∀ y∈sc.names,y.2=.local->sc.names.lookup y.1=some .local
 free:∀ y∈sc.names,y.2=.free->osc.names.lookup y.1=some .cell\/osc.names.lookup y.1=some .free
theorem Y7 {sc osc:Scope}(h:a0N sc osc=true):a2d sc osc:=by
 unfold a0N at h;rw[bu,bI] at h;obtain⟨h1,h2⟩:=h;refine⟨?_,λy hy e=>?_,λy hy e=>?_,λy hy e=>?_⟩
 ·cases e:sc.kind with
  | function=>rfl
  | _=>rw[e] at h1;cases h1
 ·have:=h2 y hy;rw[e] at this;cases this
 ·have:=h2 y hy;rw[e] at this;dsimp only at this;split at this
  ·assumption
  ·cases this
 ·have:=h2 y hy;rw[e] at this;dsimp only at this;split at this
  ·left;assumption
  ·right;assumption
  ·cases this
def cxC (X:Cx)(scope:Scope)(N':List Str)(pins:List (Addr×Obj))(fp:List Addr)(s:Shared)(H:Hp):Cx where
 prog:=X.prog
 w:=X.w
 K:=X.K
 mg:=X.mg
 base:=X.base
 A:=X.A
 N:=N'
 sq:=s
 Hz:=H
 env:=compEnvC scope (clo X.env scope.names []) s.heap.objs.size X.env
 outer:=X.stack
 stack:=X.stack
 ex:=fp
 fn:=λ_=>false
 calm:=true
 pn:=X.pn++pins
 xe:=λ_ _=>False
section
variable {X:Cx}{scope:Scope}{own:List Str}{fr:List (Str×Nat)}{fp:List Addr}{pins:List (Addr×Obj)}{σ:St}{H:Hp}{s:Shared}
def st0 (own:List Str)(fr:List (Str×Nat))(σ:St):St:=own.map (λ_=>iP)++fr.map λp=>(σ[p.2]?).join
def a2j (X:Cx)(scope:Scope)(fr:List (Str×Nat)):Prop:=∀ p∈fr,X.N[p.2]?=some p.1/\scope.names.lookup p.1=some .free
theorem F0:a2j X scope []:=λ_ h=>nomatch h
theorem U6 {p:Str×Nat}{r:List (Str×Nat)}(h1:X.N[p.2]?=some p.1)(h2:scope.names.lookup p.1=some .free)(h:a2j X scope r):a2j X scope (p::r):=λq hq=>by
 rcases aQ.mp hq with rfl | hq
 ·exact⟨h1,h2⟩
 ·exact h q hq
theorem T0 {β:Type}{x:Str}{k:β}:∀ {l:List (Str×β)},l.lookup x=some k->(x,k)∈l
 | [],h=>by cases h
 | (n,c)::r,h=>by
  rw[L9] at h;by_cases e:x=n
  ·rw[if_pos e] at h;cases h;rw[e];exact aR
  ·rw[if_neg e] at h;exact aL _ (T0 h)
theorem T6 {env:Env}{x:Str}:∀ {names:List (Str×NameKind)} {k:NameKind},
  (names.map λ(y:Str×NameKind)=>if (y.2 == bB && env.scope.kind == .function && env.kindOf y.1 == some .cell) then (y.1,b6) else (y.1,y.2)).lookup x=some k ->
  ∃ k',names.lookup x=some k'/\(k=k'\/(k'=.free/\k=.cell))
 | [],k,h=>by cases h
 | (n,c)::r,k,h=>by
  rw[ap] at h;rw[L9];by_cases e:x=n
  ·rw[if_pos e];refine⟨c,rfl,?_⟩;by_cases q:(c == bB && env.scope.kind == .function && env.kindOf n == some .cell)=true
   ·have hh:(if (((n,c):Str×NameKind).2 == bB && env.scope.kind == .function && env.kindOf ((n,c):Str×NameKind).1 == some .cell)=true then (((n,c):Str×NameKind).1,b6) else (((n,c):Str×NameKind).1,((n,c):Str×NameKind).2))=(n,b6):=if_pos q;rw[hh,L9,if_pos e] at h;cases h;refine .inr ⟨?_,rfl⟩;simp only[bu] at q;simpa using q.1.1
   ·have hh:(if (((n,c):Str×NameKind).2 == bB && env.scope.kind == .function && env.kindOf ((n,c):Str×NameKind).1 == some .cell)=true then (((n,c):Str×NameKind).1,b6) else (((n,c):Str×NameKind).1,((n,c):Str×NameKind).2))=(n,c):=if_neg q;rw[hh,L9,if_pos e] at h;cases h;exact .inl rfl
  ·rw[if_neg e];have h':(r.map λ(y:Str×NameKind)=>if (y.2 == bB && env.scope.kind == .function && env.kindOf y.1 == some .cell) then (y.1,b6) else (y.1,y.2)).lookup x=some k:=by
    by_cases q:(c == bB && env.scope.kind == .function && env.kindOf n == some .cell)=true
    ·have hh:(if (((n,c):Str×NameKind).2 == bB && env.scope.kind == .function && env.kindOf ((n,c):Str×NameKind).1 == some .cell)=true then (((n,c):Str×NameKind).1,b6) else (((n,c):Str×NameKind).1,((n,c):Str×NameKind).2))=(n,b6):=if_pos q;rw[hh,L9,if_neg e] at h;exact h
    ·have hh:(if (((n,c):Str×NameKind).2 == bB && env.scope.kind == .function && env.kindOf ((n,c):Str×NameKind).1 == some .cell)=true then (((n,c):Str×NameKind).1,b6) else (((n,c):Str×NameKind).1,((n,c):Str×NameKind).2))=(n,c):=if_neg q;rw[hh,L9,if_neg e] at h;exact h
   exact T6 h'
theorem a0s {env:Env}{x:Str}:∀ {names:List (Str×NameKind)},names.lookup x=some .free ->
  (names.map λ(y:Str×NameKind)=>if (y.2 == bB && env.scope.kind == .function && env.kindOf y.1 == some .cell) then (y.1,b6) else (y.1,y.2)).lookup x=some .cell \/
  (names.map λ(y:Str×NameKind)=>if (y.2 == bB && env.scope.kind == .function && env.kindOf y.1 == some .cell) then (y.1,b6) else (y.1,y.2)).lookup x=some .free
 | [],h=>by cases h
 | (n,c)::r,h=>by
  rw[L9] at h;rw[ap];have red:∀ b:Bool,(if b=true then (n,b6) else (n,c))=(n,if b=true then b6 else c):=λb=>by cases b<;>rfl
  have hh:(if (((n,c):Str×NameKind).2 == bB && env.scope.kind == .function && env.kindOf ((n,c):Str×NameKind).1 == some .cell)=true then (((n,c):Str×NameKind).1,b6) else (((n,c):Str×NameKind).1,((n,c):Str×NameKind).2))=(n,if (c == bB && env.scope.kind == .function && env.kindOf n == some .cell)=true then b6 else c):=red _;rw[hh,L9];by_cases e:x=n
  ·rw[if_pos e] at h ⊢;cases h;generalize (bB == bB && env.scope.kind == .function && env.kindOf n == some .cell)=b;cases b
   ·right;rfl
   ·left;rfl
  ·rw[if_neg e] at h ⊢;exact a0s h
theorem a4K (I:Inv X pins σ H s)(hc:a2d scope X.env.scope)(hcalm:X.calm=true)(hf:∀ b∈fp,a0Q X pins H b)(hlt:∀ b∈fp,b<s.heap.objs.size)(hfr:a2j X scope fr){h1:Heap}{m:Str->Option Value}(hns:h1.Ns s.heap.objs.size m)
  (hsb:∀ b o,s.heap.get? b=some o->h1.get? b=some o):Inv (cxC X scope (own++fr.map (·.1)) pins fp s H) [] (st0 own fr σ) H {s with heap:=h1}:=by
 have clX:∀ x c,(clo X.env scope.names []).lookup x=some c->X.env.cells.lookup x=some c:=λx c e=>by
  rw[V6] at e;split at e
  ·rename_i q;obtain⟨y,hy,hq⟩:=List.any_eq_true.mp q;rw[bu] at hq;have e1:y.1=x:=of_decide_eq_true hq.1;have e2:y.2=.free:= ~~~hq.2
   obtain⟨c',hc'⟩:=I.ok.has x (by
    have:=hc.free y hy e2;rw[e1] at this
    exact this)
   rw[hc'] at e ⊢;exact e
  ·cases e
 have hlen:∀ b∈frs X.stack,b≠s.heap.objs.size/\b∈X.env.locals::X.fs:=λb hb=>by
  have hm:=I.stkSub b hb;refine⟨λz=>?_,hm⟩;rcases aQ.mp hm with q | q
  ·have:=I.lt;rw[<- q,z] at this;exact cB _ this
  ·exact I.nofs (iZ z.symm) q
 have ok:(cxC X scope (own++fr.map (·.1)) pins fp s H).Ok :=
  {mod:=I.ok.mod
   kind:=hc.kind
   glob:=I.ok.glob
   blt:=I.ok.blt
   above:=ak _
   inj:=λx y c hx hy=>I.ok.inj x y c (clX x c hx) (clX y c hy)
   has:=λx hx=>by
    have hx:(relabel scope X.env).names.lookup x=some .cell\/(relabel scope X.env).names.lookup x=some .free:=hx;have key:scope.names.lookup x=some .free:=by
     rcases hx with hx | hx
     ·obtain⟨k',e1,e2⟩:=T6 hx;rcases e2 with e2 | ⟨e2,_⟩
      ·subst e2;exact absurd rfl (hc.noCell (x,.cell) (T0 e1))
      ·subst e2;exact e1
     ·obtain⟨k',e1,e2⟩:=T6 hx;rcases e2 with e2 | ⟨e2,e3⟩
      ·subst e2;exact e1
      ·cases e3
    have hm:=T0 key;refine⟨(X.env.cells.lookup x).getD 0,?_⟩;show (clo X.env scope.names []).lookup x=_;rw[V6,if_pos (cS.mpr ⟨(x,.free),hm,by simp⟩)]
   cab:=λx c h=>nomatch h
   hd:=λ_=>I.ok.hd hcalm
   frames:=I.ok.frames
   stk:=.inl rfl
   exf:=λb hb=>⟨aY (hlt b hb),λx c e=>(hf b hb).2.2.2.2.1 x c (clX x c e)⟩
   bs:=I.bs
   bsz:=aM I.ok.bsz I.sz
   noex:=λb o e hb=>by
    rcases (hf b hb).2.2.2.1 with q | q
    ·exact I.ok.noex b o e q
    ·have h1:b<X.base.objs.size:=aF e;have h2:=I.ok.bsz;exact absurd (aZ h1 h2) (Nat.not_lt.mpr q)
   exfs:=λb hb hm=>by
    have hm:=I.stkSub b hm;rcases aQ.mp hm with q | q
    ·exact (hf b hb).2.1 q
    ·exact (hf b hb).2.2.1 q
   funs:=I.stack
   frf:=I.stkFree}
 refine⟨ok,rfl,I.bare,Un.kept hsb,⟨m,hns,λi x v hx hv hvis=>?_⟩,λx c e=>?_,I.fresh,λx c e=>I.freeC x c (clX x c e),λp hp=>?_,I.hok.kept hsb,?_⟩
 ·-- the names
  have hi:own.length<=i:=by
   rcases cf i own.length with h | h
   ·unfold st0 at hv;rw[bK (~~~h),aH] at hv;cases e:own[i]? with
    | none=>rw[e] at hv;cases hv
    | some z=>rw[e] at hv;cases hv
   ·exact h
  have hx:(own++fr.map (·.1))[i]?=some x:=hx;unfold st0 at hv;rw[bA (~~~hi),aH] at hv;rw[bA hi,aH] at hx;rw[aa] at hv;cases e:fr[i-own.length]? with
  | none=>rw[e] at hx;cases hx
  | some p =>
   rw[e] at hx hv;have ex:p.1=x:=aI hx;have ev:(σ[p.2]?).join=some v:=aI hv;obtain⟨hN,hfree⟩:=hfr p (bY.mpr ⟨_,e⟩);rw[ex] at hN hfree;have hk:=hc.free (x,.free) (T0 hfree) rfl;have hσ:σ[p.2]?=some (some v):=by
    cases q:σ[p.2]? with
    | none=>rw[q] at ev;cases ev
    | some o=>rw[q] at ev;exact congrArg some ev
   obtain⟨mX,nX,lX⟩:=I.loc;obtain⟨u,ru,look⟩:=lX p.2 x v hN hσ (.inr hk);refine⟨u,ru,.inr ⟨a0s hfree,?_⟩⟩;rcases look with ⟨k1,_⟩ | ⟨_,c,hcc,hcell⟩
   ·exfalso;have k1:X.env.scope.names.lookup x=some .local:=k1;rcases hk with q | q<;>(rw[k1] at q;cases q)
   ·refine⟨c,?_,?_⟩
    ·show (clo X.env scope.names []).lookup x=_;rw[V6,if_pos (cS.mpr ⟨(x,.free),T0 hfree,by simp⟩),hcc];rfl
    ·exact hcell.keeps hsb
 ·obtain⟨v,hv⟩:=I.cell x c (clX x c e);exact⟨v,hv.keeps hsb⟩
 ·have hp:p∈X.pn++pins:=by
   rcases aj.mp hp with q | q
   ·exact q
   ·cases q
  obtain⟨a1,a2,a3,a4,a5⟩:=I.pin p hp;refine⟨hsb _ _ a1,a2,aY (aF a1),λhm=>?_,a5⟩;have hm:=I.stkSub _ hm;rcases aQ.mp hm with q | q
  ·exact a3 q
  ·exact a4 q
 ·show (st0 own fr σ).length=(own++fr.map (·.1)).length;unfold st0;rw[aq,aq,aa,aa,aa]
end
end L2
namespace L2
open PySem PySem.Spec PyProof.Rows
def PTs (X:Cx)(ifs:List Expr)(t:TT):Prop :=
 ∀(pins:List (Addr×Obj)) (s:Shared) (σ:St) (H:Hp) (Q:Bool->Hp->Prop),Inv X pins σ H s->t σ H Q ->
  wpAny (model X.prog X.w) X.A (forIn ifs true λc r=>if r=true then do let ok <- isTrue c X.env (eval c X.env);pure (bW ok) else pure (bW r)) (TP X pins σ Q) X.xe s
def b1i:TT:=λ_ H Q=>Q true H
theorem K7 {X:Cx}:PTs X [] b1i:=λpins s σ H Q I h=>wpAny_tests_nil ⟨H,I,h⟩
theorem a5p {prog:Program}{w:World}{A:Around}{R:Result->Shared->Prop}{s:Shared}{elt target iter:Expr}{ifs:List Expr}{scope:Scope}{pos:Pos}{it acc:Value}{env:Env}(I:Nat->Shared->Prop)
  (turn:∀ n s,I n s->wpAny (model prog w) A (pyNext it) (λr s₁=>match r with
   | none=>R (.ok .next) s₁
   | some v=>wpAny (model prog w) A (letOwnedTupleGo target it v) (λ_ s₁=>wpAny (model prog w) A (assign target env v) (λ_ s₂ =>
     wpAny (model prog w) A (forIn ifs true λc r=>if r=true then do let ok <- isTrue c env (eval c env);pure (bW ok) else pure (bW r)) (λok sv =>
      if ok=true then wpAny (model prog w) A (eval elt env) (λx sj =>
       wpAny (model prog w) A (call (.builtin "list.append") [acc,x]) (λ_ sk=>∃ m,m<n/\I m sk) (λ_ _=>False) sj) (λ_ _=>False) sv
      else ∃ m,m<n/\I m sv) (λ_ _=>False) s₂) (λ_ _=>False) s₁) (λ_ _=>False) s₁) (λ_ _=>False) s)
  (n:Nat) (h:I n s):codeAny (model prog w) A (.compLoop (.ListComp elt [⟨target,iter,ifs,0⟩] scope pos) 0 it acc env) R s:=by
 refine codeAny_loop rfl I (λn s hI=>?_) n h;show wpAny _ A ((compTurn (.ListComp elt [⟨target,iter,ifs,0⟩] scope pos) 0 it acc env).onRaise (λx=>do noteFrame x env;theTreesLotGoes x)) _ _ s;refine wpAny_noted ?_;rw[compTurn_list];refine af (dY (af (bO (turn n s hI) (λr s₁ h₁=>?_) λ_ _ h'=>h'.elim)));cases r with
 | none=>exact aK h₁
 | some v =>
  refine af (bO h₁ (λ_ s₁ h₁=>?_) λ_ _ h'=>h'.elim);refine af (bO h₁ (λ_ s₂ h₂=>af (bO h₂ (λok sv h₃=>?_) λ_ _ h'=>h'.elim)) λ_ _ h'=>h'.elim);cases ok with
  | false=>exact aK ⟨rfl,h₃⟩
  | true =>
   exact af (af (bO h₃ (λx sj h₄=>af (bO h₄ (λ_ sk h₅=>aK (aK ⟨rfl,h₅⟩)) λ_ _ h'=>h'.elim)) λ_ _ h'=>h'.elim))
def lcW (g:TG)(tc:TT)(te:TE)(p:Addr)(J:It)(τ0:St)(H0:Hp)(E:Hp->Prop):Prop :=
 ∃ W:Nat->Nat->St->Hp->Prop,(∃ m,W 0 m τ0 H0)/\∀ i m τ H,W i m τ H ->
  (J.stop i H/\E H)\/(J.go i H/\∃ N:St->Hp->Prop,(∀ τ' H',N τ' H'->∃ m',m'<m/\W (i+1) m' τ' H') /\
   ∀ x H',J.yld i H x H'->g x τ H' fun τ2 H2=>tc τ2 H2 λb H3=>if b=true then te τ2 H3 λv H4=>∃ ys,H4 p=some (.lst ys)/\ys.length<sizeLine/\N τ2 (upd H4 p (.lst (ys++[v]))) else N τ2 H3)
def tLC (own:List Str)(fr:List (Str×Nat))(wi:TI)(g:TG)(tc:TT)(te:TE):TE:=fun σ H Q =>
 wi σ H λJ H1=>∀ p,H1 p=none->lcW g tc te p J (st0 own fr σ) (upd H1 p (.lst [])) λH2=>Q (.ref p) H2
section
variable {X:Cx}{elt tg iter:Expr}{ifs:List Expr}{scope:Scope}{pos:Pos}{own:List Str}{fr:List (Str×Nat)}{wi:TI}{g:TG}{tc:TT}{te:TE}
structure Blk (X:Cx)(scope:Scope)(N':List Str)(tg:Expr)(ifs:List Expr)(elt:Expr)(g:TG)(tc:TT)(te:TE):Prop where
 run:∀ pins fp s H,PG (cxC X scope N' pins fp s H) tg g/\PTs (cxC X scope N' pins fp s H) ifs tc/\PE (cxC X scope N' pins fp s H) elt te
structure a2e (X:Cx)(pins:List (Addr×Obj))(H:Hp)(C:Addr):Prop where
 un:H C=none
 loc:C≠X.env.locals
 new:X.sq.heap.objs.size<=C
 cel:∀ x c,X.env.cells.lookup x=some c->c≠C
 pin:∀ p∈X.pn++pins,p.1≠C
theorem a2e.inv {pins:List (Addr×Obj)}{σ:St}{H:Hp}{s:Shared}{C:Addr}{h':Heap}(f:a2e X pins H C)(I:Inv X pins σ H s)(hs:dA C s.heap h'):Inv X pins σ H {s with heap:=h'} :=
 I.turned (t':=s.toks) (λb o hb e=>hs.extBut b o hb e) f.un f.loc (.inr f.new) f.cel f.pin
theorem a2G {pins:List (Addr×Obj)}{σ:St}{H2:Hp}{s2:Shared}{it:Addr}{fp:List Addr}{tn:Nat->Heap->Prop}{J:It}{EE:Hp->Prop}{RR:Value->Addr->Result->Shared->Prop}{E:Value->Shared->Prop}
  (hcalm:X.calm=true) (hc:a2d scope X.env.scope) (hfr:a2j X scope fr) (B:Blk X scope (own++fr.map (·.1)) tg ifs elt g tc te)
  (I2:Inv X pins σ H2 s2) (T:a6U X.prog X.w X.K tg J fp it tn) (st2:tn 0 s2.heap) (f2:∀ b∈fp,a0Q X pins H2 b)
  (hw:lcW g tc te s2.heap.objs.size J (st0 own fr σ) (upd H2 s2.heap.objs.size (.lst [])) EE)
  (hRR:∀ C H' s' m,EE H'->s'.heap.Ns C m->Inv X pins σ H' s'->a2e X pins H' C->RR (.ref s2.heap.objs.size) C (.ok .next) s') :
  wpAny (model X.prog X.w) X.A (newList []) (λacc sv=>wpAny (model X.prog X.w) X.A (newFunctionEnv scope X.env.globals (clo X.env scope.names []) [] X.env.qual none .none (some X.env)) (λcenv sj =>
   codeAny (model X.prog X.w) X.A (.compStart (.ListComp elt [⟨tg,iter,ifs,0⟩] scope pos) 0 (.ref it) acc {cenv with scope:=relabel scope X.env}) (RR acc cenv.locals) sj) E sv) E s2:=by
 have I3:Inv X pins σ (upd H2 s2.heap.objs.size (.lst [])) {s2 with heap:=s2.heap.push {cls:=.type "list",data:=.seq ([]:List Value).toArray},toks:=s2.toks}:=I2.lnew (ys:=[]) (its:=[]) (t':=s2.toks) .nil (bi _);generalize hs3:({s2 with heap:=s2.heap.push {cls:=.type "list",data:=.seq ([]:List Value).toArray},toks:=s2.toks}:Shared)=s3 at I3;have hsz3:s3.heap.objs.size=s2.heap.objs.size+1:=by rw[<- hs3];exact ik ..
 have k3:∀ b o,s2.heap.get? b=some o->s3.heap.get? b=some o:=λb o e=>by rw[<- hs3];exact ao _ e
 have hlt:∀ b∈fp,b<s2.heap.objs.size:=λb hb=>let ⟨o,e,_⟩:=T.obj _ _ st2 b hb;aF e
 have f3:∀ b∈fp,a0Q X pins (upd H2 s2.heap.objs.size (.lst [])) b:=λb hb=>⟨by rw[A8 (aY (hlt b hb))];exact (f2 b hb).1,(f2 b hb).2⟩
 have st3:tn 0 s3.heap:=T.keep _ _ _ st2 λb _ o e=>k3 b o e
 refine cR ?_;have e3:({s2 with heap:=s2.heap.push {cls:=.type "list",dict:=none,data:=.seq ([]:List Value).toArray}}:Shared)=s3:=hs3;rw[e3];refine jS hc.noCell (by intro y hy;cases hy) (λh₁ hnsz hsbz=>?_) hc.kind;have k4:∀ b o,s3.heap.get? b=some o->h₁.get? b=some o:=λb o e=>hsbz.extBut b o (aY (aF e)) (ao _ e)
 have I4:=a4K (own:=own) I3 hc hcalm f3 (λb hb=>aZ (hlt b hb) (by rw[hsz3];exact Nat.le_succ _)) hfr hnsz k4;obtain⟨bg,bt,be⟩:=B.run pins fp s3 (upd H2 s2.heap.objs.size (.lst []));generalize hX':cxC X scope (own++fr.map (·.1)) pins fp s3 (upd H2 s2.heap.objs.size (.lst []))=X' at I4 bg bt be;have eP:X'.prog=X.prog:=by rw[<- hX'];rfl
 have eW:X'.w=X.w:=by rw[<- hX'];rfl
 have eK:X'.K=X.K:=by rw[<- hX'];rfl
 have eA:X'.A=X.A:=by rw[<- hX'];rfl
 have eC:X'.calm=true:=by rw[<- hX'];rfl
 have eX:X'.xe=λ_ _=>False:=by rw[<- hX'];rfl
 have eE:X'.env=compEnvC scope (clo X.env scope.names []) s3.heap.objs.size X.env:=by rw[<- hX'];rfl
 have fC:∀ {H':Hp},(∀ b∈fp,H' b=none)->∀ b∈fp,a0Q X' [] H' b:=λhn b hb=>by
  have hb':=f3 b hb;refine⟨hn b hb,?_,?_,?_,?_,?_⟩
  ·exact (I4.ok.exf b (by rw[<- hX'];exact hb)).1
  ·exact I4.ok.exfs b (by rw[<- hX'];exact hb)
  ·left;rw[<- hX'];exact hb
  ·exact (I4.ok.exf b (by rw[<- hX'];exact hb)).2
  ·intro p hp;have hp:p∈X.pn++pins:=by
    rw[<- hX'] at hp;rcases aj.mp hp with q | q
    ·exact q
    ·cases q
   exact hb'.2.2.2.2.2 p hp
 obtain⟨W,⟨m0,w0⟩,turn⟩:=hw;have cenvE:({(newEnv scope s3.heap.objs.size X.env.globals (clo X.env scope.names []) X.env.qual none .none (some X.env) builtinsNs) with scope:=relabel scope X.env}:Env)=X'.env:=by rw[eE];rfl
 have loop:∀ s4:Shared,Inv X' [] (st0 own fr σ) (upd H2 s2.heap.objs.size (.lst [])) s4->tn 0 s4.heap ->
   codeAny (model X.prog X.w) X.A (.compLoop (.ListComp elt [⟨tg,iter,ifs,0⟩] scope pos) 0 (.ref it) (.ref s2.heap.objs.size) X'.env) (RR (.ref s2.heap.objs.size) s3.heap.objs.size) s4:=by
  intro s4 J4 t4;refine a5p (λn s'=>∃ i τ H',Inv X' [] τ H' s'/\tn i s'.heap/\(∀ b∈fp,H' b=none)/\W i n τ H') ?_ m0 ⟨0,_,_,J4,t4,λb hb=>(f3 b hb).1,w0⟩;rintro n s5 ⟨i,τ5,H5,I5,t5,fr5,w5⟩;rcases turn i n τ5 H5 w5 with ⟨stop,qn⟩ | ⟨go,N,hN,step⟩
  ·have hd:=T.done X' eP eW eK eC i [] s5 τ5 H5 (λ_ _=>False) I5 (fC fr5) t5 stop;rw[eA] at hd;refine thn hd λr s6 ⟨hr,I6⟩=>?_
   subst hr;have hbase:Un (frs X.stack) fp (upd H2 s2.heap.objs.size (.lst [])) H5 s3.heap s6.heap:=by have:=I6.base;rw[<- hX'] at this;exact this
   have hok6:HOk X.prog X.w H5 s6.heap:=by have:=I6.hok;rw[eP,eW] at this;exact this
   have os6:s6.os=s3.os:=by have:=I6.os;rw[<- hX'] at this;exact this
   obtain⟨m6,n6,_⟩:=I6.loc;have n6:s6.heap.Ns s3.heap.objs.size m6:=by rw[eE] at n6;exact n6
   have free6:H5 s3.heap.objs.size=none:=by have:=I6.free;rw[eE] at this;exact this
   refine hRR s3.heap.objs.size H5 s6 m6 qn n6 (I3.call' os6 hbase hok6 I6.bare λb hb=>⟨(f3 b hb).2.2.2.1,(f3 b hb).2.1,(f3 b hb).2.2.2.2.1,(f3 b hb).2.2.2.2.2⟩) ⟨free6,?_,I3.sz,?_,?_⟩
   ·exact (aY I3.lt).symm
   ·intro x c e z;obtain⟨v,hv⟩:=I3.cell x c e;have:=hv.lt;rw[z] at this;exact cB _ this
   ·intro p hp z;have:=aF (I3.pin p hp).1;rw[z] at this;exact cB _ this
  ·have hi:=T.item X' eP eW eK eC i [] s5 τ5 H5 (λ_ _=>False) I5 (fC fr5) t5 go;rw[eA] at hi;refine thn hi λr s6 ⟨u,hr,h6⟩=>?_
   subst hr;refine thn h6 λ_ s7 ⟨x,H7,I7,r7,y7,t7,fr7⟩=>?_
   have I7':=I7.pinned (fC fr7) (T.obj _ _ t7);have again:∀ {τ:St} {H':Hp} {s':Shared},Inv X' ([]++Z8 fp s7.heap) τ H' s'->N τ H'->∃ m,m<n/\∃ i τ H',Inv X' [] τ H' s'/\tn i s'.heap/\(∀ b∈fp,H' b=none)/\W i m τ H':=λ{τ H' s'} I8 n8=>by
    obtain⟨m',hm,w8⟩:=hN τ H' n8;refine⟨m',hm,i+1,τ,H',I8.unpinned,T.keep _ _ _ t7 λb hb o e=>(I8.pin (b,o) (bj _ (bj _ (S5 hb e)))).1,λb hb=>?_,w8⟩;obtain⟨o,e,d⟩:=T.obj _ _ t7 b hb;exact (I8.pin (b,o) (bj _ (bj _ (S5 hb e)))).2.1
   have hg:=bg _ s7 τ5 H7 x u _ I7' r7 (step x H7 y7);rw[eP,eW,eA,eX] at hg;refine thn hg λ_ s8 ⟨τ8,H8,I8,q8⟩=>?_
   have ht:=bt _ s8 τ8 H8 _ I8 q8;rw[eP,eW,eA,eX] at ht;refine thn ht λok s9 ⟨H9,I9,q9⟩=>?_
   cases ok with
   | false=>exact again I9 q9
   | true =>
    rw[if_pos rfl] at q9 ⊢;have hv:=be _ s9 τ8 H9 _ I9 q9;rw[eP,eW,eA,eX] at hv;refine thn hv λy s10 ⟨v,H10,I10,r10,ys,hl,hlen,n10⟩=>?_
    have ha:=a2F (X:=X') _ s10 τ8 H10 (.ref s2.heap.objs.size) [v] (.ref s2.heap.objs.size) [y] (λ_ H'=>N τ8 H') I10 rfl (.cons r10 .nil) ⟨_,_,_,rfl,rfl,hl,hlen,n10⟩;rw[eP,eW,eA,eX] at ha;exact thn ha λ_ s11 ⟨_,H11,I11,_,n11⟩=>again I11 n11
 have st4:tn 0 h₁:=T.keep _ _ _ st3 λb _ o e=>k4 b o e
 show codeAny (model X.prog X.w) X.A (.compStart (.ListComp elt [⟨tg,iter,ifs,0⟩] scope pos) 0 (.ref it) (.ref s2.heap.objs.size) ({(newEnv scope s3.heap.objs.size X.env.globals (clo X.env scope.names []) X.env.qual none .none (some X.env) builtinsNs) with scope:=relabel scope X.env}:Env)) (RR (.ref s2.heap.objs.size) s3.heap.objs.size) _;rw[cenvE];exact codeAny_compStart_list (loop _ I4 st4) (T.self X.A 0 _ _ _ st4 (loop _ I4 st4))
theorem a3x {pins:List (Addr×Obj)}{σ:St}{H:Hp}{s:Shared}(I:Inv X pins σ H s)(hc:a2d scope X.env.scope):closureFor scope X.env=pure (clo X.env scope.names []) :=
 a4R λy hy e=>I.ok.has y.1 (hc.free y hy e)
theorem N7 (hcalm:X.calm=true)(hc:a0N scope X.env.scope=true)(hfr:a2j X scope fr)(hi:PI X tg iter wi)(B:Blk X scope (own++fr.map (·.1)) tg ifs elt g tc te)
  (hs:∀ x,foldedSetIterable iter X.env x=pure x:=by intro _;rfl):PE X (.ListComp elt [⟨tg,iter,ifs,0⟩] scope pos) (tLC own fr wi g tc te):=by
 intro pins s σ H Q I h;have hc:=Y7 hc;rw[eval_ListComp];refine dR (use:=none) rfl hs (a3x I hc) hc.kind hc.loc (thn (hi pins s σ H _ I h) λv s1 h1=>thn h1 λitv s2 h2=>?_);obtain⟨it,fp,tn,J,H2,e,I2,T,st2,f2,hw⟩:=h2;subst e;refine a2G (RR:=λacc C=>compPost (model X.prog X.w) X.A X.xe none (EP X pins σ Q) acc C) hcalm hc hfr B I2 T st2 f2 (hw _ I2.fresh) ?_;intro C H' s' m q n I' f;exact⟨m,n,λh' hs'=>⟨.ref s2.heap.objs.size,H',f.inv I' hs',rfl,q⟩⟩
theorem W8 {i:Nat}{x:Str}{px spos:Pos}(hcalm:X.calm=true)(hN:X.N.Nodup)(hx:X.N[i]?=some x)(hl:X.env.scope.names.lookup x=some .local)(hsw:swapsWith (.ListComp elt [⟨tg,iter,ifs,0⟩] scope pos) (some (.Name x px)) spos.line X.env=pure true)
  (hc:a0N scope X.env.scope=true) (hfr:a2j X scope fr) (hi:PI X tg iter wi) (B:Blk X scope (own++fr.map (·.1)) tg ifs elt g tc te)
  (hs:∀ x,foldedSetIterable iter X.env x=pure x:=by intro _;rfl):PS X (.Assign [.Name x px] (.ListComp elt [⟨tg,iter,ifs,0⟩] scope pos) spos) (a5b (tLC own fr wi g tc te) (P4 i)):=by
 intro pins s σ H D I h;have hc:=Y7 hc;rw[exec_Assign_Name_used _ _ _ _ hsw];refine af (dY (af ?_));show wpAny _ X.A (do let _ <- comprehension (.ListComp elt [⟨tg,iter,ifs,0⟩] scope pos) scope X.env _ (newList []) false (eval iter X.env) (some (assign (.Name x px) X.env))) _ _ s
 refine af (bO (dR (use:=some (assign (.Name x px) X.env)) (Q:=λ_ s'=>SP X pins D .next s') rfl hs (a3x I hc) hc.kind hc.loc
  (thn (hi pins s σ H _ I h) λv s1 h1=>thn h1 λitv s2 h2=>?_)) (λ_ s' hq=>aK (aK hq)) λ_ _ e=>e)
 obtain⟨it,fp,tn,J,H2,e,I2,T,st2,f2,hw⟩:=h2;subst e;refine a2G (RR:=λacc C=>compPost (model X.prog X.w) X.A X.xe (some (assign (.Name x px) X.env)) (λ_ s'=>SP X pins D .next s') acc C) hcalm hc hfr B I2 T st2 f2 (hw _ I2.fresh) ?_;intro C H' s' m q n I' f;show wpAny _ X.A (assign (.Name x px) X.env (.ref s2.heap.objs.size)) _ _ _;refine hJ (a0D I' hN hx (.inl hl) (v:=.ref s2.heap.objs.size) rfl (λs'' I'' hch=>?_) (.inr hl));obtain⟨a,sb,ha⟩:=hch;have hCa:C≠a:=by
  rcases ha with ha | ha
  ·rw[ha];exact f.loc
  ·exact λz=>f.cel x a ha z.symm
 exact⟨m,n.sameBut sb hCa,λh' hs'=>⟨_,H',f.inv I'' hs',q⟩⟩
end
end L2
namespace L2
open PySem PySem.Spec PyProof.Rows
theorem a5w {prog:Program}{w:World}{A:Around}{R:Result->Shared->Prop}{s:Shared}{kx vx target iter:Expr}{ifs:List Expr}{scope:Scope}{pos:Pos}{it:Value}{D:Addr}{env:Env}(I:Nat->Shared->Prop)
  (turn:∀ n s,I n s->wpAny (model prog w) A (pyNext it) (λr s₁=>match r with
   | none=>R (.ok .next) s₁
   | some v=>wpAny (model prog w) A (letOwnedTupleGo target it v) (λ_ s₁=>wpAny (model prog w) A (assign target env v) (λ_ s₂ =>
     wpAny (model prog w) A (forIn ifs true λc r=>if r=true then do let ok <- isTrue c env (eval c env);pure (bW ok) else pure (bW r)) (λok sv =>
      if ok=true then wpAny (model prog w) A (eval kx env) (λkv sj=>wpAny (model prog w) A (eval vx env) (λvv sj =>
       wpAny (model prog w) A (dictSet D kv vv) (λ_ sk=>∃ m,m<n/\I m sk) (λ_ _=>False) sj) (λ_ _=>False) sj) (λ_ _=>False) sv
      else ∃ m,m<n/\I m sv) (λ_ _=>False) s₂) (λ_ _=>False) s₁) (λ_ _=>False) s₁) (λ_ _=>False) s)
  (n:Nat) (h:I n s):codeAny (model prog w) A (.compLoop (.DictComp kx vx [⟨target,iter,ifs,0⟩] scope pos) 0 it (.ref D) env) R s:=by
 refine codeAny_loop rfl I (λn s hI=>?_) n h;show wpAny _ A ((compTurn (.DictComp kx vx [⟨target,iter,ifs,0⟩] scope pos) 0 it (.ref D) env).onRaise (λx=>do noteFrame x env;theTreesLotGoes x)) _ _ s;refine wpAny_noted ?_;rw[compTurn_dict];refine af (dY (af (bO (turn n s hI) (λr s₁ h₁=>?_) λ_ _ h'=>h'.elim)));cases r with
 | none=>exact aK h₁
 | some v =>
  refine af (bO h₁ (λ_ s₁ h₁=>?_) λ_ _ h'=>h'.elim);refine af (bO h₁ (λ_ s₂ h₂=>af (bO h₂ (λok sv h₃=>?_) λ_ _ h'=>h'.elim)) λ_ _ h'=>h'.elim);cases ok with
  | false=>exact aK ⟨rfl,h₃⟩
  | true =>
   exact af (af (bO h₃ (λkv sj h₄=>af (ce (bO h₄ (λvv sk h₅=>af (dY (ce (bO h₅ (λ_ sw h₆=>aK ⟨rfl,h₆⟩) λ_ _ h'=>h'.elim)))) λ_ _ h'=>h'.elim))) λ_ _ h'=>h'.elim))
theorem a6P {X:Cx}{pins:List (Addr×Obj)}{σ:St}{H:Hp}{s:Shared}{a:Addr}{y v:V}{u r:Value}{A:Around}{E:Value->Shared->Prop}{H':Hp}{Q:Unit->Shared->Prop}(hu:A.units+1<cLine)(I:Inv X pins σ H s)(g:X7 H a y v H')(ry:C3 y u)(rv:C3 v r)(h:∀ s',Inv X pins σ H' s'->Q () s') :
  wpAny (model X.prog X.w) A (dictSet a u r) Q E s:=by
 rcases g with ⟨kvs,k,e,ey,l,eH⟩ | ⟨kvs,k,b,e,ey,eb,l,eH⟩
 ·subst ey eH;obtain⟨z,hd,vs,rel,dd⟩:=a2N I.hok e;have hz:vs.length<=sizeLine:=by rw[<- rel.length];exact z
  have hl:(S4 kvs k v).length<=sizeLine:=by have:=R0 kvs k v;omega
  refine wpAny_dictSet_pairs (hsz:=hz) (a1h ry) dd λh' dd' hs=>h _ ?_
  have he:∃ q,h'.get? a=some q:=let ⟨q,_,_,hq,_⟩:=dd';⟨q,hq⟩;exact Y6 I (by rw[e];exact cF) hs he (a3v hl hd (rel.put k rv) dd')
 ·subst ey eH;cases (show u=bd b from ry);obtain⟨z,hd,xs,rel,dd⟩:=b1b I.hok e;have hz:xs.length<=sizeLine:=by rw[<- dH rel];exact z
  have hl:(S4 kvs k v).length<=sizeLine:=by have:=R0 kvs k v;omega
  refine wpAny_dictSet_heap (hsz:=hz) (show (tupleKind (J8 X.prog X.w)).room A from Nat.lt_of_succ_lt hu) (a0L I.hok eb) dd λh' dd' hs=>h _ ?_
  obtain⟨q,es,ep,hq,h2,h3,h4,_,h5⟩:=dd';refine Y6 I (by rw[e];exact cF) hs ⟨q,hq⟩ ⟨hl,hd,_,(rel.put k eb rv).keeps λc ys ec=>?_,q,es,ep,hq,h2,h3,h4,h5⟩;rw[A8 (b0V ec e (λz=>nomatch z))];exact ec
def a2k:Bool->HO
 | true=>.dT []
 | false=>.dK []
theorem b0u {P:Program}{w:World}{H:Hp}(h:Heap)(hb:sysModules<h.objs.size):∀ t,K8 P w H (h.push {cls:=.type "dict",data:=.dict #[]}) h.objs.size (a2k t)
 | true=>a4O h hb
 | false=>a1Y h hb
def dcW (g:TG)(tc:TT)(te tv:TE)(p:Addr)(J:It)(τ0:St)(H0:Hp)(E:Hp->Prop):Prop :=
 ∃ W:Nat->Nat->St->Hp->Prop,(∃ m,W 0 m τ0 H0)/\∀ i m τ H,W i m τ H ->
  (J.stop i H/\E H)\/(J.go i H/\∃ N:St->Hp->Prop,(∀ τ' H',N τ' H'->∃ m',m'<m/\W (i+1) m' τ' H') /\
   ∀ x H',J.yld i H x H'->g x τ H' fun τ2 H2=>tc τ2 H2 λb H3=>if b=true then te τ2 H3 λk H4=>tv τ2 H4 λv H5=>∃ H6,X7 H5 p k v H6/\N τ2 H6 else N τ2 H3)
def tDC (t:Bool)(own:List Str)(fr:List (Str×Nat))(wi:TI)(g:TG)(tc:TT)(te tv:TE):TE:=fun σ H Q =>
 wi σ H λJ H1=>∀ p,H1 p=none->dcW g tc te tv p J (st0 own fr σ) (upd H1 p (a2k t)) λH2=>Q (.ref p) H2
section
variable {X:Cx}{kx vx tg iter:Expr}{ifs:List Expr}{scope:Scope}{pos:Pos}{own:List Str}{fr:List (Str×Nat)}{wi:TI}{g:TG}{tc:TT}{te tv:TE}
structure b2Y (X:Cx)(scope:Scope)(N':List Str)(tg:Expr)(ifs:List Expr)(kx vx:Expr)(g:TG)(tc:TT)(te tv:TE):Prop where
 run:∀ pins fp s H,PG (cxC X scope N' pins fp s H) tg g/\PTs (cxC X scope N' pins fp s H) ifs tc/\PE (cxC X scope N' pins fp s H) kx te/\PE (cxC X scope N' pins fp s H) vx tv
theorem a2P {pins:List (Addr×Obj)}{σ:St}{H2:Hp}{s2:Shared}{it:Addr}{fp:List Addr}{tn:Nat->Heap->Prop}{J:It}{EE:Hp->Prop}{RR:Value->Addr->Result->Shared->Prop}{E:Value->Shared->Prop}
  (t:Bool) (hu:X.A.units+1<cLine) (hcalm:X.calm=true) (hc:a2d scope X.env.scope) (hfr:a2j X scope fr) (B:b2Y X scope (own++fr.map (·.1)) tg ifs kx vx g tc te tv)
  (I2:Inv X pins σ H2 s2) (T:a6U X.prog X.w X.K tg J fp it tn) (st2:tn 0 s2.heap) (f2:∀ b∈fp,a0Q X pins H2 b)
  (hw:dcW g tc te tv s2.heap.objs.size J (st0 own fr σ) (upd H2 s2.heap.objs.size (a2k t)) EE)
  (hRR:∀ C H' s' m,EE H'->s'.heap.Ns C m->Inv X pins σ H' s'->a2e X pins H' C->RR (.ref s2.heap.objs.size) C (.ok .next) s') :
  wpAny (model X.prog X.w) X.A newDict (λacc sv=>wpAny (model X.prog X.w) X.A (newFunctionEnv scope X.env.globals (clo X.env scope.names []) [] X.env.qual none .none (some X.env)) (λcenv sj =>
   codeAny (model X.prog X.w) X.A (.compStart (.DictComp kx vx [⟨tg,iter,ifs,0⟩] scope pos) 0 (.ref it) acc {cenv with scope:=relabel scope X.env}) (RR acc cenv.locals) sj) E sv) E s2:=by
 have I3:Inv X pins σ (upd H2 s2.heap.objs.size (a2k t)) {s2 with heap:=s2.heap.push {cls:=.type "dict",data:=.dict #[]},toks:=s2.toks}:=I2.laid (t':=s2.toks) (λ_ _ q=>ao _ q) (ak _) (b0u s2.heap I2.big t);generalize hs3:({s2 with heap:=s2.heap.push {cls:=.type "dict",data:=.dict #[]},toks:=s2.toks}:Shared)=s3 at I3;have hsz3:s3.heap.objs.size=s2.heap.objs.size+1:=by rw[<- hs3];exact ik ..
 have k3:∀ b o,s2.heap.get? b=some o->s3.heap.get? b=some o:=λb o e=>by rw[<- hs3];exact ao _ e
 have hlt:∀ b∈fp,b<s2.heap.objs.size:=λb hb=>let ⟨o,e,_⟩:=T.obj _ _ st2 b hb;aF e
 have f3:∀ b∈fp,a0Q X pins (upd H2 s2.heap.objs.size (a2k t)) b:=λb hb=>⟨by rw[A8 (aY (hlt b hb))];exact (f2 b hb).1,(f2 b hb).2⟩
 have st3:tn 0 s3.heap:=T.keep _ _ _ st2 λb _ o e=>k3 b o e
 refine cR ?_;have e3:({s2 with heap:=s2.heap.push {cls:=.type "dict",dict:=none,data:=.dict #[]}}:Shared)=s3:=hs3;rw[e3];refine jS hc.noCell (by intro y hy;cases hy) (λh₁ hnsz hsbz=>?_) hc.kind;have k4:∀ b o,s3.heap.get? b=some o->h₁.get? b=some o:=λb o e=>hsbz.extBut b o (aY (aF e)) (ao _ e)
 have I4:=a4K (own:=own) I3 hc hcalm f3 (λb hb=>aZ (hlt b hb) (by rw[hsz3];exact Nat.le_succ _)) hfr hnsz k4;obtain⟨bg,bt,be,bv⟩:=B.run pins fp s3 (upd H2 s2.heap.objs.size (a2k t));generalize hX':cxC X scope (own++fr.map (·.1)) pins fp s3 (upd H2 s2.heap.objs.size (a2k t))=X' at I4 bg bt be bv;have eP:X'.prog=X.prog:=by rw[<- hX'];rfl
 have eW:X'.w=X.w:=by rw[<- hX'];rfl
 have eK:X'.K=X.K:=by rw[<- hX'];rfl
 have eA:X'.A=X.A:=by rw[<- hX'];rfl
 have eC:X'.calm=true:=by rw[<- hX'];rfl
 have eX:X'.xe=λ_ _=>False:=by rw[<- hX'];rfl
 have eE:X'.env=compEnvC scope (clo X.env scope.names []) s3.heap.objs.size X.env:=by rw[<- hX'];rfl
 have fC:∀ {H':Hp},(∀ b∈fp,H' b=none)->∀ b∈fp,a0Q X' [] H' b:=λhn b hb=>by
  have hb':=f3 b hb;refine⟨hn b hb,?_,?_,?_,?_,?_⟩
  ·exact (I4.ok.exf b (by rw[<- hX'];exact hb)).1
  ·exact I4.ok.exfs b (by rw[<- hX'];exact hb)
  ·left;rw[<- hX'];exact hb
  ·exact (I4.ok.exf b (by rw[<- hX'];exact hb)).2
  ·intro p hp;have hp:p∈X.pn++pins:=by
    rw[<- hX'] at hp;rcases aj.mp hp with q | q
    ·exact q
    ·cases q
   exact hb'.2.2.2.2.2 p hp
 obtain⟨W,⟨m0,w0⟩,turn⟩:=hw;have cenvE:({(newEnv scope s3.heap.objs.size X.env.globals (clo X.env scope.names []) X.env.qual none .none (some X.env) builtinsNs) with scope:=relabel scope X.env}:Env)=X'.env:=by rw[eE];rfl
 have loop:∀ s4:Shared,Inv X' [] (st0 own fr σ) (upd H2 s2.heap.objs.size (a2k t)) s4->tn 0 s4.heap ->
   codeAny (model X.prog X.w) X.A (.compLoop (.DictComp kx vx [⟨tg,iter,ifs,0⟩] scope pos) 0 (.ref it) (.ref s2.heap.objs.size) X'.env) (RR (.ref s2.heap.objs.size) s3.heap.objs.size) s4:=by
  intro s4 J4 t4;refine a5w (λn s'=>∃ i τ H',Inv X' [] τ H' s'/\tn i s'.heap/\(∀ b∈fp,H' b=none)/\W i n τ H') ?_ m0 ⟨0,_,_,J4,t4,λb hb=>(f3 b hb).1,w0⟩;rintro n s5 ⟨i,τ5,H5,I5,t5,fr5,w5⟩;rcases turn i n τ5 H5 w5 with ⟨stop,qn⟩ | ⟨go,N,hN,step⟩
  ·have hd:=T.done X' eP eW eK eC i [] s5 τ5 H5 (λ_ _=>False) I5 (fC fr5) t5 stop;rw[eA] at hd;refine thn hd λr s6 ⟨hr,I6⟩=>?_
   subst hr;have hbase:Un (frs X.stack) fp (upd H2 s2.heap.objs.size (a2k t)) H5 s3.heap s6.heap:=by have:=I6.base;rw[<- hX'] at this;exact this
   have hok6:HOk X.prog X.w H5 s6.heap:=by have:=I6.hok;rw[eP,eW] at this;exact this
   have os6:s6.os=s3.os:=by have:=I6.os;rw[<- hX'] at this;exact this
   obtain⟨m6,n6,_⟩:=I6.loc;have n6:s6.heap.Ns s3.heap.objs.size m6:=by rw[eE] at n6;exact n6
   have free6:H5 s3.heap.objs.size=none:=by have:=I6.free;rw[eE] at this;exact this
   refine hRR s3.heap.objs.size H5 s6 m6 qn n6 (I3.call' os6 hbase hok6 I6.bare λb hb=>⟨(f3 b hb).2.2.2.1,(f3 b hb).2.1,(f3 b hb).2.2.2.2.1,(f3 b hb).2.2.2.2.2⟩) ⟨free6,?_,I3.sz,?_,?_⟩
   ·exact (aY I3.lt).symm
   ·intro x c e z;obtain⟨v,hv⟩:=I3.cell x c e;have:=hv.lt;rw[z] at this;exact cB _ this
   ·intro p hp z;have:=aF (I3.pin p hp).1;rw[z] at this;exact cB _ this
  ·have hi:=T.item X' eP eW eK eC i [] s5 τ5 H5 (λ_ _=>False) I5 (fC fr5) t5 go;rw[eA] at hi;refine thn hi λr s6 ⟨u,hr,h6⟩=>?_
   subst hr;refine thn h6 λ_ s7 ⟨x,H7,I7,r7,y7,t7,fr7⟩=>?_
   have I7':=I7.pinned (fC fr7) (T.obj _ _ t7);have again:∀ {τ:St} {H':Hp} {s':Shared},Inv X' ([]++Z8 fp s7.heap) τ H' s'->N τ H'->∃ m,m<n/\∃ i τ H',Inv X' [] τ H' s'/\tn i s'.heap/\(∀ b∈fp,H' b=none)/\W i m τ H':=λ{τ H' s'} I8 n8=>by
    obtain⟨m',hm,w8⟩:=hN τ H' n8;refine⟨m',hm,i+1,τ,H',I8.unpinned,T.keep _ _ _ t7 λb hb o e=>(I8.pin (b,o) (bj _ (bj _ (S5 hb e)))).1,λb hb=>?_,w8⟩;obtain⟨o,e,d⟩:=T.obj _ _ t7 b hb;exact (I8.pin (b,o) (bj _ (bj _ (S5 hb e)))).2.1
   have hg:=bg _ s7 τ5 H7 x u _ I7' r7 (step x H7 y7);rw[eP,eW,eA,eX] at hg;refine thn hg λ_ s8 ⟨τ8,H8,I8,q8⟩=>?_
   have ht:=bt _ s8 τ8 H8 _ I8 q8;rw[eP,eW,eA,eX] at ht;refine thn ht λok s9 ⟨H9,I9,q9⟩=>?_
   cases ok with
   | false=>exact again I9 q9
   | true =>
    rw[if_pos rfl] at q9 ⊢;have hv:=be _ s9 τ8 H9 _ I9 q9;rw[eP,eW,eA,eX] at hv;refine thn hv λky s10 ⟨kk,H10,I10,r10,q10⟩=>?_
    have hv:=bv _ s10 τ8 H10 _ I10 q10;rw[eP,eW,eA,eX] at hv;refine thn hv λy s11 ⟨v,H11,I11,r11,H12,dp,n12⟩=>?_
    have ha:=a6P (A:=X.A) (E:=λ_ _=>False) (Q:=λ_ s12=>Inv X' ([]++Z8 fp s7.heap) τ8 H12 s12) hu I11 dp r10 r11 λs12 I12=>I12
    rw[eP,eW] at ha;exact thn ha λ_ s12 I12=>again I12 n12
 have st4:tn 0 h₁:=T.keep _ _ _ st3 λb _ o e=>k4 b o e
 show codeAny (model X.prog X.w) X.A (.compStart (.DictComp kx vx [⟨tg,iter,ifs,0⟩] scope pos) 0 (.ref it) (.ref s2.heap.objs.size) ({(newEnv scope s3.heap.objs.size X.env.globals (clo X.env scope.names []) X.env.qual none .none (some X.env) builtinsNs) with scope:=relabel scope X.env}:Env)) (RR (.ref s2.heap.objs.size) s3.heap.objs.size) _;rw[cenvE];exact codeAny_compStart_dict (loop _ I4 st4) (T.self X.A 0 _ _ _ st4 (loop _ I4 st4))
theorem a7N (t:Bool)(hu:X.A.units+1<cLine)(hcalm:X.calm=true)(hc:a0N scope X.env.scope=true)(hfr:a2j X scope fr)(hi:PI X tg iter wi)(B:b2Y X scope (own++fr.map (·.1)) tg ifs kx vx g tc te tv)
  (hs:∀ x,foldedSetIterable iter X.env x=pure x:=by intro _;rfl):PE X (.DictComp kx vx [⟨tg,iter,ifs,0⟩] scope pos) (tDC t own fr wi g tc te tv):=by
 intro pins s σ H Q I h;have hc:=Y7 hc;rw[arm_eval_DictComp];refine dR (use:=none) rfl hs (a3x I hc) hc.kind hc.loc (thn (hi pins s σ H _ I h) λv s1 h1=>thn h1 λitv s2 h2=>?_);obtain⟨it,fp,tn,J,H2,e,I2,T,st2,f2,hw⟩:=h2;subst e;refine a2P (RR:=λacc C=>compPost (model X.prog X.w) X.A X.xe none (EP X pins σ Q) acc C) t hu hcalm hc hfr B I2 T st2 f2 (hw _ I2.fresh) ?_;intro C H' s' m q n I' f;exact⟨m,n,λh' hs'=>⟨.ref s2.heap.objs.size,H',f.inv I' hs',rfl,q⟩⟩
theorem a7G {i:Nat}{x:Str}{px spos:Pos}(t:Bool)(hu:X.A.units+1<cLine)(hcalm:X.calm=true)(hN:X.N.Nodup)(hx:X.N[i]?=some x)(hl:X.env.scope.names.lookup x=some .local)(hsw:swapsWith (.DictComp kx vx [⟨tg,iter,ifs,0⟩] scope pos) (some (.Name x px)) spos.line X.env=pure true)
  (hc:a0N scope X.env.scope=true) (hfr:a2j X scope fr) (hi:PI X tg iter wi) (B:b2Y X scope (own++fr.map (·.1)) tg ifs kx vx g tc te tv)
  (hs:∀ x,foldedSetIterable iter X.env x=pure x:=by intro _;rfl):PS X (.Assign [.Name x px] (.DictComp kx vx [⟨tg,iter,ifs,0⟩] scope pos) spos) (a5b (tDC t own fr wi g tc te tv) (P4 i)):=by
 intro pins s σ H D I h;have hc:=Y7 hc;rw[exec_Assign_Name_used _ _ _ _ hsw];refine af (dY (af ?_));show wpAny _ X.A (do let _ <- comprehension (.DictComp kx vx [⟨tg,iter,ifs,0⟩] scope pos) scope X.env _ newDict false (eval iter X.env) (some (assign (.Name x px) X.env))) _ _ s
 refine af (bO (dR (use:=some (assign (.Name x px) X.env)) (Q:=λ_ s'=>SP X pins D .next s') rfl hs (a3x I hc) hc.kind hc.loc
  (thn (hi pins s σ H _ I h) λv s1 h1=>thn h1 λitv s2 h2=>?_)) (λ_ s' hq=>aK (aK hq)) λ_ _ e=>e)
 obtain⟨it,fp,tn,J,H2,e,I2,T,st2,f2,hw⟩:=h2;subst e;refine a2P (RR:=λacc C=>compPost (model X.prog X.w) X.A X.xe (some (assign (.Name x px) X.env)) (λ_ s'=>SP X pins D .next s') acc C) t hu hcalm hc hfr B I2 T st2 f2 (hw _ I2.fresh) ?_;intro C H' s' m q n I' f;show wpAny _ X.A (assign (.Name x px) X.env (.ref s2.heap.objs.size)) _ _ _;refine hJ (a0D I' hN hx (.inl hl) (v:=.ref s2.heap.objs.size) rfl (λs'' I'' hch=>?_) (.inr hl));obtain⟨a,sb,ha⟩:=hch;have hCa:C≠a:=by
  rcases ha with ha | ha
  ·rw[ha];exact f.loc
  ·exact λz=>f.cel x a ha z.symm
 exact⟨m,n.sameBut sb hCa,λh' hs'=>⟨_,H',f.inv I'' hs',q⟩⟩
end
end L2
end
section
namespace Srt
open PySem PyProof.Rows
section
variable {prog:Program}{w:World}{A:Around}{E:Value->Shared->Prop}{s:Shared}{O:KeyOrd}{key:Value->O.α}{knd:SortKind}
def Asks (prog:Program)(w:World)(A:Around)(O:KeyOrd)(key:Value->O.α)(knd:SortKind)(vs:List Value)(s:Shared):Prop :=
 (2<=vs.length->∀(E:Value->Shared->Prop) (Q:SortKind->Shared->Prop),Q knd s->wpAny (model prog w) A (keyKind' vs.toArray) Q E s) /\
 ∀ x∈vs,∀ y∈vs,∀(E:Value->Shared->Prop) (Q:Bool->Shared->Prop),Q (O.blt (key x) (key y)) s->wpAny (model prog w) A (keyLt' knd x y) Q E s
theorem mem_pairs {vs:List Value}{p:Keyed}(h:p∈(pairsOf vs).toList):p.1∈vs/\p.1=p.2:=by
 rw[pairsOf_toList] at h;obtain⟨i,hi⟩:=bY.mp h;rw[fj] at hi;refine⟨bY.mpr ⟨i,hi.1⟩,?_⟩;have:=hi.1.symm.trans hi.2;exact aI this
theorem cmp_of {vs:List Value}(h:Asks prog w A O key knd vs s):Ts.Cmp (model prog w) A E s knd O (λp=>key p.1) (pairsOf vs):=by
 intro p hp q hq st Q hk hQ;rw[lt'_eq];refine ai (fI ?_);rw[hk];refine ai (wpS_lift (jl (h.2 p.1 (mem_pairs hp).1 q.1 (mem_pairs hq).1 _ _ ⟨rfl,?_⟩)));exact ah hQ
theorem out_of {vs:List Value}{xs:Array Keyed}(hp:xs.Perm (pairsOf vs))(hs:Ts.Seg (O:=O) (λp=>key p.1) xs 0 (pairsOf vs).size) :
  (xs.map (·.2)).toList.Perm vs/\(xs.map (·.2)).toList.Pairwise λx y=>O.kle (key x) (key y):=by
 have hp':=hG.mp hp;have hsz:xs.size=(pairsOf vs).size:=hp.size_eq;rw[Array.toList_map];refine⟨?_,?_⟩
 ·refine (hp'.map _).trans ?_;rw[pairsOf_toList,show (vs.zip vs).map (·.2)=vs from gI (ak _)]
 ·rw[cM];rw[<- hsz] at hs;refine (Ts.pw_of_seg hs).imp_of_mem λ{a b} ha hb hab=>?_
  have e1:=(mem_pairs (hp'.mem_iff.mp ha)).2;have e2:=(mem_pairs (hp'.mem_iff.mp hb)).2;rw[<- e1,<- e2];exact hab
theorem list_sort_any {a:Addr}{vs:List Value}{n:Nat}{P:Fin->Shared->Prop}(ho:s.heap.get? a=some (seqObj "list" vs.toArray n))(hz:vs.length<=sizeLine)
  (hA:∀ s':Shared,(∀ b o,b≠a->s.heap.get? b=some o->s'.heap.get? b=some o)->Asks prog w A O key knd vs s')
  (h:∀ out:Array Value,out.toList.Perm vs->(out.toList.Pairwise λx y=>O.kle (key x) (key y))->P (.done (.ret .none)) {s with heap:=sortedHeap s.heap a vs out}) :
  wpAny (model prog w) A (Builtin.«list.sort» ⟨[.ref a],[]⟩) P E s:=by
 rw[list_sort_plain];have ha:a<s.heap.objs.size:=aF ho;have hsz:vs.toArray.size=vs.length:=by simp
 refine af (listItems_at ho rfl ?_);refine af (listUpdate_at ho rfl ?_ (hsz:=by rw[hsz];exact hz));obtain⟨e1,ho1⟩:∃ e1,(s.heap.update a (Obj.mapSeq λ_=>#[])).get? a=some (seqObj "list" #[] e1):=⟨_,get?_update_seq ho (λ_=>#[])⟩
 refine af (seqEpoch_at ho1 rfl ?_);refine af (wpAny_newTuple ?_ (~~~hz));refine af (gN ?_);refine ce ?_;have ho6:(((s.heap.update a (Obj.mapSeq λ_=>#[])).push (seqObj "tuple" vs.toArray 0)).push (seqObj "list" #[] 0)).get? a=some (seqObj "list" #[] e1):=by
  rw[jC _ _ _ (by rw[size_push',Heap.size_update];exact aY (jQ ha)),jC _ _ _ (by rw[Heap.size_update];exact aY ha)];exact ho1
 have keep:∀ b o,b≠a->s.heap.get? b=some o->(((s.heap.update a (Obj.mapSeq λ_=>#[])).push (seqObj "tuple" vs.toArray 0)).push (seqObj "list" #[] 0)).get? b=some o:=λb o hb e =>
  ao _ (ao _ ((dU ..).extBut b o hb e))
 show wpAny (model prog w) A _ P E {s with heap:=((s.heap.update a (Obj.mapSeq λ_=>#[])).push (seqObj "tuple" vs.toArray 0)).push (seqObj "list" #[] 0)};dsimp only;have hA':=hA {s with heap:=((s.heap.update a (Obj.mapSeq λ_=>#[])).push (seqObj "tuple" vs.toArray 0)).push (seqObj "list" #[] 0)} keep;by_cases h2:vs.toArray.size<2
 ·rw[if_pos h2,if_pos h2];refine af (aK ?_);rw[StateT.run_pure];refine af (aK ?_);dsimp only;refine af (seqEpoch_at ho6 rfl ?_);refine af (listUpdate_at ho6 rfl ?_ (hsz2:=by rw[Array.size_map];show (pairsOf vs).size<=_;rw[pairsOf_size];omega));simp only[bne_self_eq_false,aW,if_false]
  have o:=out_of (O:=O) (key:=key) (vs:=vs) (Array.Perm.refl _) (λi j h0 hij hj=>by
   rw[pairsOf_size] at hj;have:i=j:=∅
   subst this;exact ci _)
  exact aK (h _ o.1 o.2)
 ·rw[if_neg h2,if_neg h2];refine af (hA'.1 ∅ _ _ ?_)
  refine af (bO (Ts.wpS_sR (O:=O) (key:=λp=>key p.1) (a₀:=pairsOf vs) (knd:=knd) (st:=eI knd (vs.toArray.zip vs.toArray) #[] 7 none)
   (Q:=λ_ st'=>(arrOf st').Perm (pairsOf vs)/\failedOf st'=none/\Ts.Seg (O:=O) (λp=>key p.1) (arrOf st') 0 (pairsOf vs).size)
   (cmp_of hA') ⟨Array.Perm.refl _,rfl,rfl⟩ rfl (by rw[pairsOf_size];omega) λst' hB hS=>⟨hB.perm,hB.failed,hS⟩) ?_ λ_ _ e=>e)
  rintro⟨⟨⟩,st'⟩ s' ⟨rfl,hp,hf,hs⟩;dsimp only;refine af (seqEpoch_at ho6 rfl ?_);refine af (listUpdate_at ho6 rfl ?_ (hsz2:=by refine aM (iZ ((Array.size_map ..).trans (hp.size_eq.trans (pairsOf_size _)))) ?_;omega));rw[hf];simp only[bne_self_eq_false,aW,if_false];have o:=out_of hp hs;exact aK (h _ o.1 o.2)
def Coll (prog:Program)(w:World)(A:Around)(r:Addr)(s:Shared)(C:List Value->Prop):Prop :=
 ∀(E:Value->Shared->Prop) (R:List Value->Shared->Prop),(∀(h':Heap) (tk:Nat) (vs:List Value),(∀ b o,s.heap.get? b=some o->h'.get? b=some o)->C vs->R vs {s with heap:=h',toks:=tk})->wpAny (model prog w) A (collect (.ref r)) R E s
theorem sorted_any {r:Addr}{C:List Value->Prop}{Q:Value->Shared->Prop}(hc:Coll prog w A.in1 r s C)(hz:∀ vs,C vs->vs.length<=sizeLine)
  (hA:∀(vs:List Value) (s':Shared),C vs->(∀ b o,s.heap.get? b=some o->s'.heap.get? b=some o)->Asks prog w A.in1.in1 O key knd vs s')
  (h:∀(vs out:List Value) (h1 h':Heap) (tk n:Nat),C vs->out.Perm vs->(out.Pairwise λx y=>O.kle (key x) (key y))->(∀ b o,s.heap.get? b=some o->h1.get? b=some o)->(∀ b o,h1.get? b=some o->h'.get? b=some o) ->
   h'.get? h1.objs.size=some (seqObj "list" out.toArray n)->Q (.ref h1.objs.size) {s with heap:=h',toks:=tk}):wpAny (model prog w) A (call (.builtin "sorted") [.ref r]) Q E s:=by
 refine Calls.call_function_entry kind_sorted plain_sorted entry_sorted (args_sorted1 _) ?_;unfold Builtin.«sorted»;refine af (m:=checkCount "sorted" 1 1 _) (aK ?_);refine af (hc _ _ λh1 tk vs hk hC=>?_);refine af (gN ?_ (by simpa using hz vs hC));have hoL:(h1.push (seqObj "list" vs.toArray 0)).get? h1.objs.size=some (seqObj "list" vs.toArray 0):=aO _ rfl;refine af (ce (eY slot_list_sort ⟨_,hoL,rfl⟩ entry_list_sort (list_sort_any (O:=O) (key:=key) (knd:=knd) hoL (hz vs hC) (λs' hs'=>hA vs s' hC λb o e=>?_) λout hp hs=>⟨_,rfl,?_⟩) (args_list_sort _)))
 ·exact hs' b o (aY (aF (hk b o e))) (ao _ (hk b o e))
 ·refine aK ⟨_,rfl,?_⟩;obtain⟨n',hn'⟩:∃ n',(sortedHeap (h1.push (seqObj "list" vs.toArray 0)) h1.objs.size vs out).get? h1.objs.size=some (seqObj "list" out n'):=by
   first | exact sortedHeap_at hoL | exact⟨_,sortedHeap_at hoL⟩
  refine h vs out.toList h1 _ tk n' hC hp hs hk (λb o e=>?_) ?_
  ·have hb:b≠h1.objs.size:=aY (aF e);have hlt:b<(h1.push (seqObj "list" vs.toArray 0)).objs.size:=by rw[size_push'];exact jQ (aF e)
   rw[sortedHeap_old hb hlt];exact ao _ e
  ·rw[fQ];exact hn'
def intOrd:KeyOrd where
 α:=Int
 blt:=λa b=>decide (a<b)
 irrefl:=λa=>by simp
 trans:=λa b c h1 h2=>by simp at *;omega
 negTrans:=λa b c h=>by simp at *;omega
 total:=λa b h1 h2=>by simp at *;omega
def intKey:Value->Int
 | .int i _=>i
 | _=>0
theorem lex_irrefl:∀ a:List Int,HT.lexLt a a=false
 | []=>rfl
 | x::r=>by rw[HT.lexLt_cons,if_pos rfl];exact lex_irrefl r
theorem lex_trans:∀ a b c:List Int,HT.lexLt a b=true->HT.lexLt b c=true->HT.lexLt a c=true
 | [],[],_,h,_=>by cases h
 | [],_::_,[],_,h=>by cases h
 | [],_::_,_::_,_,_=>rfl
 | _::_,[],_,h,_=>by cases h
 | _::_,_::_,[],_,h=>by cases h
 | x::a,y::b,z::c,h1,h2=>by
  rw[HT.lexLt_cons] at h1 h2 ⊢;by_cases e1:x=y
  ·rw[if_pos e1] at h1;subst e1;by_cases e2:x=z
   ·rw[if_pos e2] at h2 ⊢;exact lex_trans a b c h1 h2
   ·rw[if_neg e2] at h2 ⊢;exact h2
  ·rw[if_neg e1] at h1;by_cases e2:y=z
   ·rw[if_pos e2] at h2;subst e2;rw[if_neg e1];exact h1
   ·rw[if_neg e2] at h2;simp at h1 h2;rw[if_neg ∅];simp;omega
theorem lex_total:∀ a b:List Int,HT.lexLt a b=false->HT.lexLt b a=false->a=b
 | [],[],_,_=>rfl
 | [],_::_,h,_=>by cases h
 | _::_,[],_,h=>by cases h
 | x::a,y::b,h1,h2=>by
  rw[HT.lexLt_cons] at h1 h2;by_cases e:x=y
  ·subst e;rw[if_pos rfl] at h1 h2;rw[lex_total a b h1 h2]
  ·rw[if_neg e] at h1;rw[if_neg (λz=>e z.symm)] at h2;simp at h1 h2;omega
def lexOrd:KeyOrd where
 α:=List Int
 blt:=HT.lexLt
 irrefl:=lex_irrefl
 trans:=lex_trans
 negTrans:=λa b c h=>by
  cases h1:HT.lexLt a b with
  | true=>exact .inl rfl
  | false =>
   right;cases h2:HT.lexLt b a with
   | true=>exact lex_trans b a c h2 h
   | false=>rw[<- lex_total a b h1 h2];exact h
 total:=lex_total
theorem asks_ints {vs:List Value}{ns:List Int}(hI:IntsAre vs ns):Asks prog w A intOrd intKey oneType' vs s:=by
 refine⟨λh2 E Q hq=>?_,λx hx y hy E Q hq=>?_⟩
 ·match vs,h2,hI with
  | vq::vz::W4,_,hI=>rw[keyKind_ints hI];exact aK hq
 ·have key:∀ {vs:List Value} {ns:List Int},IntsAre vs ns->∀ x∈vs,∃ i t,x=cu i t:=by
   intro vs ns h;induction h with
   | nil=>intro x hx;cases hx
   | cons n t _ ih =>
    intro x hx;rcases aQ.mp hx with rfl | hx
    ·exact⟨n,t,rfl⟩
    ·exact ih x hx
  obtain⟨i,t,rfl⟩:=key hI x hx;obtain⟨j,u,rfl⟩:=key hI y hy;exact PySem.W.kat_lt_int hq
end
end Srt
namespace Srt
open PySem PyProof.Rows PySem.W
section
variable {prog:Program}{w:World}{A:Around}{E:Value->Shared->Prop}{s:Shared}
def TupInts (h:Heap)(v:Value)(ks:List Int):Prop:=∃ a o items n,v=.ref a/\h.get? a=some o/\o.cls=.type "tuple"/\o.data=.seq items n/\IntsAre items.toList ks/\ks≠[]
theorem TupInts.keep {h h':Heap}{v:Value}{ks:List Int}(t:TupInts h v ks)(k:∀ b o,h.get? b=some o->h'.get? b=some o):TupInts h' v ks :=
 let ⟨a,o,items,n,e,ho,r⟩:=t;⟨a,o,items,n,e,k _ _ ho,r⟩
def tupKey (h:Heap):Value->List Int
 | .ref a=>match h.get? a with
  | some o=>match o.data with
   | .seq items _=>items.toList.map intKey
   | _=>[]
  | none=>[]
 | _=>[]
theorem intKeys_of {us:List Value}{ns:List Int}(h:IntsAre us ns):us.map intKey=ns:=by
 induction h with
 | nil=>rfl
 | cons n t _ ih=>rw[ap,ih];rfl
theorem tupKey_of {h:Heap}{v:Value}{ks:List Int}(t:TupInts h v ks):tupKey h v=ks:=by
 obtain⟨a,o,items,n,rfl,ho,hc,hd,hi,_⟩:=t;simp only[tupKey,ho,hd];exact intKeys_of hi
theorem katlex_ints {b fin:Bool}{Q:Bool->Shared->Prop}:∀ {us:List Value} {ns:List Int} {ws:List Value} {ms:List Int} (i:Nat),IntsAre us ns->IntsAre ws ms->fin=decide (us.length<ws.length)->Q (HT.lexLt ns ms) s ->
  KatLex prog w A b fin Q (us.zip ws) i s
 | _,_,_,_,_,.nil,.nil,hf,hq=>by subst hf;exact hq
 | _,_,_,_,_,.nil,.cons m u h,hf,hq=>by
  subst hf;show Q (decide (0<_)) s;rw[aD,decide_eq_true (Nat.succ_pos _)];exact hq
 | _,_,_,_,_,.cons m u h,.nil,hf,hq=>by
  subst hf;show Q (decide (_<0)) s;rw[decide_eq_false (Nat.not_lt_zero _)];exact hq
 | _,_,_,_,i,.cons n t h,.cons m u k,hf,hq=>by
  rw[cX];refine kat_cons (wpAny_eqBool_int ?_);rw[HT.lexLt_cons] at hq;by_cases e:n=m
  ·rw[if_pos e] at hq;have eb:(n == m)=true:=beq_iff_eq.mpr e;rw[eb];exact kat_yes (katlex_ints (i+1) h k (by rw[hf,aD,aD];simp) hq)
  ·rw[if_neg e] at hq;have eb:(n == m)=false:=beq_eq_false_iff_ne.mpr e;rw[eb];refine kat_no ?_;cases hb:(b && i == 0) with
   | true=>exact oneLt_int hq
   | false=>exact kat_one _ _ (g6 hq)
theorem katTups_of {h:Heap}:∀ {vs:List Value},(∀ v∈vs,∃ ks,TupInts h v ks)->∃ fs,KatTups h vs fs/\fs.length=vs.length/\∀ f∈fs,∃ i t,f=cu i t
 | [],_=>⟨[],.nil,rfl,λf hf=>nomatch hf⟩
 | v::vs,hv=>by
  obtain⟨fs,k,hl,hf⟩:=katTups_of (vs:=vs) λu hu=>hv u (aL _ hu)
  obtain⟨ks,a,o,items,n,rfl,ho,hc,hd,hi,hne⟩:=hv v aR;obtain⟨i,t,r,e⟩:∃ i t r,items.toList=cu i t::r:=by
   generalize items.toList=l at hi;cases hi with
   | nil=>exact absurd rfl hne
   | cons n t _=>exact⟨n,t,_,rfl⟩
  refine⟨.int i t::fs,.cons ho hc hd ?_ k,by rw[aD,aD,hl],λf hf'=>?_⟩
  ·rw[<- bp,e];rfl
  ·rcases aQ.mp hf' with rfl | q
   ·exact⟨i,t,rfl⟩
   ·exact hf f q
theorem asks_tups {h:Heap}{vs:List Value}(hv:∀ v∈vs,∃ ks,TupInts h v ks)(hk:∀ b o,h.get? b=some o->s.heap.get? b=some o):Asks prog w A lexOrd (tupKey h) (tuples' true) vs s:=by
 refine⟨λh2 E Q hq=>?_,λx hx y hy E Q hq=>?_⟩
 ·obtain⟨fs,kt,hl,hf⟩:=katTups_of (h:=s.heap) (vs:=vs) λv hm=>let ⟨ks,t⟩:=hv v hm;⟨ks,t.keep hk⟩
  refine kat_kind (T:=.type "int") kt ∅ (λf hm=>?_) (by decide) hq;obtain⟨i,t,rfl⟩:=hf f hm;exact .now
 ·obtain⟨ks,tx⟩:=hv x hx;obtain⟨ms,ty⟩:=hv y hy;rw[tupKey_of tx,tupKey_of ty] at hq;obtain⟨a,o,items,n,rfl,ho,hc,hd,hi,_⟩:=tx.keep hk;obtain⟨a',o',items',n',rfl,ho',hc',hd',hi',_⟩:=ty.keep hk;exact kat_lt ho hd ho' hd' (katlex_ints 0 hi hi' (by simp) hq)
theorem coll_seq {l:Addr}{o:Obj}{c:String}{vs:List Value}{n:Nat}(ho:s.heap.get? l=some o)(hcl:o.cls=.type c)(hcc:c="list"\/c="tuple")(hd:o.data=.seq vs.toArray n)(hsz:vs.length<=sizeLine) :
  Coll prog w A l s λus=>us=vs:=by
 intro E R h;unfold collect;refine af (wpAny_runValue (codeAny_builtin jU ?_));show wpAny _ _ (newList [] >>= λx=>again (.builtin "list.__iadd__" ⟨[x,.ref l],[]⟩)) _ _ s;refine af (gN (aK ⟨js _ (by decide +kernel),codeAny_builtin entry_list_iadd' ?_⟩));show wpAny _ _ (Builtin.List.listExtendWith (.ref s.heap.objs.size) (.ref l) (.ref s.heap.objs.size)) _ _ {s with heap:=s.heap.push (seqObj "list" #[] 0)};unfold Builtin.List.listExtendWith;have ho':(s.heap.push (seqObj "list" #[] 0)).get? l=some o:=ao _ ho;refine af (jH (T:=c) ⟨o,ho',hcl⟩ ?_);have ht:(Builtin.List.listSameRef (.ref s.heap.objs.size) (.ref l) || (aG c == aG "list") || (aG c == aG "tuple"))=true:=by
  rcases hcc with rfl | rfl
  ·rw[show (aG "list" == aG "list")=true from rfl];simp
  ·rw[show (aG "tuple" == aG "tuple")=true from rfl];simp
 rw[if_pos ht];refine af (listItems_at ho' hd ?_);refine af (listItems_at (xs:=#[]) (n:=0) (aO _ rfl) rfl ?_);rw[if_neg (by simp)];refine af (listUpdate_at (xs:=#[]) (n:=0) (aO _ rfl) rfl ?_ (bi _) (by show (#[]++vs.toArray).size<=sizeLine+1;simp only[Array.size_append,aB,bF];omega));refine aK ?_
 show wpAny (model prog w) A (do
   let q <- load s.heap.objs.size
   match q.data with
   | .seq xs _=>pure xs.toList
   | _=>unsupported "internal:collect") R E {s with heap:=(s.heap.push (seqObj "list" #[] 0)).update s.heap.objs.size (Obj.mapSeq (·++vs.toArray))}
 refine af (ja (get?_update_seq (aO _ rfl) _) ?_);show wpAny _ _ (pure ((#[]:Array Value)++vs.toArray).toList) R E _;rw[show ((#[]:Array Value)++vs.toArray).toList=vs by simp];exact aK (h _ s.toks vs (λb o e=>(dU ..).extBut b o (aY (aF e)) (ao _ e)) rfl)
end
end Srt
namespace Srt
open PySem PyProof.Rows PySem.W
section
variable {prog:Program}{w:World}{A:Around}{E:Value->Shared->Prop}{s:Shared}
def RawD (h:Heap)(d:Addr)(es:Array DictEntry)(ep:Nat):Prop:=∃ o,h.get? d=some o/\o.ExactDict/\o.data=.dict es ep
theorem RawD.typeIs {d:Addr}{es:Array DictEntry}{ep:Nat}(r:RawD s.heap d es ep):s.TypeIs (.ref d) "dict":=let ⟨o,ho,hx,_⟩:=r;⟨o,ho,hx.1⟩
theorem RawD.keep {h h':Heap}{d:Addr}{es:Array DictEntry}{ep:Nat}(r:RawD h d es ep)(k:∀ o,h.get? d=some o->h'.get? d=some o):RawD h' d es ep:=let ⟨o,ho,q⟩:=r;⟨o,k _ ho,q⟩
theorem raw_iter {d:Addr}{es:Array DictEntry}{ep:Nat}{Q:Value->Shared->Prop}(hd:(d == sysModules)=false)(r:RawD s.heap d es ep)
  (hQ:Q (.ref s.heap.objs.size) {s with heap:=s.heap.push {cls:=.type "dict_keyiterator",data:=.fields #[.ref d,.int 0 0,.int es.size 0,.int ep 0]}}) :
  wpAny (model prog w) A (pyIter (.ref d)) Q E s:=by
 obtain⟨o,ho,hx,hdat⟩:=id r;have hT:=r.typeIs;refine wpAny_pyIter_slot hT F.slot_dict_iter (eY F.slot_dict_iter hT F.entry_dict_iter ?_ (F.args_dict_iter_1 _));unfold Builtin.«dict.__iter__»;refine af ?_;unfold Builtin.Dict.dictSlotNone;refine af (wpAny_notOrdered_dict hT (aK ?_));show wpAny _ _ (Builtin.Dict.showsAll d >>= _) _ _ s;unfold Builtin.Dict.showsAll;rw[if_neg (by rw[hd];exact aN)];refine af (aK (af (fK ho hdat (af (iB ho hdat ?_)))));refine af (cR (aK ⟨_,rfl, "dict_keyiterator",_,⟨_,aO _ rfl,rfl⟩,F.slot_dict_keyiterator_next.lookup,?_⟩));simpa [rawInt] using hQ
theorem raw_next {it d:Addr}{i ep:Nat}{es:Array DictEntry}{Q:Option Value->Shared->Prop}(hit:s.heap.IsKeyIter it d i es.size ep)(r:RawD s.heap d es ep)(hlt:i<es.size)
  (hQ:∀ h',h'.IsKeyIter it d (i+1) es.size ep->dA it s.heap h'->Q (some es[i].key) {s with heap:=h'}):wpAny (model prog w) A (pyNext (.ref it)) Q E s:=by
 obtain⟨o,ho,hc,hd⟩:=id hit;obtain⟨od,hod,hcd,hdd⟩:=id r;unfold pyNext
 refine af (jl (jk (name:=Str.ofString "__next__") hit.typeIs cZ
  (eY cZ hit.typeIs ib ?_ (gW _))))
 refine af (aK (af (af ?_)));first | refine af (cY hit.typeIs (aK ?_)) | refine af (dQ hit.typeIs (aK ?_))
 refine af (wpAny_fieldsOf ho hd ?_);have hown:fH "dict_keyiterator"=false:=by decide
 simp only[hown,aW,if_false];show wpAny _ _ (if (bd d == cA)=true then _ else _) _ _ s;rw[if_neg (show ¬ ((bd d == cA)=true) from aN)];refine af (aK (af (fK hod hdd ?_)));rw[if_neg (by simp)];refine af (aK (af (iB hod hdd ?_)));rw[if_neg (by simp)];refine aK ?_;simp only[show ¬ ((i:Int)<0) from by omega,if_false,cN,bJ hlt];refine af ?_;first | refine af (cY hit.typeIs (aK ?_)) | refine af (dQ hit.typeIs (aK ?_))
 refine af (jL hit.typeIs ?_);show wpAny _ _ (setField (.ref it) 1 (rawInt ((i:Int)+1)) >>= _) _ _ s;refine af (wpAny_setField ho hd (by simp) ?_);have hit':(s.heap.update it (Obj.mapFields (·.setIfInBounds 1 (rawInt ((i:Int)+1))))).IsKeyIter it d (i+1) es.size ep :=
  ⟨_,fP _ ho (Obj.isFreed_of_fields (jB hd _)),(Obj.cls_mapFields ..).trans hc,by rw[jB hd];simp[rawInt]⟩
 refine af (ce ?_);refine af (jL (s:={s with heap:=s.heap.update it (Obj.mapFields (·.setIfInBounds 1 (rawInt ((i:Int)+1))))}) hit'.typeIs ?_);show wpAny _ _ (pure es[i].key) _ _ _;exact aK (aK ⟨_,rfl,aK (hQ _ hit' (dU ..))⟩)
theorem raw_end {it d:Addr}{i ep:Nat}{es:Array DictEntry}{Q:Option Value->Shared->Prop}(hh:A.handled=none)(hit:s.heap.IsKeyIter it d i es.size ep)(r:RawD s.heap d es ep)(hge:es.size<=i)
  (hQ:∀ h',Heap.ExtBut it s.heap h'->Q none {s with heap:=h'}):wpAny (model prog w) A (pyNext (.ref it)) Q E s:=by
 obtain⟨o,ho,hc,hd⟩:=id hit;obtain⟨od,hod,hcd,hdd⟩:=id r;unfold pyNext
 refine af (jl (jk (name:=Str.ofString "__next__") hit.typeIs cZ
  (eY cZ hit.typeIs ib ?_ (gW _))))
 refine af (aK (af (af ?_)));first | refine af (cY hit.typeIs (aK ?_)) | refine af (dQ hit.typeIs (aK ?_))
 refine af (wpAny_fieldsOf ho hd ?_);have hown:fH "dict_keyiterator"=false:=by decide
 simp only[hown,aW,if_false];show wpAny _ _ (if (bd d == cA)=true then _ else _) _ _ s;rw[if_neg (show ¬ ((bd d == cA)=true) from aN)];refine af (aK (af (fK hod hdd ?_)));rw[if_neg (by simp)];refine af (aK (af (iB hod hdd ?_)));rw[if_neg (by simp)];refine aK ?_;simp only[show ¬ ((i:Int)<0) from by omega,if_false,cN,b7 hge];refine af ?_;first | refine af (cY hit.typeIs (aK ?_)) | refine af (dQ hit.typeIs (aK ?_))
 show wpAny _ _ (setField (.ref it) 0 .none >>= _) _ _ s;refine af (wpAny_setField ho hd (by simp) ?_);show wpAny _ _ (newExc (.type "StopIteration") [] >>= _) _ _ _;refine af ?_;simp only[newExc,newTuple];refine af (cR ?_ (by size_fits));refine af (m:=firstArgMember _ _) (wpAny_of_eq (a:=cA) (by first | rfl | (simp only[firstArgMember];rfl)) ?_);refine cR ?_ (by size_fits);simp only[raiseNew];refine af (wpAny_handled ?_);rw[show A.in1.handled=none from hh];refine af (aK (wpAny_throw ?_));refine af (wpAny_isInstance (T:="StopIteration") (b:=true) ⟨_,aO _ rfl,rfl⟩ isSubtype_stop ?_);exact aK (hQ _ (((dU ..).extBut.push _).push _))
theorem raw_walks (hh:A.handled=none)(I d:Addr)(hne:d≠I)(es:Array DictEntry)(ep:Nat) :
  Walks prog w A I [I,d] [I] es.size (λi v=>∃ e,es[i]?=some e/\e.key=v) (λi h=>h.IsKeyIter I d i es.size ep/\RawD h d es ep) where
 sub:=λb hb=>by simp at hb;simp[hb]
 frame:=λ_ _ _ st hk=>⟨st.1.at λo e=>hk I (by simp) o e,st.2.keep λo e=>hk d (by simp) o e⟩
 item:=λi s Q E hi st hQ=>by
  refine raw_next st.1 st.2 hi λh' hit' hs'=>?_
  exact hQ es[i].key h' s.toks ⟨es[i],by simp[hi],rfl⟩ ⟨hit',st.2.keep λo e=>hs'.extBut d o hne e⟩ λb o hb e=>hs'.extBut b o (λh=>hb (by simp[h])) e
 done:=λs Q E st hQ=>raw_end hh st.1 st.2 (ak _) λh' he'=>hQ h' s.toks λb o hb e=>he' b o (λh=>hb (by simp[h])) e
 self:=λ_ _ _ _ st hQ=>wpAny_pyIter_keyiter st.1 hQ
theorem raw_src {d:Addr}{es:Array DictEntry}{ep:Nat}(lo:(d == sysModules)=false):KdlSrc prog w "dict" d d es.size (λi v=>∃ e,es[i]?=some e/\e.key=v) (λh=>RawD h d es ep) where
 type:=λ_ hm=>hm.typeIs
 there:=λ_ hm=>let ⟨_,ho,_⟩:=hm;⟨aF ho,aF ho⟩
 keep:=λ_ _ hm hk=>hm.keep λo e=>hk d (.inl rfl) o e
 notList:=by decide
 notTuple:=by decide
 hint:=λ_ _ _ _ hm hq=>kdl_hint_dict hm.typeIs hq
 iter:=λ_ _ hh hm=>⟨_,_,(λ_ _ hq=>raw_iter lo hm hq),raw_walks hh _ d (let ⟨_,ho,_⟩:=hm;aY (aF ho)) es ep,⟨⟨_,aO _ rfl,rfl,rfl⟩,hm.keep λ_ e=>ao _ e⟩⟩
theorem coll_raw {d:Addr}{es:Array DictEntry}{ep:Nat}(hh:A.handled=none)(lo:(d == sysModules)=false)(r:RawD s.heap d es ep)(hz:es.size<=sizeLine):Coll prog w A d s λus=>us=es.toList.map (·.key):=by
 intro E R h;refine kdu_collect (raw_src (ep:=ep) lo) hh r hz λh' tk acc hk hI=>h h' tk acc.toList hk ?_
 apply dj;intro i;rw[bp,aH,bp];rcases cf i es.size with hi | hi
 ·have hi':i<acc.size:=by rw[hI.1];exact hi
  obtain⟨e,he,hk⟩:=hI.2 i acc[i] (bJ hi');rw[bJ hi',he];exact congrArg some hk.symm
 ·rw[b7 (by rw[hI.1];exact hi),b7 hi];rfl
end
end Srt
namespace L2
open PySem PySem.Spec PyProof.Rows
theorem a3l {α β:Type}{f:α->β}:∀ {l m:List β},l.Perm m->∀ {ps:List α},m=ps.map f->∃ qs:List α,qs.Perm ps/\l=qs.map f:=by
 intro l m h;induction h with
 | nil =>
  intro ps e;cases ps with
  | nil=>exact⟨[],.nil,rfl⟩
  | cons _ _=>cases e
 | @cons x lq lz _ ih =>
  intro ps e;cases ps with
  | nil=>cases e
  | cons p r =>
   rw[ap] at e;injection e with e1 e2
   obtain⟨qs,h1,h2⟩:=ih e2;exact⟨p::qs,h1.cons _,by rw[ap,h2,e1]⟩
 | swap x y l =>
  intro ps e
  match ps,e with
  | p::q::r,e =>
   rw[ap,ap] at e;injection e with e1 e2
   injection e2 with e2 e3
   exact⟨q::p::r,.swap ..,by rw[ap,ap,<- e1,<- e2,<- e3]⟩
 | trans _ _ ih1 ih2 =>
  intro ps e;obtain⟨qs,h1,h2⟩:=ih2 e;obtain⟨rs,h3,h4⟩:=ih1 h2;exact⟨rs,h3.trans h1,h4⟩
theorem a0z {α:Type}{f:α->Addr}:∀ {ps:List α} {us:List Value},C1 (ps.map λx=>V.ref (f x)) us->us=ps.map λx=>bd (f x)
 | [],_,.nil=>rfl
 | x::r,_,.cons h t=>by
  cases (show _=bd (f x) from h);rw[ap,<- a0z t]
theorem a2A {α:Type}{f:α->Addr}:∀ ps:List α,C1 (ps.map λx=>V.ref (f x)) (ps.map λx=>bd (f x))
 | []=>.nil
 | x::r=>.cons rfl (a2A r)
theorem a1i:∀ {us:List Value},(∀ u∈us,∃ i t,u=cu i t)->IntsAre us (us.map Srt.intKey)
 | [],_=>.nil
 | u::r,h=>by
  obtain⟨i,t,rfl⟩:=h u aR;exact .cons i t (a1i λv hv=>h v (aL _ hv))
theorem a8B {us:List Value}{ns:List Int}(h:IntsAre us ns):∀ u∈us,∃ i t,u=cu i t:=by
 induction h with
 | nil=>intro x hx;cases hx
 | cons n t _ ih =>
  intro x hx;rcases aQ.mp hx with rfl | hx
  ·exact⟨n,t,rfl⟩
  ·exact ih x hx
def b2V (K:ae)(H:Hp)(p:Addr)(ns:List Int):Prop :=
 SqL K H p (ns.map V.int)\/SqT K H p (ns.map V.int)\/∃ kvs,H p=some (.dK kvs)/\kvs.map (·.1)=ns.map (bE:Int->Key)
section
variable {X:Cx}{pins:List (Addr×Obj)}{σ:St}{H:Hp}{s:Shared}
theorem Inv.collI (I:Inv X pins σ H s){A:Around}(hh:A.handled=none){p:Addr}{ns:List Int}(h:b2V X.K H p ns):Srt.Coll X.prog X.w A p s λus=>IntsAre us ns/\us.length<=sizeLine:=by
 have mono:∀ {vs:List Value},IntsAre vs ns->vs.length<=sizeLine->Srt.Coll X.prog X.w A p s (λus=>us=vs)->Srt.Coll X.prog X.w A p s λus=>IntsAre us ns/\us.length<=sizeLine:=λhi hl c E R k =>
  c E R λh' tk us kp e=>k h' tk us kp (by subst e;exact⟨hi,hl⟩)
 rcases h with h | h | ⟨kvs,h,hk⟩
 ·obtain⟨its,r,pl,hz⟩:=I.list h;obtain⟨o,ho,hc,n,hd⟩:=pl.isList;have hl:its.length<=sizeLine:=by rw[<- r.length];exact hz
  exact mono (Q8 r) hl (Srt.coll_seq ho hc (.inl rfl) hd hl)
 ·obtain⟨its,r,pl,hz⟩:=I.tuple h;obtain⟨o,ho,hc,n,hd⟩:=pl;have hl:its.length<=sizeLine:=by rw[<- r.length];exact hz
  exact mono (Q8 r) hl (Srt.coll_seq ho hc (.inr rfl) hd hl)
 ·obtain⟨z,lo,vs,rel,o,es,ep,ho,hx,hd,hkeys,hp,hn⟩:=a2N I.hok h;have hl:es.toList.length=kvs.length:=by rw[hp.length,rel.length]
  have key:∀ {l:List DictEntry} {vs:List (Key×Value)} {ns:List Int},Pairs (J8 X.prog X.w) l vs->vs.map (·.1)=ns.map (bE:Int->Key)->IntsAre (l.map (·.key)) ns:=by
   intro l vs ns hp;induction hp generalizing ns with
   | nil =>
    intro e;cases ns with
    | nil=>exact .nil
    | cons _ _=>cases e
   | @cons e kv es kvs h1 h2 _ ih =>
    intro q;cases ns with
    | nil=>cases q
    | cons n r =>
     rw[ap,ap] at q;injection q with q1 q2
     rw[q1] at h1;have hi:Value.isInt n e.key=true:=h1;obtain⟨t,et⟩:=jp hi;rw[ap,et];exact .cons n t (ih q2)
  have hi:=key hp (by rw[<- rel.keys];exact hk);refine mono hi ?_ (Srt.coll_raw hh lo ⟨o,ho,hx,hd⟩ ?_)
  ·rw[aa,hl];exact z
  ·rw[<- bz,hl];exact z
theorem a3z (hc:X.A.handled=none):N1 X (.builtin "sorted") (λxs H Q=>∃(p:Addr) (ns:List Int),xs=[.ref p]/\b2V X.K H p ns/\∀(ns':List Int) (l:Addr),ns'.Perm ns->ns'.Pairwise (·<=·)->H l=none->Q (.ref l) (upd H l (.lst (ns'.map V.int)))):=by
 intro pins s σ H xs us Q I r h;obtain⟨p,ns,rfl,src,q⟩:=h;obtain⟨u,rfl,rx⟩:=T5 r;cases rx;refine Srt.sorted_any (O:=Srt.intOrd) (key:=Srt.intKey) (knd:=oneType') (I.collI (A:=X.A.in1) hc src) (λvs h=>h.2) (λvs s' h _=>Srt.asks_ints h.1) λvs out h1 h' tk n hC hp hs k1 k2 hD=>?_
 have hall:∀ u∈out,∃ i t,u=cu i t:=λu hu=>a8B hC.1 u (hp.mem_iff.mp hu)
 have hio:=a1i hall;have I1:Inv X pins σ H {s with heap:=h1,toks:=tk}:=I.kept k1;have hlen:(out.map Srt.intKey).length<=sizeLine:=by rw[aa,hp.length_eq];exact hC.2
 refine⟨.ref h1.objs.size,_,I1.laid (t':=tk) (o:=.lst ((out.map Srt.intKey).map V.int)) k2 (ak _) ⟨by rw[aa];exact hlen,out,n,a0A hio,hD⟩,rfl,q _ _ ?_ ?_ I1.fresh⟩
 ·have:=hp.map Srt.intKey;rw[Srt.intKeys_of hC.1] at this;exact this
 ·rw[cM];exact hs.imp λ{a b} hab=>by
   have hab:decide (Srt.intKey b<Srt.intKey a)=false:=hab;simp at hab;exact hab
def b2U (K:ae)(H:Hp)(p:Addr)(ps:List (Addr×List Int)):Prop :=
 (SqL K H p (ps.map λx=>V.ref x.1)\/SqT K H p (ps.map λx=>V.ref x.1))/\∀ x∈ps,H x.1=some (.tup (x.2.map V.int))/\x.2≠[]
theorem Inv.tupInts (I:Inv X pins σ H s){a:Addr}{ks:List Int}(h:H a=some (.tup (ks.map V.int)))(hne:ks≠[]):Srt.TupInts s.heap (.ref a) ks:=by
 obtain⟨its,r,⟨o,ho,hc,n,hd⟩,hz⟩:=I.tuple (SqT.of h);exact⟨a,o,its.toArray,n,rfl,ho,hc,hd,Q8 r,hne⟩
theorem V9 {p:Addr}{vs:List Value}{C:List (Addr×List Int)->Prop}{Q:VK}(I:Inv X pins σ H s)(hcol:Srt.Coll X.prog X.w X.A.in1 p s λus=>us=vs)(ps:List (Addr×List Int))(hvs:vs=ps.map λx=>bd x.1)(hz:ps.length<=sizeLine)
  (hall:∀ x∈ps,H x.1=some (.tup (x.2.map V.int))/\x.2≠[]) (q:∀(ps':List (Addr×List Int)) (l:Addr),ps'.Perm ps->(ps'.Pairwise λx y=>HT.lexLt y.2 x.2=false)->H l=none->Q (.ref l) (upd H l (.lst (ps'.map λx=>V.ref x.1)))) :
  wpAny (model X.prog X.w) X.A (call (.builtin "sorted") [.ref p]) (EP X pins σ Q) X.xe s:=by
 subst hvs;have ht:∀ x∈ps,Srt.TupInts s.heap (.ref x.1) x.2:=λx hx=>I.tupInts (hall x hx).1 (hall x hx).2
 refine Srt.sorted_any (O:=Srt.lexOrd) (key:=Srt.tupKey s.heap) (knd:=tuples' true) hcol (λvs e=>by subst e;rw[aa];exact hz) (λvs s' e k=>?_) λvs out h1 h' tk n e hp hs k1 k2 hD=>?_
 ·subst e;refine Srt.asks_tups (λv hv=>?_) k;obtain⟨x,hx,rfl⟩:=bx.mp hv;exact⟨x.2,ht x hx⟩
 ·subst e;obtain⟨ps',hpp,rfl⟩:=a3l hp rfl;have I1:Inv X pins σ H {s with heap:=h1,toks:=tk}:=I.kept k1;refine⟨.ref h1.objs.size,_,I1.laid (t':=tk) (o:=.lst (ps'.map λx=>V.ref x.1)) k2 (ak _) ⟨by rw[aa,hpp.length_eq];exact hz,_,n,a2A (f:=λx:Addr×List Int=>x.1) ps',hD⟩,rfl,q _ _ hpp ?_ I1.fresh⟩;rw[cM] at hs;refine hs.imp_of_mem λ{a b} ha hb hab=>?_
  have e1:=Srt.tupKey_of (ht a (hpp.mem_iff.mp ha));have e2:=Srt.tupKey_of (ht b (hpp.mem_iff.mp hb));have hab:HT.lexLt (Srt.tupKey s.heap (.ref b.1)) (Srt.tupKey s.heap (.ref a.1))=false:=hab;rw[e1,e2] at hab;exact hab
theorem a3y:N1 X (.builtin "sorted") (λxs H Q=>∃(p:Addr) (ps:List (Addr×List Int)),xs=[.ref p]/\b2U X.K H p ps/\∀(ps':List (Addr×List Int)) (l:Addr),ps'.Perm ps->(ps'.Pairwise λx y=>HT.lexLt y.2 x.2=false)->H l=none->Q (.ref l) (upd H l (.lst (ps'.map λx=>V.ref x.1)))):=by
 intro pins s σ H xs us Q I r h;obtain⟨p,ps,rfl,⟨src,hall⟩,q⟩:=h;obtain⟨u,rfl,rx⟩:=T5 r;cases rx;rcases src with h | h
 ·obtain⟨its,r',pl,hz⟩:=I.list h;obtain⟨o,ho,hc,n,hd⟩:=pl.isList;rw[aa] at hz;have e:=a0z r';exact V9 (C:=λ_=>True) I (Srt.coll_seq ho hc (.inl rfl) hd (by rw[e,aa];exact hz)) ps e hz hall q
 ·obtain⟨its,r',pl,hz⟩:=I.tuple h;obtain⟨o,ho,hc,n,hd⟩:=pl;rw[aa] at hz;have e:=a0z r';exact V9 (C:=λ_=>True) I (Srt.coll_seq ho hc (.inr rfl) hd (by rw[e,aa];exact hz)) ps e hz hall q
theorem a3A (hc:X.A.handled=none):N1 X (.builtin "sorted") (λxs H Q=>∃(p:Addr) (kvs:List (List Key×V)) (kss:List (List Int)),xs=[.ref p]/\H p=some (.dT kvs)/\kvs.map (·.1)=kss.map (λks=>ks.map (bE:Int->Key))/\(∀ ks∈kss,ks≠[]) /\
  ∀(ps:List (Addr×List Int)) (l:Addr),(ps.map (·.2)).Perm kss->(∀ x∈ps,H x.1=some (.tup (x.2.map V.int)))->(ps.Pairwise λx y=>HT.lexLt y.2 x.2=false)->H l=none->Q (.ref l) (upd H l (.lst (ps.map λx=>V.ref x.1)))):=by
 intro pins s σ H xs us Q I r h;obtain⟨p,kvs,kss,rfl,hH,hk,hne,q⟩:=h;obtain⟨u,rfl,rx⟩:=T5 r;cases rx;have hO:=I.hok p _ hH;unfold K8 at hO;obtain⟨z,lo,xs,rel,o,es,ep,ho,hx,hd,hes,hn⟩:=hO;have rel:KT H kvs xs:=rel;have key:∀ {kvs:List (List Key×V)} {xs:List (List Key×Addr×Value)} {kss:List (List Int)},KT H kvs xs->kvs.map (·.1)=kss.map (λks=>ks.map (bE:Int->Key)) ->
   ∃ ps:List (Addr×List Int),xs.map (λx=>x.2.1)=ps.map (·.1)/\ps.map (·.2)=kss/\∀ x∈ps,H x.1=some (.tup (x.2.map V.int)):=by
  intro kvs xs kss rel;induction rel generalizing kss with
  | nil =>
   intro e;cases kss with
   | nil=>exact⟨[],rfl,rfl,λx hx=>nomatch hx⟩
   | cons _ _=>cases e
  | @cons pp qq ps qs hh _ ih =>
   intro e;cases kss with
   | nil=>cases e
   | cons ks r =>
    rw[ap,ap] at e;injection e with e1 e2
    obtain⟨rs,h1,h2,h3⟩:=ih e2;obtain⟨g1,g2,g3⟩:=hh;refine⟨(qq.2.1,ks)::rs,by rw[ap,ap,h1],by rw[ap,h2],λx hx=>?_⟩;rcases aQ.mp hx with rfl | hx
    ·rw[g2,e1,bU];rfl
    ·exact h3 x hx
 obtain⟨ps,e1,e2,e3⟩:=key rel hk;have hl:es.toList.length=kvs.length:=by rw[hes,aa,<- dH rel]
 have ev:es.toList.map (·.key)=ps.map λx=>bd x.1:=by
  rw[hes,bU];have:(xs.map λx=>x.2.1).map bd=(ps.map (·.1)).map bd:=by rw[e1]
  rw[bU,bU] at this;exact this
 have hpl:ps.length=kvs.length:=by rw[<- hl,<- aa (f:=λx:DictEntry=>x.key),ev,aa]
 refine V9 (C:=λ_=>True) I (Srt.coll_raw hc lo ⟨o,ho,hx,hd⟩ (by rw[<- bz,hl];exact z)) ps ev (by rw[hpl];exact z) (λx hx=>⟨e3 x hx,hne _ (by rw[<- e2];exact cP hx)⟩) λps' l hp hs hn=>q ps' l ?_ (λx hx=>e3 x (hp.mem_iff.mp hx)) hs hn
 rw[<- e2];exact hp.map _
end
end L2
end
section
namespace L2
open PySem PySem.Spec PyProof.Rows
mutual
inductive Dt (K:ae)(H:Hp):V->PyData->Prop
 | non:Dt K H .non .none
 | bl (b:Bool):Dt K H (.bl b) (.bool b)
 | int (i:Int):Dt K H (.int i) (.int i)
 | str (x:Str):Dt K H (.str x) (.str x)
 | tup {a:Addr} {xs:List V} {ds:List PyData}:SqT K H a xs->Dts K H xs ds->Dt K H (.ref a) (.tuple ds)
 | lst {a:Addr} {xs:List V} {ds:List PyData}:SqL K H a xs->Dts K H xs ds->Dt K H (.ref a) (.list ds)
inductive Dts (K:ae)(H:Hp):List V->List PyData->Prop
 | nil:Dts K H [] []
 | cons {x:V} {d:PyData} {xs:List V} {ds:List PyData}:Dt K H x d->Dts K H xs ds->Dts K H (x::xs) (d::ds)
end
section
variable {X:Cx}{pins:List (Addr×Obj)}{σ:St}{H:Hp}{s:Shared}
mutual
theorem Inv.reads (I:Inv X pins σ H s):∀ {x:V} {d:PyData} {u:Value},Dt X.K H x d->C3 x u->∃ as,Reads s.heap u d as
 | _,_,_,.non,r=>by cases (show _=cA from r);exact⟨_,.none⟩
 | _,_,_,.bl b,r=>by cases (show _=aU b from r);exact⟨_,.bool b⟩
 | _,_,_,.int i,r=>by obtain⟨t,e⟩:=(show ∃ t,_=cu i t from r);subst e;exact⟨_,.int i t⟩
 | _,_,_,.str x,r=>by obtain⟨t,e⟩:=(show ∃ t,_=fL x t from r);subst e;exact⟨_,.str x t⟩
 | _,_,_,.tup (a:=a) h hs,r=>by
  cases (show _=bd a from r);obtain⟨its,rv,⟨o,ho,hc,n,hd⟩,hz⟩:=I.tuple h;obtain⟨as,q⟩:=Inv.readsAll I hs rv;exact⟨_,.tuple ho hc hd (~~~q)⟩
 | _,_,_,.lst (a:=a) h hs,r=>by
  cases (show _=bd a from r);obtain⟨its,rv,pl,hz⟩:=I.list h;obtain⟨o,ho,hc,n,hd⟩:=pl.isList;obtain⟨as,q⟩:=Inv.readsAll I hs rv;exact⟨_,.list ho hc hd (~~~q)⟩
theorem Inv.readsAll (I:Inv X pins σ H s):∀ {xs:List V} {ds:List PyData} {us:List Value},Dts X.K H xs ds->C1 xs us->∃ as,ReadsAll s.heap us ds as
 | _,_,_,.nil,.nil=>⟨_,.nil⟩
 | _,_,_,.cons h t,.cons r q=>by
  obtain⟨as,h1⟩:=Inv.reads I h r;obtain⟨bs,h2⟩:=Inv.readsAll I t q;exact⟨_,.cons h1 h2⟩
end
def a9B (K:ae)(neg:Bool):R2:=λx y H Q=>∃ d e,Dt K H x d/\Dt K H y e/\SeqAt.shaped d=true/\SeqAt.shaped e=true/\Q (.bl (if neg then !PyData.eqv d e else PyData.eqv d e)) H
theorem b1V (hu:X.A.units+64<cLine):OpR X (compareOp .NotEq) (a9B X.K true):=by
 intro pins s σ H x y v u Q I rx ry h;obtain⟨d,e,hd,he,sd,se,q⟩:=h;obtain⟨as,r1⟩:=I.reads hd rx;obtain⟨bs,r2⟩:=I.reads he ry;exact ne_dataH r1 r2 sd se hu ⟨.bl _,H,I,rfl,q⟩
theorem Dts.ints {K:ae}:∀(ns:List Int),Dts K H (ns.map V.int) (ns.map cz)
 | []=>.nil
 | n::r=>.cons (.int n) (Dts.ints r)
theorem U1:∀ ns:List Int,PyData.canLayAll0 (ns.map cz)=true
 | []=>rfl
 | n::r=>by rw[ap,PyData.canLayAll0,U1 r];rfl
theorem V4:∀ ns:List Int,PyData.depthAll (ns.map cz)=0
 | []=>rfl
 | n::r=>by rw[ap,PyData.depthAll,V4 r];rfl
theorem a4b (ns:List Int):SeqAt.shaped (.tuple (ns.map cz))=true:=by
 unfold SeqAt.shaped PyData.canLay0 PyData.depth;rw[U1,V4];rfl
theorem W3 (ns:List Int):SeqAt.shaped (.list (ns.map cz))=true:=by
 unfold SeqAt.shaped PyData.canLay0 PyData.depth;rw[U1,V4];rfl
theorem a4M:∀ ns ms:List Int,PyData.eqvAll (ns.map cz) (ms.map cz)=decide (ns=ms)
 | [],[]=>rfl
 | [],_::_=>rfl
 | _::_,[]=>rfl
 | a::r,b::t=>by
  rw[ap,ap,PyData.eqvAll,PyData.eqv,a4M r t];by_cases h:a=b<;>by_cases h':r=t<;>simp[h,h']
theorem a8L (ns ms:List Int):PyData.eqv (.list (ns.map cz)) (.list (ms.map cz))=decide (ns=ms):=by
 rw[PyData.eqv];exact a4M ns ms
theorem Dt.tupI {K:ae}{a:Addr}{ns:List Int}(h:SqT K H a (ns.map V.int)):Dt K H (.ref a) (.tuple (ns.map cz)):=.tup h (Dts.ints ns)
theorem Dt.lstI {K:ae}{a:Addr}{ns:List Int}(h:SqL K H a (ns.map V.int)):Dt K H (.ref a) (.list (ns.map cz)):=.lst h (Dts.ints ns)
theorem b4y {K:ae}{a b:Addr}{ns ms:List Int}{Q:VK}(h1:SqL K H a (ns.map V.int))(h2:SqL K H b (ms.map V.int))(q:Q (.bl (!decide (ns=ms))) H):a9B K true (.ref a) (.ref b) H Q :=
 ⟨_,_,.lstI h1,.lstI h2,W3 _,W3 _,by rw[a8L];exact q⟩
end
end L2
end
section
namespace Srt
open PySem PyProof.Rows PySem.W
section
variable {prog:Program}{w:World}{A:Around}{E:Value->Shared->Prop}{s:Shared}
theorem coll_range {r:Addr}{a b c:Int}{t u v:Tok}{n:Nat}(hh:A.handled=none)(hr:IsRange s.heap r a b c t u v)(hsmall:gS a b c=true)(hn:gm a b c=n)(hlen:n<=2 ^ 24) :
  Coll prog w A r s λus=>us.length=n/\∀(i:Nat) x,us[i]?=some x->∃ t,x=.int (a+i*c) t:=by
 intro E R h;unfold collect;refine af (wpAny_runValue (codeAny_builtin jU ?_));rw[iE PySem.F.plain_proto_collect _];show wpAny _ A.in1 (newList [] >>= λl=>again (.builtin "list.__iadd__" ⟨[l,.ref r],[]⟩)) _ _ s;refine af (cR ?_);refine aK ⟨plainId_quiet hX _,codeAny_builtin entry_list_iadd' ?_⟩;rw[iE hX _];have hSq:(s.heap.push {cls:=.type "list",data:=.seq ([]:List Value).toArray}).get? s.heap.objs.size=some {cls:=.type "list",data:=.seq #[]}:=aO _ rfl;show wpAny _ A.in1 (Builtin.List.listExtendWith (.ref s.heap.objs.size) (.ref r) (.ref s.heap.objs.size)) _ _ _;have key:=wpAny_extend_range (prog:=prog) (w:=w) (A:=A) (s:={s with heap:=s.heap.push {cls:=.type "list",data:=.seq ([]:List Value).toArray}})
  (R:=λ(q:Result) (s':Shared)=>∃(h':Heap) (tk:Nat) (acc':Array Value) (c':Nat),q=.ok (.ret (.ref s.heap.objs.size))/\s'={s with heap:=h',toks:=tk} /\
   (∀ b o,s.heap.get? b=some o->h'.get? b=some o)/\h'.get? s.heap.objs.size=some {cls:=.type "list",dict:=none,data:=.seq acc' c',slots:=#[]}/\ItemsOf (λ(i:Nat) v=>∃ t,v=cu (a+i*c) t) acc' n)
  hh (ao _ hr) hsmall hn hlen s.heap.objs.size (.ref s.heap.objs.size) 0 hSq
  (λh' tk acc' c' hk hS' hacc=>⟨h',tk,acc',c',rfl,rfl,λb o e=>hk b o (aY (aF e)) (ao _ e),hS',hacc⟩)
 have fin:∀(h':Heap) (tk:Nat) (acc':Array Value),(∀ b o,s.heap.get? b=some o->h'.get? b=some o)->ItemsOf (λ(i:Nat) v=>∃ t,v=cu (a+i*c) t) acc' n->R acc'.toList {s with heap:=h',toks:=tk}:=λh' tk acc' hk hacc =>
  h h' tk acc'.toList hk ⟨by rw[bz];exact hacc.1,λi x e=>hacc.2 i x (by rw[<- bp];exact e)⟩
 refine bO key (λfi s' x=>?_) λe s' x=>?_
 ·cases fi with
  | done f =>
   obtain⟨h',tk,acc',c',e,rfl,hk,hS',hacc⟩:=x;cases e;show wpAny _ A (load s.heap.objs.size >>= _) _ _ _;exact af (ja hS' (aK (fin h' tk acc' hk hacc)))
  | again c₁ =>
   refine⟨x.1,codeAny_mono x.2 λq s₂ y=>?_⟩;obtain⟨h',tk,acc',c',rfl,rfl,hk,hS',hacc⟩:=y;show wpAny _ A (load s.heap.objs.size >>= _) _ _ _;exact af (ja hS' (aK (fin h' tk acc' hk hacc)))
 ·obtain⟨_,_,_,_,e',_⟩:=x;cases e'
end
end Srt
namespace PySem
open AutoSeq1 (wpAny_loadPart')
theorem own_tuple_new (r:Addr)(T:String)(hT:(aG T == aG "tuple")=false)(C:List Value->Prop) :
  Meets (Builtin.«tuple.__new__» ⟨[.type "tuple",.ref r],[]⟩)
   (λA R s=>s.TypeIs (.ref r) T/\(∀ prog w,Srt.Coll prog w A.in1 r s C)/\(∀ vs,C vs->vs.length<=sizeLine)/\∀(h':Heap) (tk:Nat) (vs:List Value),C vs->(∀ b o',s.heap.get? b=some o'->h'.get? b=some o')->R (.ok (.ret (.ref h'.objs.size))) {s with heap:=h'.push {cls:=.type "tuple",data:=.seq vs.toArray},toks:=tk}) :=
 .of_wp λprog w A R s h=>by
  obtain⟨hp,g,d,tk,os⟩:=s;obtain⟨hty,hcol,hz,h⟩:=h;have hsub:=sub_tuple_self;have hinit:=init_tuple_lookup;have hmh:=madeHere_tuple;have hc:∀ {Q:List Value->Shared->Prop} {E:Value->Shared->Prop},(∀(h':Heap) (tk':Nat) (vs:List Value),(∀ b o,hp.get? b=some o->h'.get? b=some o)->C vs->Q vs ⟨h',g,d,tk',os⟩) ->
    wpAny (model prog w) A.in1 (collect (.ref r)) Q E ⟨hp,g,d,tk,os⟩:=λ{Q E} k=>hcol prog w E Q k
  wp_walk using jH hty,hc
  intro h' tk' vs hk hC;show wpAny _ _ (Builtin.Tuple.tupleExact vs.toArray >>= λv=>ret v) _ _ _;unfold Builtin.Tuple.tupleExact;refine af (cR ?_ (by show vs.toArray.size<=sizeLine;simpa using hz vs hC));exact aK ⟨_,rfl,h h' tk' vs hC hk⟩
end PySem
namespace L2
open PySem PySem.Spec PyProof.Rows
section
variable {X:Cx}
theorem a2Q:N1 X (.type "range") (λxs H Q=>∃ hi:Int,xs=[.int hi]/\∀ p,H p=none->Q (.ref p) (upd H p (.rng 0 hi))):=by
 intro pins s σ H xs us Q I r h;obtain⟨hi,rfl,q⟩:=h;obtain⟨u,rfl,rx⟩:=T5 r;obtain⟨t,rfl⟩:=rx;refine call_range_1 ⟨.ref s.heap.objs.size,_,I.laid (o:=.rng 0 hi) (λ_ _ q=>ao _ q) (ak _) ⟨_,_,_,aO _ rfl⟩,rfl,q _ I.fresh⟩
def B7 (lo:Int)(n:Nat):List Int:=(dE n).map λ(i:Nat)=>lo+(i:Int)
theorem N8 (lo:Int)(n:Nat):(B7 lo n).length=n:=by unfold B7;simp
theorem a1V {us:List Value}{lo:Int}{n:Nat}(hl:us.length=n)(hi:∀(i:Nat) x,us[i]?=some x->∃ t,x=cu (lo+i*1) t):C1 ((B7 lo n).map V.int) us:=by
 have key:∀(us:List Value) (k:Nat),(∀(i:Nat) x,us[i]?=some x->∃ t,x=cu (lo+((i+k:Nat):Int)) t)->C1 (((List.range' k us.length).map λ(i:Nat)=>lo+(i:Int)).map V.int) us:=by
  intro us;induction us with
  | nil=>intro k _;exact .nil
  | cons u r ih =>
   intro k h;rw[aD,List.range'_succ,ap,ap];refine .cons ?_ (ih (k+1) λi x e=>?_)
   ·obtain⟨t,e⟩:=h 0 u rfl;rw[dI] at e;exact⟨t,e⟩
   ·obtain⟨t,e'⟩:=h (i+1) x (~~~e);exact⟨t,by rw[e'];congr 2;omega⟩
 have:=key us 0 λi x e=>by
  obtain⟨t,e'⟩:=hi i x e;exact⟨t,by rw[e',Int.mul_one,Nat.add_zero]⟩
 unfold B7;rw[List.range_eq_range',<- hl];exact this
theorem a4a {lo hi:Int}(h1:-(2 ^ 62)<=lo)(h2:lo<2 ^ 62)(h3:-(2 ^ 62)<=hi)(h4:hi<2 ^ 62):gS lo hi 1=true:=by
 exact PySem.small_one h1 h2 h3 h4
theorem a2a (hc:X.A.handled=none):N1 X (.type "tuple") (λxs H Q=>∃(p:Addr) (lo hi:Int),xs=[.ref p]/\H p=some (.rng lo hi)/\(-(2 ^ 62)<=lo/\lo<2 ^ 62/\-(2 ^ 62)<=hi/\hi<2 ^ 62)/\(hi-lo).toNat<=2 ^ 24 /\
  ∀ l,H l=none->Q (.ref l) (upd H l (.tup ((B7 lo (hi-lo).toNat).map V.int)))):=by
 intro pins s σ H xs us Q I r h;obtain⟨p,lo,hi,rfl,hp,⟨b1,b2,b3,b4⟩,hz,q⟩:=h;obtain⟨u,rfl,rx⟩:=T5 r;cases rx;have hO:=I.hok p _ hp;unfold K8 at hO;obtain⟨t,u',v,hr⟩:=hO;have hsl:(hi-lo).toNat<=sizeLine:=by rw[sizeLine_eq];omega
 refine callType_new F.called_tuple (by decide) (F.typeCall_tuple_1 _) (F.newCall_tuple_1 _) (λobj=>F.args_object_init_2 obj _) F.entry_tuple_new
  (own_tuple_new p "range" (by decide) (λus=>us.length=(hi-lo).toNat/\∀(i:Nat) x,us[i]?=some x->∃ t,x=cu (lo+i*1) t))
  ⟨⟨_,hr,rfl⟩,λprog w=>Srt.coll_range (A:=X.A.in1.in1) hc hr (a4a b1 b2 b3 b4) (rangeSize_nat lo hi) hz,λvs hv=>by rw[hv.1];exact hsl,λh' tk vs hv hk=>⟨⟨_,aO _ rfl,rfl⟩,?_⟩⟩
 have I1:Inv X pins σ H {s with heap:=h',toks:=tk}:=I.kept hk;refine⟨.ref h'.objs.size,_,I1.laid (t':=tk) (o:=.tup ((B7 lo (hi-lo).toNat).map V.int)) (λ_ _ q=>ao _ q) (ak _) ⟨by rw[aa,N8];exact hsl,vs,a1V hv.1 hv.2,_,aO _ rfl,rfl,0,rfl⟩,rfl,q _ I1.fresh⟩
theorem a2n (hc:X.A.handled=none):N1 X (.type "list") (λxs H Q=>∃(p:Addr) (lo hi:Int),xs=[.ref p]/\H p=some (.rng lo hi)/\(-(2 ^ 62)<=lo/\lo<2 ^ 62/\-(2 ^ 62)<=hi/\hi<2 ^ 62)/\(hi-lo).toNat<=2 ^ 24 /\
  ∀ l,H l=none->Q (.ref l) (upd H l (.lst ((B7 lo (hi-lo).toNat).map V.int)))):=by
 intro pins s σ H xs us Q I r h;obtain⟨p,lo,hi,rfl,hp,⟨b1,b2,b3,b4⟩,hz,q⟩:=h;obtain⟨u,rfl,rx⟩:=T5 r;cases rx;have hO:=I.hok p _ hp;unfold K8 at hO;obtain⟨t,u',v,hr⟩:=hO;have hsl:(hi-lo).toNat<=sizeLine:=by rw[sizeLine_eq];omega
 refine call_list_range hc hr (a4a b1 b2 b3 b4) (rangeSize_nat lo hi) hz λh' tk acc' c' hk hS' hacc=>?_
 refine⟨.ref s.heap.objs.size,_,I.laid (t':=tk) (o:=.lst ((B7 lo (hi-lo).toNat).map V.int)) hk (ak _) ⟨by rw[aa,N8];exact hsl,acc'.toList,c',a1V (by rw[bz];exact hacc.1) λi x e=>hacc.2 i x (by rw[<- bp];exact e),by rw[fQ];exact hS'⟩,rfl,q _ I.fresh⟩
end
end L2
namespace Srt
open PySem PyProof.Rows PySem.W
theorem nolen_lr:typeLookup (.type "list_reverseiterator") "__len__"=pure none:=by rw[typeLookup_type,builtinLookup_eq_fast];kernel_rfl
theorem hint_lr:typeLookup (.type "list_reverseiterator") "__length_hint__"=pure (some (.builtin "list_reverseiterator.__length_hint__")):=by rw[typeLookup_type,builtinLookup_eq_fast];kernel_rfl
section
variable {prog:Program}{w:World}{A:Around}{E:Value->Shared->Prop}{s:Shared}
theorem rev_extend {R:Result->Shared->Prop}{r l S:Addr}{items:Array Value}{res:Value}{c₀:Nat}(hh:A.handled=none)(hr:s.heap.IsRevIter r l ((items.size:Int)-1))(hl:s.heap.IsList l items)(hne:l≠r)(hSr:S≠r)(hSl:S≠l)
  (hS:s.heap.get? S=some {cls:=.type "list",data:=.seq #[] c₀}) (hn:items.size<=sizeLine)
  (hR:∀ h' tk acc' c',(∀ b o,b≠S->b≠r->s.heap.get? b=some o->h'.get? b=some o)->h'.get? S=some {cls:=.type "list",dict:=none,data:=.seq acc' c',slots:=#[]} ->
   ItemsOf (λi v=>items[items.size-1-i]?=some v) acc' items.size->R (.ok (.ret res)) {s with heap:=h',toks:=tk}) :
  wpAny (model prog w) A.in1 (Builtin.List.listExtendWith (.ref S) (.ref r) res)
   (λfin s'=>match fin with | .done f=>R (.ok f) s' | .again c'=>c'.quiet=true/\codeAny (model prog w) A c' R s') (λe s'=>R (.error e) s') s:=by
 have W:=(Walks.listRev (prog:=prog) (w:=w) (A:=A.in1) hh r l hne items).toS;have hSf:S∉[r,l]:=by simp only[aQ,cq,or_false,not_or];exact⟨hSr,hSl⟩
 unfold Builtin.List.listExtendWith;refine af (jH hr.typeIs ?_);have h1:Builtin.List.listSameRef (.ref S) (.ref r)=false:=by simp[Builtin.List.listSameRef,hSr]
 rw[if_neg (by rw[h1];decide)];refine af (wpAny_pyIter_revIter hr ?_);refine af (ce ?_);unfold Builtin.List.listLengthHint;refine af (iA hr.typeIs nolen_lr ?_);show wpAny _ A.in1 (specialOf (bd r) (Str.ofString "__length_hint__") >>= _) _ _ _;refine af (iA hr.typeIs hint_lr ?_);generalize hid:("list_reverseiterator.__length_hint__":String)=id0
 wp_delta
 rw[show splitId id0=some ("list_reverseiterator", "__length_hint__") from by subst hid;decide +kernel];subst hid;refine af (wpAny_isInstance (b:=true) hr.typeIs (by rw[isSubtype_type];kernel_rfl) ?_);refine aK ?_;rw[if_neg (by decide)];refine aK ⟨plainId_quiet PySem.F.plain_extend_loop _,codeAny_extend_loopS W hn S hSf res items.size 0 s #[] c₀ rfl (bi _) ⟨bi _, ~~~hr,hl⟩ hS (ItemsOf.nil _) λs' acc' c' hm hS' hacc=>?_⟩;rw[Moved.eq_with hm];refine hR s'.heap s'.toks acc' c' (λb o hb hbr e=>hm.heap b o (λhmem=>?_) e) hS' hacc;rcases aQ.mp hmem with e' | hmem
 ·exact hb e'
 ·exact hbr (ag.mp hmem)
theorem call_list_rev {Q:Value->Shared->Prop}{r l:Addr}{items:Array Value}(hh:A.handled=none)(hr:s.heap.IsRevIter r l ((items.size:Int)-1))(hl:s.heap.IsList l items)(hne:l≠r)(hn:items.size<=sizeLine)
  (hQ:∀ h' tk acc' c',(∀ b o,b≠r->s.heap.get? b=some o->h'.get? b=some o)->h'.get? s.heap.objs.size=some {cls:=.type "list",dict:=none,data:=.seq acc' c',slots:=#[]} ->
   ItemsOf (λi v=>items[items.size-1-i]?=some v) acc' items.size->Q (.ref s.heap.objs.size) {s with heap:=h',toks:=tk}) :
  wpAny (model prog w) A (call (.type "list") [.ref r]) Q E s:=by
 refine callType_codes (Q₁:=λobj s₁=>obj=.ref s.heap.objs.size/\s₁={s with heap:=s.heap.push {cls:=.type "list",data:=.seq #[]}}) PySem.F.called_list (PySem.F.typeCall_list_1 _) PySem.F.entry_list_init
  (code_list_new _ ⟨rfl,rfl⟩) λobj s₁ h₁=>?_
 obtain⟨rfl,rfl⟩:=h₁;have hS:(s.heap.push {cls:=.type "list",data:=.seq #[]}).get? s.heap.objs.size=some {cls:=.type "list",data:=.seq #[]}:=aO _ rfl;have rlt:r<s.heap.objs.size:=let ⟨o,ho,_⟩:=hr;aF ho;have llt:l<s.heap.objs.size:=let ⟨o,ho,_⟩:=hl;aF ho;refine⟨⟨_,hS,rfl⟩,PySem.F.args_list_init_2 _ _,?_⟩;show wpAny _ _ (do let old <- Builtin.List.listItems (.ref s.heap.objs.size);Builtin.List.listUpdate (.ref s.heap.objs.size) (λ_=>#[]);letGo old.toList.reverse;Builtin.List.listExtendWith (.ref s.heap.objs.size) (.ref r) .none) _ _ _;refine af ?_;unfold Builtin.List.listItems;refine af (wpAny_seqItems hS rfl (aK ?_));show wpAny _ _ (updateSeq s.heap.objs.size (λ_=>#[]) >>= λ_=>letGo (#[]:Array Value).toList.reverse >>= λ_=>Builtin.List.listExtendWith (.ref s.heap.objs.size) (.ref r) .none) _ _ _;refine af (wpAny_updateSeq hS rfl ?_);have hSz:=fP (Obj.mapSeq (λ_=>(#[]:Array Value))) hS rfl;have oth:∀ b o,b≠s.heap.objs.size->s.heap.get? b=some o->((s.heap.push {cls:=.type "list",data:=.seq #[]}).update s.heap.objs.size (Obj.mapSeq (λ_=>(#[]:Array Value)))).get? b=some o :=
  λb o hb e=>(fJ _ _ (fb hb)).trans (ao _ e)
 refine af (wpAny_letGo ?_);refine rev_extend (A:=A.in1) hh (hr.at λo e=>oth r o (aY rlt) e) (hl.at λo e=>oth l o (aY llt) e) hne (iY rlt) (iY llt) hSz hn λh' tk acc' c' hk hS' hacc=>?_
 exact⟨rfl,hQ h' tk acc' c' (λb o hb e=>hk b o (aY (aF e)) hb (oth b o (aY (aF e)) e)) hS' hacc⟩
end
end Srt
namespace L2
open PySem PySem.Spec PyProof.Rows
section
variable {X:Cx}{e:Expr}{te:TE}{p1 p2 q1 q2:Pos}
theorem a5A:bootBuiltins "list"=some (.type "list"):=by decide +kernel
theorem a2o:bootBuiltins "reversed"=some (.type "reversed"):=by decide +kernel
theorem a3J:∀ {xs:List V} {us:List Value},C1 xs us->C1 xs.reverse us.reverse
 | _,_,.nil=>.nil
 | _,_,.cons r t=>by
  rw[dW,dW];exact (a3J t).append (.cons r .nil)
def b0G (te:TE):TE:=fun σ H Q=>te σ H λx H1=>∃ a xs,x=.ref a/\H1 a=some (.lst xs)/\∀ l,H1 l=none->Q (.ref l) (upd H1 l (.lst xs.reverse))
theorem a5e (hc:X.A.handled=none)(hg1:Gl X "list")(hm1:X.mg "list"=none)(hg2:Gl X "reversed")(hm2:X.mg "reversed"=none)(he:PE X e te)
  (hs1:starEach [.Call (.Name "reversed" p1) [e] [] q1] X.env=[(false,eval (.Call (.Name "reversed" p1) [e] [] q1) X.env)]:=by rfl) (hs2:starEach [e] X.env=[(false,eval e X.env)]:=by rfl) :
  PE X (.Call (.Name "list" p2) [.Call (.Name "reversed" p1) [e] [] q1] [] q2) (b0G te):=by
 intro pins s σ H Q I h;refine dh (a0c I hg1 hm1 a5A ?_);refine cp ?_ hs1 rfl;rw[hs1];refine eZ ?_;refine dh (a0c I hg2 hm2 a2o ?_);refine cp ?_ hs2 rfl;rw[hs2];refine eZ (thn (he pins s σ H _ I h) λu s1 ⟨x,H1,I1,r1,q1⟩=>?_);obtain⟨a,xs,rfl,ha,q⟩:=q1;cases r1;refine fq ?_;obtain⟨its,n,rv,ho,hz⟩:=I1.lst ha;have hl:s1.heap.IsList a its.toArray:=⟨_,ho,rfl,n,rfl⟩
 have alt:a<s1.heap.objs.size:=aF ho;refine call_reversed_list hl ?_;refine fq ?_;have k1:∀ b o,s1.heap.get? b=some o->(s1.heap.push (revObj a ((its.toArray.size:Int)-1))).get? b=some o:=λ_ _ q=>ao _ q
 refine Srt.call_list_rev (s:={s1 with heap:=s1.heap.push (revObj a ((its.toArray.size:Int)-1))}) hc ⟨_,aO _ rfl,rfl,rfl⟩ (hl.at λo e=>k1 a o e) (aY alt) (by rw[aB,<- rv.length];exact hz) λh' tk acc' c' hk hS' hacc=>?_
 have eacc:acc'.toList=its.reverse:=by
  apply dj;intro i;rw[bp];rcases cf i its.length with hi | hi
  ·have hi':i<acc'.size:=by rw[hacc.1,aB];exact hi
   have:=hacc.2 i acc'[i] (bJ hi');rw[bJ hi',List.getElem?_reverse hi];rw[aB,List.getElem?_toArray] at this;exact this.symm
  ·rw[b7 (by rw[hacc.1,aB];exact hi),cn (by rw[fY];exact hi)]
 have keep:∀ b o,s1.heap.get? b=some o->h'.get? b=some o:=λb o e=>hk b o (aY (aF e)) (k1 b o e)
 have hsz:(s1.heap.push (revObj a ((its.toArray.size:Int)-1))).objs.size=s1.heap.objs.size+1:=ik ..;refine⟨.ref (s1.heap.push (revObj a ((its.toArray.size:Int)-1))).objs.size,_,I1.laid (t':=tk) (a:=(s1.heap.push (revObj a ((its.toArray.size:Int)-1))).objs.size) (o:=.lst xs.reverse) keep (by rw[hsz];omega) ⟨by rw[fY];exact hz,its.reverse,c',a3J rv,by rw[<- eacc,fQ];exact hS'⟩,rfl,q _ (I1.hok.fresh (by rw[hsz];omega))⟩
end
end L2
end
section
namespace L2
open PySem PySem.Spec PyProof.Rows
theorem a9w {prog:Program}{w:World}{A:Around}{E:Value->Shared->Prop}{s:Shared}{d:Addr}{es:Array DictEntry}{ep:Nat}{Q:Value->Shared->Prop}(hd:(d == sysModules)=false)(r:Srt.RawD s.heap d es ep)
  (h:Q (.int es.size s.toks) {s with toks:=s.toks+1}):wpAny (model prog w) A (call (.builtin "dict.__len__") [.ref d]) Q E s:=by
 obtain⟨o,ho,hx,hdat⟩:=id r;refine eY F.slot_dict_len r.typeIs F.entry_dict_len ?_ (F.args_dict_len_1 _);show wpAny _ _ (dictSize d >>= _) _ _ s;unfold dictSize;refine af (af (fK ho hdat (aK ?_)));show wpAny _ _ (Builtin.Dict.pendingCount d >>= _) _ _ s;refine af (wpAny_pendingCount_other hd ?_);refine wpAny_ret_mkInt ?_;first | exact⟨_,rfl,h⟩ | exact h | simpa using h
section
variable {X:Cx}
theorem a5z:N1 X (.builtin "len") (λxs H Q=>∃(a:Addr) (kvs:List (List Key×V)),xs=[V.ref a]/\H a=some (.dT kvs)/\Q (.int kvs.length) H):=by
 intro pins s σ H xs us Q I r h;obtain⟨a,kvs,rfl,ha,q⟩:=h;obtain⟨u,rfl,ru⟩:=T5 r;cases ru;have hO:=I.hok a _ ha;unfold K8 at hO;obtain⟨z,lo,xs,rel,o,es,ep,ho,hx,hd,hes,hn⟩:=hO;have hl:es.size=kvs.length:=by rw[<- bz,hes,aa,<- dH rel]
 have rd:Srt.RawD s.heap a es ep:=⟨o,ho,hx,hd⟩
 rw[sizeLine_eq] at z;refine call_len_slot (n:=kvs.length) rd.typeIs F.slot_dict_len (λQ' hq=>a9w lo rd (by rw[hl];exact hq)) ∅ ∅ ?_;exact⟨.int kvs.length,H,I.tok _,⟨_,rfl⟩,q⟩
end
structure Df (K:ae)(mg:Str->Option Value)(x:Str)(st:Stmt)(f:Addr)(fd:FuncData)(ps:List Str):Prop where
 F:Fun K x x st f fd
 b:a2W K fd ps []
 m:mg x=some (.ref f)
theorem B4 {X:Cx}{k:Nat}{f:Addr}{fd:FuncData}{ps:List Str}{sp:Sp}{x:Str}{st:Stmt}{p pos:Pos}{e:Expr}{es:List Expr}{t:TA}(G:C2 X.prog X.w X.K X.mg X.base CX0 k f fd ps sp)(D:Df X.K X.mg x st f fd ps)(hr:Q5 k X.A)
  (ha:PA X (e::es) t) (hg:Gl X x:=by rfl) (hdb:(x == ("__debug__":Str))=false:=by decide) (he:starEach (e::es) X.env=(false,eval e X.env)::starEach es X.env:=by rfl) (hpl:(backTo pos (starEach es X.env)).any (·.1)=false:=by rfl) :
  PE X (.Call (.Name x p) (e::es) [] pos) (a5J sp [] E0 t):=a5X G hr hg D.m D.F.kp D.b .nil b3J ha hdb he hpl
structure Bt (mg:Str->Option Value):Prop where
 len:mg "len"=none
 range:mg "range"=none
 list:mg "list"=none
 tuple:mg "tuple"=none
 sorted:mg "sorted"=none
 min:mg "min"=none
 max:mg "max"=none
 int:mg "int"=none
 reversed:mg "reversed"=none
section
variable {X:Cx}(K:ae)
theorem C9 (h:X.K=K:=by rfl):IxR X (a9z K):=by subst h;exact b0d
theorem J9 (h:X.K=K:=by rfl):IxR X (a9y K):=by subst h;exact b2k
theorem G9 (h:X.K=K:=by rfl):SlR X (a9x K):=by subst h;exact a9t
theorem b0n (h:X.K=K:=by rfl):OpR X (compareOp .In) (rIn K false):=by subst h;exact a6u
theorem b3M (hu:X.A.units+64<cLine)(h:X.K=K:=by rfl):OpR X (compareOp .NotEq) (a9B K true):=by subst h;exact b1V hu
theorem b4B (hu:X.A.units<cLine)(h:X.K=K:=by rfl):OpR X (compareOp .Lt) (b3C K):=by subst h;exact b1W hu
def b2O (K:ae):List V->Hp->VK->Prop:=λxs H Q=>∃ p ys,xs=[.ref p]/\(SqL K H p ys\/SqT K H p ys)/\Q (.int ys.length) H
def b1d (K:ae):List V->Hp->VK->Prop:=λxs H Q=>∃ p ys,xs=[.ref p]/\(SqL K H p ys\/SqT K H p ys)/\∀ l,H l=none->Q (.ref l) (upd H l (.lst ys))
def a9d (K:ae):List V->Hp->VK->Prop:=λxs H Q=>∃ p ys,xs=[.ref p]/\((SqL K H p ys/\∀ l,H l=none->Q (.ref l) (upd H l (.tup ys)))\/(SqT K H p ys/\Q (.ref p) H))
def a9f (K:ae):List V->Hp->VK->Prop:=λxs H Q=>∃(p:Addr) (ns:List Int),xs=[.ref p]/\b2V K H p ns/\∀(ns':List Int) (l:Addr),ns'.Perm ns->ns'.Pairwise (·<=·)->H l=none->Q (.ref l) (upd H l (.lst (ns'.map V.int)))
def a9e (K:ae):List V->Hp->VK->Prop:=λxs H Q=>∃(p:Addr) (ps:List (Addr×List Int)),xs=[.ref p]/\b2U K H p ps/\∀(ps':List (Addr×List Int)) (l:Addr),ps'.Perm ps->(ps'.Pairwise λx y=>HT.lexLt y.2 x.2=false)->H l=none->Q (.ref l) (upd H l (.lst (ps'.map λx=>V.ref x.1)))
theorem Y9 (h:X.K=K:=by rfl):N1 X (.builtin "len") (b2O K):=by subst h;exact a3C
theorem b3N (h:X.K=K:=by rfl):N1 X (.type "list") (b1d K):=by subst h;exact a3B
theorem V8 (h:X.K=K:=by rfl):N1 X (.type "tuple") (a9d K):=by subst h;exact a2m
theorem a0k (hc:X.A.handled=none)(h:X.K=K:=by rfl):N1 X (.builtin "sorted") (a9f K):=by subst h;exact a3z hc
theorem a1A (h:X.K=K:=by rfl):N1 X (.builtin "sorted") (a9e K):=by subst h;exact a3y
variable {tg l o e:Expr}{tl to:TE}{es:List Expr}{t:TA}{pos:Pos}
theorem K4 (hl:PE X l tl)(h:X.K=K:=by rfl):PI X tg l (a8C K tl):=by subst h;exact a9H hl
theorem V2 (hl:PE X l tl)(h:X.K=K:=by rfl):PI X tg l (b2B K tl):=by subst h;exact b1P hl
theorem R9 {k:Nat}{t:TGs}{n:Nat}(hc:X.calm=true)(hg:PGs X es t)(hn:(assignEach es X.env).length=n:=by rfl)(hst:(assignEach es X.env).findIdx? (·.1)=none:=by rfl)(h:X.K=K:=by rfl):PG X (.Tuple es k pos) (b2F K n t):=by
 subst h;exact b1Q hc hg hn hst
theorem N6 {apos cpos:Pos}(ho:PE X o to)(ha:PA X (e::es) t)(h:X.K=K:=by rfl)
  (hbase:attributeBase o "append" X.env (eval o X.env)=eval o X.env:=by rfl)
  (hfew:((backTo cpos (starEach (e::es) X.env)).all (λx=>!x.1) && (backToKw cpos (keywordEach [] X.env)).all (λx=>x.1.isSome)
   && decide ((e::es).length+([]:List Keyword).length+(if ([]:List Keyword).isEmpty then 0 else 1)<30))=true:=by rfl) (hst:starEach (e::es) X.env=(false,eval e X.env)::starEach es X.env:=by rfl) (hpl:(backTo cpos (starEach es X.env)).any (·.1)=false:=by rfl) (hline:(apos.endLine == cpos.line)=true:=by rfl) :
  PE X (.Call (.Attribute o "append" apos) (e::es) [] cpos) (tBM K "list" a3e to t):=by
 subst h;exact a5Y ia PySem.F.slot_list_append PySem.F.type_list_append a2F ho ha hbase hfew hline hst hpl
theorem b1O {apos cpos:Pos}(ho:PE X o to)(h:X.K=K:=by rfl)(hbase:attributeBase o "pop" X.env (eval o X.env)=eval o X.env:=by rfl)(hline:(apos.endLine == cpos.line)=true:=by rfl) :
  PE X (.Call (.Attribute o "pop" apos) [] [] cpos) (b1y K "list" b1F to):=by
 subst h;exact b1T ia PySem.F.slot_list_pop PySem.F.type_list_pop b2e ho hbase hline
theorem a7d (he:PE X e to)(hw:∀ whole,isTrue e X.env whole=(do let v <- whole;standAt e.pos;holding [v] (truthy v)))(h:X.K=K:=by rfl):PT X e (fun σ H Q=>to σ H λx H'=>∃ k,b2S K x H' k/\Q k H'):=by
 subst h;exact a7D he hw
end
section
variable {K:ae}{a p:Addr}{xs:List V}{g:TG}{tc:TT}{te tv:TE}{τ0:St}{H0:Hp}{EE:Hp->Prop}
theorem S7 (Pv:Nat->St->Hp->Prop)(h0:Pv 0 τ0 H0)(hl:∀ i τ H,i<=xs.length->Pv i τ H->SqL K H a xs)
  (hs:∀ i x τ H,xs[i]?=some x->Pv i τ H->(∀ ys,SqL K H a ys->ys[i]?=some x)->g x τ H fun τ2 H2=>tc τ2 H2 λb H3=>if b=true then te τ2 H3 λv H4=>∃ ys,H4 p=some (.lst ys)/\ys.length<sizeLine/\Pv (i+1) τ2 (upd H4 p (.lst (ys++[v]))) else Pv (i+1) τ2 H3)
  (hd:∀ τ H,Pv xs.length τ H->EE H):lcW g tc te p (Itl K a) τ0 H0 EE:=by
 refine⟨λi m τ H=>m=xs.length-i/\i<=xs.length/\Pv i τ H,⟨_,rfl,bi _,h0⟩,?_⟩;rintro i m τ H ⟨rfl,hi,hp⟩;have hq:=hl i τ H hi hp;rcases cf i xs.length with h | h
 ·have hx:xs[i]?=some xs[i]:=aA h;refine .inr ⟨⟨xs,_,hq,hx⟩,Pv (i+1),fun τ' H' z=>⟨_,∅,rfl,h,z⟩,?_⟩;rintro x H' ⟨rfl,hy⟩;have e:x=xs[i]:=by have:=hy xs hq;rw[hx] at this;exact (aI this).symm
  subst e;exact hs i _ τ H' hx hp hy
 ·have e:i=xs.length:=∅
  subst e;exact .inl ⟨⟨xs,hq,ak _⟩,hd τ H hp⟩
theorem X0 {lo:Int}{n:Nat}(Pv:Nat->St->Hp->Prop)(h0:Pv 0 τ0 H0)
  (hs:∀ i τ H,i<n->Pv i τ H->g (.int (lo+i)) τ H fun τ2 H2=>tc τ2 H2 λb H3=>if b=true then te τ2 H3 λv H4=>∃ ys,H4 p=some (.lst ys)/\ys.length<sizeLine/\Pv (i+1) τ2 (upd H4 p (.lst (ys++[v]))) else Pv (i+1) τ2 H3)
  (hd:∀ τ H,Pv n τ H->EE H):lcW g tc te p (Itr lo n) τ0 H0 EE:=by
 refine⟨λi m τ H=>m=n-i/\i<=n/\Pv i τ H,⟨_,rfl,bi _,h0⟩,?_⟩;rintro i m τ H ⟨rfl,hi,hp⟩;rcases cf i n with h | h
 ·refine .inr ⟨h,Pv (i+1),fun τ' H' z=>⟨_,∅,rfl,h,z⟩,?_⟩;rintro x H' ⟨rfl,rfl⟩;exact hs i τ H' h hp
 ·have e:i=n:=∅
  subst e;exact .inl ⟨ak _,hd τ H hp⟩
theorem b2J (Pv:Nat->St->Hp->Prop)(h0:Pv 0 τ0 H0)(hl:∀ i τ H,i<=xs.length->Pv i τ H->SqT K H a xs)
  (hs:∀ i x τ H,xs[i]?=some x->Pv i τ H->g x τ H fun τ2 H2=>tc τ2 H2 λb H3=>if b=true then te τ2 H3 λk H4=>tv τ2 H4 λv H5=>∃ H6,X7 H5 p k v H6/\Pv (i+1) τ2 H6 else Pv (i+1) τ2 H3)
  (hd:∀ τ H,Pv xs.length τ H->EE H):dcW g tc te tv p (Itt K a) τ0 H0 EE:=by
 refine⟨λi m τ H=>m=xs.length-i/\i<=xs.length/\Pv i τ H,⟨_,rfl,bi _,h0⟩,?_⟩;rintro i m τ H ⟨rfl,hi,hp⟩;have hq:=hl i τ H hi hp;rcases cf i xs.length with h | h
 ·have hx:xs[i]?=some xs[i]:=aA h;refine .inr ⟨⟨xs,_,hq,hx⟩,Pv (i+1),fun τ' H' z=>⟨_,∅,rfl,h,z⟩,?_⟩;rintro x H' ⟨rfl,hy⟩;have e:x=xs[i]:=by have:=hy xs hq;rw[hx] at this;exact (aI this).symm
  subst e;exact hs i _ τ H' hx hp
 ·have e:i=xs.length:=∅
  subst e;exact .inl ⟨⟨xs,hq,ak _⟩,hd τ H hp⟩
end
theorem a2R {X:Cx}:N1 X (.type "int") (λxs H Q=>∃ k,xs=[.bl k]/\Q (.int (if k then 1 else 0)) H):=λpins s σ H xs us Q I r h=>a6S pins s σ H xs us Q I r (.inr h)
theorem a6Z {H:Hp}{a:Addr}{o:HO}(h:H a=some o):upd H a o=H:=by
 funext b;by_cases e:b=a
 ·subst e;rw[A2,h]
 ·rw[A8 e]
theorem B2.upd {H H':Hp}(s:B2 H H'){p:Addr}{o:HO}(hp:H p=none):B2 H (L2.upd H' p o):=λb u e=>by
 rw[A8 (B9 e hp)];exact s b u e
theorem B2.seqT {K:ae}{H H':Hp}{a:Addr}{xs:List V}(e:B2 H H')(h:SqT K H a xs):SqT K H' a xs:=by
 rcases h with (h | ⟨o,h⟩) | h
 ·exact .inl (.inl (e _ _ h))
 ·exact .inl (.inr ⟨o,e _ _ h⟩)
 ·exact .inr h
theorem B8 {n:Nat}(h:n<=16000000):n<sizeLine:=by rw[sizeLine_eq];omega
end L2
end
section
namespace L2
open PySem
def Tp (H H':Hp):Prop:=∀ a xs,H a=some (.tup xs)->H' a=some (.tup xs)
theorem Tp.refl (H:Hp):Tp H H:=λ_ _ h=>h
theorem Tp.trans {H H1 H2:Hp}(a:Tp H H1)(b:Tp H1 H2):Tp H H2:=λc o h=>b c o (a c o h)
theorem B2.tp {H H':Hp}(s:B2 H H'):Tp H H':=λa xs h=>s a _ h
theorem b0U {H:Hp}{a b:Addr}{xs ys:List V}(h:H a=some (.tup xs))(h':H b=some (.lst ys)):a≠b:=λe=>by subst e;rw[h] at h';cases h'
theorem b1Z {H:Hp}{a b:Addr}{xs:List V}{ys:List (List Key×V)}(h:H a=some (.tup xs))(h':H b=some (.dT ys)):a≠b:=λe=>by subst e;rw[h] at h';cases h'
theorem b2a {H:Hp}{a b:Addr}{xs:List V}{ys:List (Key×V)}(h:H a=some (.tup xs))(h':H b=some (.dK ys)):a≠b:=λe=>by subst e;rw[h] at h';cases h'
theorem Tp.new {H H':Hp}(s:Tp H H'){p:Addr}{o:HO}(hp:H p=none):Tp H (upd H' p o):=λa xs h=>by rw[A8 (B9 h hp)];exact s a xs h
theorem Tp.lst {H:Hp}{p:Addr}{o:HO}{ys:List V}(hp:H p=some (.lst ys)):Tp H (upd H p o):=λa xs h=>by rw[A8 (b0U h hp)];exact h
theorem Tp.dT {H:Hp}{p:Addr}{o:HO}{ys:List (List Key×V)}(hp:H p=some (.dT ys)):Tp H (upd H p o):=λa xs h=>by rw[A8 (b1Z h hp)];exact h
theorem Tp.dK {H:Hp}{p:Addr}{o:HO}{ys:List (Key×V)}(hp:H p=some (.dK ys)):Tp H (upd H p o):=λa xs h=>by rw[A8 (b2a h hp)];exact h
theorem Tp.nw {H:Hp}{p:Addr}{o:HO}(hp:H p=none):Tp H (upd H p o):=(Tp.refl H).new hp
theorem P3 {H:Hp}{a p:Addr}{o u:HO}(h:H a=some o)(hp:H p=none):upd H p u a=some o:=by rw[A8 (B9 h hp)];exact h
theorem P7 {H:Hp}{p q:Addr}{o:HO}(h:upd H p o q=none):H q=none:=by
 by_cases e:q=p
 ·subst e;rw[A2] at h;cases h
 ·rwa [A8 e] at h
@[elab_as_elim] theorem A6 {G:Hp->Prop} {H:Hp} {p:Addr} {o:HO} (n:H p=none) (k:∀ H',B2 H H'->H' p=some o->G H'):G (upd H p o):=k _ ((B2.refl H).upd n) A2
theorem a7r {a b:TS}{D:T9}{σ:St}{H:Hp}(C:St->Hp->Prop)(ha:∀ R:St->Hp->Prop,(∀ σ H,C σ H->R σ H)->a {D with nx:=R} σ H)(hb:∀ σ H,C σ H->b D σ H):b1l a b D σ H:=ha (b D) hb
def b4d (ds:List Int):Prop:=ds.length<=2000/\∀ x∈ds,0<=x/\x<1000
def Q3 (H:Hp)(d:Addr):Prop:=∃ ds:List Int,H d=some (.lst (ds.map V.int))/\b4d ds
def Kp (d:Addr)(H H':Hp):Prop:=∀ b o,b≠d->H b=some o->H' b=some o
theorem Kp.refl (d:Addr)(H:Hp):Kp d H H:=λ_ _ _ h=>h
theorem Kp.trans {d:Addr}{H H1 H2:Hp}(a:Kp d H H1)(b:Kp d H1 H2):Kp d H H2:=λc o hc e=>b c o hc (a c o hc e)
theorem B2.kp {d:Addr}{H H':Hp}(s:B2 H H'):Kp d H H':=λb o _ h=>s b o h
theorem Kp.free {d:Addr}{H H':Hp}(k:Kp d H H')(hd:Q3 H' d){l:Addr}(h:H' l=none):H l=none:=by
 cases e:H l with
 | none=>rfl
 | some o =>
  by_cases q:l=d
  ·subst q;obtain⟨ds,e',_⟩:=hd;rw[e'] at h;cases h
  ·rw[k l o q e] at h;cases h
theorem Kp.new {d:Addr}{H H':Hp}(k:Kp d H H'){p:Addr}{o:HO}(hp:H p=none):Kp d H (upd H' p o):=λb u hb e=>by
 rw[A8 (B9 e hp)];exact k b u hb e
theorem Q3.new {d:Addr}{H:Hp}(h:Q3 H d){p:Addr}{o:HO}(hp:p≠d):Q3 (upd H p o) d:=by
 obtain⟨ds,e,hl⟩:=h;exact⟨ds,by rw[A8 hp.symm];exact e,hl⟩
theorem Q3.ne {d p:Addr}{H:Hp}(h:Q3 H d)(hp:H p=none):p≠d:=λe=>by
 subst e;obtain⟨ds,e,_⟩:=h;rw[hp] at e;cases e
theorem Q3.same {d:Addr}{H H':Hp}(h:Q3 H d)(s:B2 H H'):Q3 H' d:=by
 obtain⟨ds,e,hl⟩:=h;exact⟨ds,s _ _ e,hl⟩
theorem Kp.tp {d:Addr}{H H':Hp}(k:Kp d H H')(hd:Q3 H d):Tp H H':=λa xs h=>by
 refine k a _ (λe=>?_) h;subst e;obtain⟨ds,e',_⟩:=hd;rw[h] at e';cases e'
def a3Y:Sp:=λvs H Q _=>∃ c k:Int,vs=[.int c,.int k]/\0<=k/\k<2 ^ 30/\∀ z:Int,Q (.int z) H
def U0:Sp:=λvs H Q _=>∃(d:Addr) (ns:List Int),vs=[.ref d]/\H d=some (.lst (ns.map V.int))/\∀(z:Int) (ns':List Int),ns'.length<=ns.length->(∀ x∈ns',x∈ns)->(z=0\/z∈ns)->Q (.int z) (upd H d (.lst (ns'.map V.int)))
theorem Q9 {H:Hp}{d:Addr}{Q:VK}{E:XK}(hd:Q3 H d)(h:∀ z H',Kp d H H'->Q3 H' d->0<=z->z<1000->Q (.int z) H'):U0 [.ref d] H Q E:=by
 obtain⟨ds,e,hl,hb⟩:=hd;refine⟨d,ds,rfl,e,λz ns' hn hs hz=>?_⟩;have hz':0<=z/\z<1000:=by
  rcases hz with rfl | hz
  ·exact⟨by decide,by decide⟩
  ·exact hb z hz
 exact h z _ (λb o hb eb=>by rw[A8 hb];exact eb) ⟨ns',A2,∅,λx hx=>hb x (hs x hx)⟩ hz'.1 hz'.2
theorem T7 {H:Hp}{d:Addr}{Q:VK}{E:XK}(hd:Q3 H d)(h:∀ z H',Kp d H H'->Q3 H' d->(∀ b,b≠d->H' b=H b)->Q (.int z) H'):U0 [.ref d] H Q E:=by
 obtain⟨ds,e,hl,hb⟩:=hd;exact⟨d,ds,rfl,e,λz ns' hn hs _=>h z _ (λb o hb eb=>by rw[A8 hb];exact eb) ⟨ns',A2,∅,λx hx=>hb x (hs x hx)⟩ λb hb=>A8 hb⟩
def a5O (K:ae):Sp:=λvs H Q _=>∃(a:Addr) (m:Int) (ns:List Int),vs=[.ref a,.int m]/\SqL K H a (ns.map V.int)/\ns.length<=63/\0<=m/\m<=2000 /\
 ∀(p:Addr) (ds:List Int) (H':Hp),b4d ds->B2 H H'->H p=none->H' p=some (.lst (ds.map V.int))->Q (.ref p) H'
def a1m:Sp:=λvs H Q _=>∃(d:Addr) (n:Int),vs=[.ref d,.int n]/\Q3 H d/\0<=n/\n<=1000 /\
 ∀(p:Addr) (ks:List Int) (H':Hp),Kp d H H'->Q3 H' d->H p=none->H' p=some (.tup (ks.map V.int))->ks.Perm (B7 0 n.toNat)->Q (.ref p) H'
theorem a3N {H:Hp}{d:Addr}{n:Int}{Q:VK}{E:XK}(hd:Q3 H d)(h0:0<=n)(h1:n<=1000)(h:∀(p:Addr) (ks:List Int) (H':Hp),Kp d H H'->Q3 H' d->H p=none->H' p=some (.tup (ks.map V.int))->ks.Perm (B7 0 n.toNat)->Q (.ref p) H'):a1m [.ref d,.int n] H Q E :=
 ⟨d,n,rfl,hd,h0,h1,h⟩
theorem a5d (i:Nat):B7 0 (i+1)=B7 0 i++[(0:Int)+i]:=by unfold B7;rw[List.range_succ,aC];rfl
def sp_law (K:ae):Sp:=λvs H Q _=>∃(a:Addr) (ns:List Int),vs=[.ref a]/\SqL K H a (ns.map V.int)/\ns.length<=63/\∀ H',Q (.bl true) H'
def tl (t:Int×Int):List Int:=[t.1,t.2]
def Lex (t u:Int×Int):Prop:=t.1<u.1\/(t.1=u.1/\t.2<u.2)
structure S3 (n:Int)(ts:⋯):Prop where
 n3:3<=n
 n60:n<=60
 rng:∀ t∈ts,0<=t.1/\t.1<t.2/\t.2<n
 srt:ts.Pairwise Lex
 len:ts.length<=200
 conn:∀ S:Int->Prop,(∀ t∈ts,S t.1↔S t.2)->∀ u v,0<=u->u<n->0<=v->v<n->S u->S v
structure M9 (H:Hp)(ps:List (Addr×List Int))(ts:⋯):Prop where
 to:∀ x∈ps,H x.1=some (.tup (x.2.map V.int))
 eq:ps.map (·.2)=ts.map tl
def a2q (H:Hp)(q:Addr)(ts:⋯):Prop:=∃ ps:List (Addr×List Int),H q=some (.tup (ps.map λx=>V.ref x.1))/\M9 H ps ts
def S2 (H:Hp)(w:Addr)(n:Int)(ts:⋯):Prop:=∃ q,H w=some (.tup [.int n,.ref q])/\a2q H q ts
theorem M9.tp {H H':Hp}{ps:List (Addr×List Int)}{ts:⋯}(h:M9 H ps ts)(t:Tp H H'):M9 H' ps ts:=⟨λx hx=>t _ _ (h.to x hx),h.eq⟩
theorem a2q.tp {H H':Hp}{q:Addr}{ts:⋯}(h:a2q H q ts)(t:Tp H H'):a2q H' q ts:=by
 obtain⟨ps,e,p⟩:=h;exact⟨ps,t _ _ e,p.tp t⟩
theorem S2.tp {H H':Hp}{w:Addr}{n:Int}{ts:⋯}(h:S2 H w n ts)(t:Tp H H'):S2 H' w n ts:=by
 obtain⟨q,e,p⟩:=h;exact⟨q,t _ _ e,p.tp t⟩
theorem M9.get {H:Hp}{ps:List (Addr×List Int)}{ts:⋯}(h:M9 H ps ts){i:Nat}{v:V}(e:(ps.map λx=>V.ref x.1)[i]?=some v) :
  ∃ a t,v=.ref a/\ts[i]?=some t/\H a=some (.tup [.int t.1,.int t.2]):=by
 rw[aH] at e;cases hx:ps[i]? with
 | none=>rw[hx] at e;cases e
 | some x =>
  rw[hx] at e;have e1:V.ref x.1=v:=aI e;have e2:(ps.map (·.2))[i]?=some x.2:=by rw[aH,hx];rfl
  rw[h.eq,aH] at e2;cases ht:ts[i]? with
  | none=>rw[ht] at e2;cases e2
  | some t =>
   rw[ht] at e2;have e3:tl t=x.2:=aI e2;refine⟨x.1,t,e1.symm,rfl,?_⟩;rw[h.to x (aE hx),<- e3];rfl
theorem M9.len {H:Hp}{ps:List (Addr×List Int)}{ts:⋯}(h:M9 H ps ts):ps.length=ts.length:=by
 have:=congrArg cQ h.eq;simpa using this
def un (l:List Int):Int×Int:=(l.getD 0 0,l.getD 1 0)
theorem b3a (t:Int×Int):un (tl t)=t:=rfl
theorem M9.of_perm {H:Hp}{ps:List (Addr×List Int)}{ts:⋯}(h:∀ x∈ps,H x.1=some (.tup (x.2.map V.int)))(pm:(ps.map (·.2)).Perm (ts.map tl)):∃ ts',ts'.Perm ts/\M9 H ps ts':=by
 refine⟨(ps.map (·.2)).map un,?_,h,?_⟩
 ·have:=pm.map un;rw[bU (l:=ts),show (un ∘ tl)=id from funext b3a,List.map_id] at this;exact this
 ·rw[bU];conv=>lhs;rw[<- List.map_id (ps.map (·.2))]
  refine eR λl hl=>?_
  obtain⟨t,_,rfl⟩:=bx.mp (pm.mem_iff.mp hl);rfl
theorem M9.perm {H:Hp}{ps ps':List (Addr×List Int)}{ts:⋯}(h:M9 H ps ts)(pm:ps'.Perm ps):∃ ts',ts'.Perm ts/\M9 H ps' ts' :=
 M9.of_perm (λx hx=>h.to x (pm.mem_iff.mp hx)) (by rw[<- h.eq];exact pm.map _)
theorem M9.srt {H:Hp}{ps:List (Addr×List Int)}{ts:⋯}(h:M9 H ps ts)(s:ps.Pairwise λx y=>HT.lexLt y.2 x.2=false):ts.Pairwise λx y=>HT.lexLt (tl y) (tl x)=false:=by
 have h1:(ps.map (·.2)).Pairwise λx y=>HT.lexLt y x=false:=cM.mpr s
 rw[h.eq] at h1;exact List.pairwise_map.mp h1
theorem M9.src {K:ae}{H:Hp}{p:Addr}{ps:List (Addr×List Int)}{ts:⋯}(h:M9 H ps ts)(e:H p=some (.lst (ps.map λx=>V.ref x.1))):b2U K H p ps:=by
 refine⟨.inl (SqL.of e),λx hx=>⟨h.to x hx,λe2=>?_⟩⟩;have:x.2∈ps.map (·.2):=cP hx;rw[h.eq] at this;obtain⟨t,_,e3⟩:=bx.mp this;rw[e2] at e3;cases e3
theorem M9.snoc {H:Hp}{ps:List (Addr×List Int)}{ts:⋯}(h:M9 H ps ts){q:Addr}{t:Int×Int}(e:H q=some (.tup [.int t.1,.int t.2])):M9 H (ps++[(q,tl t)]) (ts++[t]):=by
 refine⟨λx hx=>?_,by rw[aC,aC,h.eq];rfl⟩;rcases aj.mp hx with hx | hx
 ·exact h.to x hx
 ·cases ag.mp hx;exact e
def a7o:Sp:=λvs H Q _=>∃(d:Addr) (lo hi:Int),vs=[.ref d,.int lo,.int hi]/\Q3 H d/\3<=lo/\lo<=hi/\hi<=60 /\
 ∀(w:Addr) (n:Int) (ts:⋯) (H':Hp),Kp d H H'->Q3 H' d->lo<=n->n<=hi->S3 n ts->S2 H' w n ts->Q (.ref w) H'
def kvT (fs:⋯):List (List Key×V):=fs.map λt=>([.inl t.1,.inl t.2],V.bl true)
def a2p (fs:⋯)(t:Int×Int):⋯:=if t∈fs then fs else fs++[t]
theorem a1P {fs:⋯}{t x:Int×Int}:x∈a2p fs t↔x∈fs\/x=t:=by
 unfold a2p;split
 ·exact⟨.inl,λh=>h.elim id λe=>by subst e;assumption⟩
 ·simp
theorem a9T {fs:⋯}{t:Int×Int}(h:fs.Nodup):(a2p fs t).Nodup:=by
 unfold a2p;split
 ·exact h
 ·rename_i hn;rw[ft];exact⟨h,by simp,λa ha b hb e=>hn (by simp at hb;subst hb;subst e;exact ha)⟩
theorem a1S {fs:⋯}{t:Int×Int}:(a2p fs t).length<=fs.length+1:=by
 unfold a2p;split<;>simp
theorem a1g {fs:⋯}(h:fs.length<=1000):(kvT fs).length<sizeLine:=by unfold kvT;rw[aa];exact B8 ∅
theorem a3g (fs:⋯)(a b:Int):S4 (kvT fs) [bE a,bE b] (V.bl true)=kvT (a2p fs (a,b)):=by
 have key:∀ t:Int×Int,(([bE t.1,bE t.2]:List Key)=[bE a,bE b])↔t=(a,b):=λt=>by
  obtain⟨x,y⟩:=t;constructor
  ·intro e;injection e with e1 e2
   injection e2 with e2 _
   injection e1 with e1
   injection e2 with e2
   subst e1;subst e2;rfl
  ·intro e;cases e;rfl
 unfold S4 a2p;by_cases h:(a,b)∈fs
 ·have h1:((kvT fs).any λkv=>decide (kv.1=[bE a,bE b]))=true:=by
   rw[cS];exact⟨_,cP h,by simp⟩
  rw[if_pos h1,if_pos h];unfold kvT;rw[bU];refine eR λt ht=>?_
  show (if _ then _ else _)=_;split<;>rfl
 ·have h1:¬ ((kvT fs).any λkv=>decide (kv.1=[bE a,bE b]))=true:=by
   rw[cS];rintro⟨kv,hk,e⟩;obtain⟨t,ht,rfl⟩:=bx.mp hk;have:=(key t).mp (of_decide_eq_true e);subst this;exact h ht
  rw[if_neg h1,if_neg h];unfold kvT;rw[aC];rfl
theorem a6g (fs:⋯):(kvT fs).length=fs.length:=by unfold kvT;simp
theorem a8u (fs:⋯):(kvT fs).map (·.1)=(fs.map tl).map (λks=>ks.map (bE:Int->Key)):=by
 unfold kvT tl;rw[bU,bU];rfl
def nm (ks:List Int)(u:Int):Int:=ks.getD u.toNat 0
def ren (ks:List Int)(t:Int×Int):Int×Int:=(if nm ks t.2<nm ks t.1 then nm ks t.2 else nm ks t.1,if nm ks t.2>nm ks t.1 then nm ks t.2 else nm ks t.1)
section
variable {ks:List Int}{n:Int}
theorem a1K (hp:ks.Perm (B7 0 n.toNat)){u:Int}(h0:0<=u)(h1:u<n):ks[u.toNat]?=some (nm ks u):=by
 have hl:ks.length=n.toNat:=by rw[hp.length_eq,N8]
 have hu:u.toNat<ks.length:=∅
 unfold nm;rw[fc,aA hu];rfl
theorem a3s (hp:ks.Perm (B7 0 n.toNat)){u:Int}(h0:0<=u)(h1:u<n):0<=nm ks u/\nm ks u<n:=by
 have hm:=hp.mem_iff.mp (aE (a1K hp h0 h1));unfold B7 at hm;obtain⟨i,hi,e⟩:=bx.mp hm;have:=bQ.mp hi;omega
theorem a0a (hp:ks.Perm (B7 0 n.toNat)){u v:Int}(h0:0<=u)(h1:u<n)(k0:0<=v)(k1:v<n)(e:nm ks u=nm ks v):u=v:=by
 have hnd:ks.Nodup:=hp.nodup_iff.mpr (by
  unfold B7;refine cM.mpr (List.Pairwise.imp ?_ List.pairwise_lt_range)
  intro a b h e;omega)
 have a1:=a1K hp h0 h1;have a2:=a1K hp k0 k1;rw[<- e] at a2;have hl:ks.length=n.toNat:=by rw[hp.length_eq,N8]
 have:=(gz (l:=ks) (i:=u.toNat) (j:=v.toNat) ∅ hnd).mp (by rw[a1,a2]);omega
theorem a8i (hp:ks.Perm (B7 0 n.toNat)){v:Int}(k0:0<=v)(k1:v<n):∃ u,0<=u/\u<n/\nm ks u=v:=by
 have hm:v∈B7 0 n.toNat:=by
  unfold B7;exact List.mem_map.mpr ⟨v.toNat,bQ.mpr ∅,∅⟩
 obtain⟨i,hi,e⟩:=eT (hp.mem_iff.mpr hm);have hl:ks.length=n.toNat:=by rw[hp.length_eq,N8]
 refine⟨(i:Int),∅,∅,?_⟩;unfold nm;rw[fc,cN,aA hi];exact e
theorem a1q {t u:Int×Int}:HT.lexLt (tl t) (tl u)=true↔Lex t u:=by
 unfold tl Lex;rw[HT.lexLt_cons];split
 ·rename_i h;rw[HT.lexLt_cons];split
  ·rename_i h2;constructor
   ·intro e;cases e
   ·intro e;omega
  ·rename_i h2;rw[decide_eq_true_iff];constructor
   ·intro e;exact .inr ⟨h,e⟩
   ·intro e;rcases e with e | e
    ·omega
    ·exact e.2
 ·rename_i h;rw[decide_eq_true_iff];constructor
  ·intro e;exact .inl e
  ·intro e;rcases e with e | e
   ·exact e
   ·exact absurd e.1 h
theorem a9m {fs ts:⋯}(h3:3<=n)(h60:n<=60)(hnd:fs.Nodup)(hrng:∀ t∈fs,0<=t.1/\t.1<t.2/\t.2<n)(hlen:fs.length<=200)(hah:∀ k:Int,1<=k->k<n->∃ a,0<=a/\a<k/\(a,k)∈fs)
  (hp:ks.Perm (B7 0 n.toNat)) (hts:ts.Perm (fs.map (ren ks))) (hs:ts.Pairwise λx y=>HT.lexLt (tl y) (tl x)=false):S3 n ts:=by
 have rr:∀ t∈fs,0<=(ren ks t).1/\(ren ks t).1<(ren ks t).2/\(ren ks t).2<n:=λt ht=>by
  obtain⟨h0,h1,h2⟩:=hrng t ht;have a:=a3s hp h0 ∅;have b:=a3s hp (u:=t.2) ∅ h2;have c:nm ks t.1≠nm ks t.2:=λe=>by have:=a0a hp h0 ∅ ∅ h2 e;omega
  unfold ren;dsimp only;split<;>split<;>omega
 have inj:∀ t∈fs,∀ u∈fs,ren ks t=ren ks u->t=u:=λt ht u hu e=>by
  obtain⟨h0,h1,h2⟩:=hrng t ht;obtain⟨k0,k1,k2⟩:=hrng u hu;unfold ren at e;injection e with e1 e2
  have i1:nm ks t.1=nm ks u.1->t.1=u.1:=a0a hp h0 ∅ k0 ∅;have i2:nm ks t.2=nm ks u.2->t.2=u.2:=a0a hp ∅ h2 ∅ k2;have i3:nm ks t.1=nm ks u.2->t.1=u.2:=a0a hp h0 ∅ ∅ k2;have i4:nm ks t.2=nm ks u.1->t.2=u.1:=a0a hp ∅ h2 k0 ∅;have:t.1=u.1/\t.2=u.2:=by
   split at e1<;>split at e1<;>split at e2<;>split at e2<;>omega
  obtain⟨q1,q2⟩:=this;cases t;cases u;simp at q1 q2;rw[q1,q2]
 have nd2:(fs.map (ren ks)).Nodup:=by
  refine cM.mpr ?_;refine gi ?_ hnd;intro a b ha hb hab e;exact hab (inj a ha b hb e)
 have nd3:ts.Nodup:=hts.nodup_iff.mpr nd2;refine⟨h3,h60,λt ht=>?_,?_,by rw[hts.length_eq,aa];exact hlen,λS hS=>?_⟩
 ·obtain⟨u,hu,rfl⟩:=bx.mp (hts.mem_iff.mp ht);exact rr u hu
 ·refine (ii hs nd3).imp ?_;rintro a b ⟨h1,h2⟩;have h3:¬ Lex b a:=λe=>by rw[a1q.mpr e] at h1;cases h1
  have h4:a.1≠b.1\/a.2≠b.2:=by
   by_cases q:a.1=b.1
   ·refine .inr λe=>h2 ?_
    cases a;cases b;simp at q e;rw[q,e]
   ·exact .inl q
  unfold Lex at h3 ⊢;omega
 ·have hf:∀ t∈fs,S (nm ks t.1)↔S (nm ks t.2):=λt ht=>by
   have:=hS _ (hts.mem_iff.mpr (cP ht));unfold ren at this
   revert this
   dsimp only;obtain⟨h0,h1,h2⟩:=hrng t ht;have c:nm ks t.1≠nm ks t.2:=λe=>by have:=a0a hp h0 ∅ ∅ h2 e;omega
   split<;>split<;>intro q
   ·omega
   ·exact q.symm
   ·exact q
   ·omega
  have h0:∀ m:Nat,∀ k:Int,0<=k->k<n->k.toNat=m->(S (nm ks k)↔S (nm ks 0)):=by
   intro m;induction m using Nat.strongRecOn with
   | ind m ih =>
    intro k k0 k1 e;by_cases hk:k=0
    ·subst hk;exact Iff.rfl
    ·obtain⟨a,a0,a1,hm⟩:=hah k ∅ k1;exact (hf _ hm).symm.trans (ih a.toNat ∅ a a0 ∅ rfl)
  intro u v u0 u1 v0 v1 su;obtain⟨u',p0,p1,rfl⟩:=a8i hp u0 u1;obtain⟨v',q0,q1,rfl⟩:=a8i hp v0 v1;exact (h0 _ v' q0 q1 rfl).mpr ((h0 _ u' p0 p1 rfl).mp su)
end
end L2
end
section
namespace L2
open PySem
def nb (ts:⋯)(v:Int):List Int:=ts.filterMap λt=>if t.1=v then some t.2 else if t.2=v then some t.1 else none
def N3 (n:Int)(ts:⋯):List (List Int):=(dE n.toNat).map λ(v:Nat)=>nb ts (v:Int)
structure E4 (H:Hp)(p:Addr)(as:List Addr)(rows:List (List Int)):Prop where
 top:H p=some (.lst (as.map V.ref))
 len:as.length=rows.length
 nd:as.Nodup
 np:p∉as
 row:∀(i:Nat) a r,as[i]?=some a->rows[i]?=some r->H a=some (.lst (r.map V.int))
section
variable {H H':Hp}{p:Addr}{as:List Addr}{rows:List (List Int)}
theorem E4.mono (h:E4 H p as rows)(k:∀ a o,a=p\/a∈as->H a=some o->H' a=some o):E4 H' p as rows :=
 ⟨k _ _ (.inl rfl) h.top,h.len,h.nd,h.np,λi a r ha hr=>k _ _ (.inr (aE ha)) (h.row i a r ha hr)⟩
theorem E4.same (h:E4 H p as rows)(s:B2 H H'):E4 H' p as rows:=h.mono λa o _ e=>s a o e
theorem E4.kp {d:Addr}(h:E4 H p as rows)(k:Kp d H H')(hp:d≠p)(ha:d∉as):E4 H' p as rows :=
 h.mono λa o q e=>k a o (λe2=>by subst e2;exact q.elim hp ha) e
theorem E4.app (h:E4 H p as rows){i:Nat}{a:Addr}{r:List Int}(ha:as[i]?=some a)(hr:rows[i]?=some r)(x:Int):E4 (upd H a (.lst ((r++[x]).map V.int))) p as (rows.set i (r++[x])):=by
 have hpa:p≠a:=λe=>h.np (by rw[e];exact aE ha)
 refine⟨by rw[A8 hpa];exact h.top,by rw[dM];exact h.len,h.nd,h.np,λj b s hb hs=>?_⟩;by_cases e:j=i
 ·subst e;rw[ha] at hb;cases hb;rw[cm (au.mp hr).1] at hs;cases hs;exact A2
 ·have hba:b≠a:=λe2=>by
   subst e2;exact e ((gz (au.mp hb).1 h.nd).mp (by rw[hb,ha]))
  rw[cw (fb e)] at hs;rw[A8 hba];exact h.row j b s hb hs
theorem E4.snoc (h:E4 H p as rows){q:Addr}(hq:H q=none){r:List Int}:E4 (upd (upd H q (.lst (r.map V.int))) p (.lst ((as++[q]).map V.ref))) p (as++[q]) (rows++[r]):=by
 have hpq:p≠q:=B9 h.top hq;have hqa:q∉as:=λhm=>by
  obtain⟨i,hi,e⟩:=eT hm;have hi2:i<rows.length:=by have:=h.len;omega
  have:=h.row i q rows[i] (by rw[aA hi,e]) (aA hi2);rw[hq] at this;cases this
 refine⟨A2,by rw[aq,aq,h.len];rfl,?_,?_,?_⟩
 ·rw[ft];exact⟨h.nd,by simp,λa ha b hb e=>by simp at hb;subst hb;subst e;exact hqa ha⟩
 ·intro hm;rcases aj.mp hm with hm | hm
  ·exact h.np hm
  ·exact hpq (ag.mp hm)
 ·intro i a s ha hs;by_cases hi:i<as.length
  ·rw[bK hi] at ha;rw[bK (by rw[<- h.len];exact hi)] at hs;have ham:=aE ha;have h1:a≠p:=λe=>by subst e;exact h.np ham
   have h2:a≠q:=λe=>by subst e;exact hqa ham
   rw[A8 h1,A8 h2];exact h.row i a s ha hs
  ·rw[bA ∅] at ha;rw[bA (by rw[<- h.len];omega)] at hs;have e0:i-as.length=0:=by
    have:=(au.mp ha).1;simp at this;omega
   rw[e0] at ha;rw[<- h.len,e0] at hs;cases ha;cases hs;rw[A8 hpq.symm,A2]
theorem E4.nil (h:H p=some (.lst [])):E4 H p [] []:=⟨h,rfl,by simp,by simp,λi a r ha=>by cases ha⟩
theorem E4.get (h:E4 H p as rows){v:Int}(h0:0<=v){r:List Int}(hr:rows[v.toNat]?=some r):∃ a,as[v.toNat]?=some a/\atI (as.map V.ref) v=some (.ref a)/\H a=some (.lst (r.map V.int))/\a≠p:=by
 have hl:=(au.mp hr).1;have hl2:v.toNat<as.length:=by have:=h.len;omega
 have ha:as[v.toNat]?=some as[v.toNat]:=aA hl2;refine⟨_,ha,?_,h.row _ _ _ ha hr,λe=>h.np (by rw[<- e];exact aE ha)⟩;have:=U2 (xs:=as.map V.ref) (j:=v.toNat) (v:=V.ref as[v.toNat]) (by rw[aH,ha];rfl);rw[aV h0] at this;exact this
end
theorem Q6 {n:Int}{ts:⋯}{v:Int}(h0:0<=v)(h1:v<n):(N3 n ts)[v.toNat]?=some (nb ts v):=by
 unfold N3;rw[aH,jh ∅];show some (nb ts ((v.toNat:Nat):Int))=_;rw[aV h0]
theorem P6 (n:Int)(ts:⋯):(N3 n ts).length=n.toNat:=by unfold N3;simp
theorem a9V (ts:⋯)(t:Int×Int)(v:Int):nb (ts++[t]) v=nb ts v++(if t.1=v then [t.2] else if t.2=v then [t.1] else []):=by
 unfold nb;rw[List.filterMap_append];congr 1;by_cases h1:t.1=v
 ·simp[h1]
 ·by_cases h2:t.2=v
  ·simp[h1,h2]
  ·simp[h1,h2]
theorem a4n {n:Int}{ts:⋯}{t:Int×Int}(h0:0<=t.1)(h1:t.1<t.2)(h2:t.2<n) :
  N3 n (ts++[t])=((N3 n ts).set t.1.toNat (nb ts t.1++[t.2])).set t.2.toNat (nb ts t.2++[t.1]):=by
 refine dj λi=>?_
 by_cases hi:i<n.toNat
 ·have hl:∀ us:⋯,(N3 n us)[i]?=some (nb us (i:Int)):=λus=>by
   have:=Q6 (n:=n) (ts:=us) (v:=(i:Int)) ∅ ∅;simpa using this
  rw[hl,a9V];by_cases e2:i=t.2.toNat
  ·subst e2;rw[cm (by rw[dM,P6];exact hi)];rw[aV ∅,if_neg ∅,if_pos rfl]
  ·rw[cw (fb e2)];by_cases e1:i=t.1.toNat
   ·subst e1;rw[cm (by rw[P6];exact hi)];rw[aV h0,if_pos rfl]
   ·rw[cw (fb e1),hl,if_neg ∅,if_neg ∅,ck]
 ·rw[cn (by rw[P6];omega),cn (by rw[dM,dM,P6];omega)]
theorem a1N {ts:⋯}{v x:Int}:x∈nb ts v↔(v,x)∈ts\/((x,v)∈ts)/\(x≠v\/(v,x)∈ts):=by
 unfold nb;rw[List.mem_filterMap];constructor
 ·rintro⟨t,ht,e⟩;obtain⟨a,b⟩:=t;dsimp only at e;split at e
  ·rename_i h;cases e;subst h;exact .inl ht
  ·rename_i h;split at e
   ·rename_i h2;cases e;subst h2;exact .inr ⟨ht,.inl h⟩
   ·cases e
 ·rintro (h | ⟨h,h'⟩)
  ·exact⟨_,h,by simp⟩
  ·rcases h' with h' | h'
   ·exact⟨_,h,by simp[h']⟩
   ·exact⟨_,h',by simp⟩
def P5 (n:Int)(ts:⋯):Prop:=∀ t∈ts,0<=t.1/\t.1<t.2/\t.2<n
theorem a5j {n:Int}{ts:⋯}(h:P5 n ts){v x:Int}:x∈nb ts v↔v∈nb ts x:=by
 rw[a1N,a1N];constructor
 ·rintro (q | ⟨q,q'⟩)
  ·exact .inr ⟨q,.inl (by have:=h _ q;dsimp only at this;omega)⟩
  ·exact .inl q
 ·rintro (q | ⟨q,q'⟩)
  ·exact .inr ⟨q,.inl (by have:=h _ q;dsimp only at this;omega)⟩
  ·exact .inl q
theorem a8j {n:Int}{ts:⋯}(h:P5 n ts){v x:Int}(hx:x∈nb ts v):0<=x/\x<n/\0<=v/\v<n/\x≠v:=by
 rcases a1N.mp hx with q | ⟨q,_⟩
 ·have:=h _ q;dsimp only at this;omega
 ·have:=h _ q;dsimp only at this;omega
theorem b0X {n:Int}{ts:⋯}(h:P5 n ts)(hs:ts.Pairwise Lex)(v:Int):(nb ts v).Pairwise (·<·):=by
 unfold nb;rw[List.pairwise_filterMap];refine gi ?_ hs;intro a b ha hb hab x hx y hy;have h1:=h a ha;have h2:=h b hb;unfold Lex at hab;have cx:(a.1=v/\a.2=x)\/(a.2=v/\a.1=x):=by
  split at hx
  ·rename_i q;cases hx;exact .inl ⟨q,rfl⟩
  ·split at hx
   ·rename_i q;cases hx;exact .inr ⟨q,rfl⟩
   ·cases hx
 have cy:(b.1=v/\b.2=y)\/(b.2=v/\b.1=y):=by
  split at hy
  ·rename_i q;cases hy;exact .inl ⟨q,rfl⟩
  ·split at hy
   ·rename_i q;cases hy;exact .inr ⟨q,rfl⟩
   ·cases hy
 omega
theorem a5k {ts:⋯}(v:Int):(nb ts v).length<=ts.length:=by unfold nb;exact List.length_filterMap_le _ _
theorem a0X {l l':List Int}(p:l'.Perm l)(s:l'.Pairwise (·<=·))(h:l.Pairwise (·<·)):l'=l :=
 gM (le:=(·<=·)) (λ_ _ _ _ a b=>Int.le_antisymm a b) s (h.imp λa=>Int.le_of_lt a) p
theorem a1D {l l':List Int}(h:l.Pairwise (·<·))(h':l'.Pairwise (·<·))(e:∀ x,x∈l↔x∈l'):l=l':=by
 refine gM (le:=(·<·)) (λa b _ _ x y=>∅) h h' ?_;refine (List.perm_ext_iff_of_nodup (h.imp λx e=>∅) (h'.imp λx e=>∅)).mpr e
structure a5C (H Hc:Hp)(p:Addr)(as:List Addr)(rows:List (List Int)):Prop where
 same:B2 H Hc
 np:H p=none
 na:∀ a∈as,H a=none
 rows:E4 Hc p as rows
theorem Z7 (n:Int):N3 n []=List.replicate n.toNat []:=by
 unfold N3 nb;refine dj λi=>?_
 by_cases h:i<n.toNat
 ·rw[aH,jh h,iy,if_pos h];rfl
 ·rw[cn (by simp;omega),cn (by simp;omega)]
theorem a5C.step {H Hc:Hp}{p:Addr}{as:List Addr}{n:Int}{us:⋯}{t:Int×Int}(h:a5C H Hc p as (N3 n us))(h0:0<=t.1)(h1:t.1<t.2)(h2:t.2<n) :
  ∃ a1 a2,atI (as.map V.ref) t.1=some (.ref a1)/\Hc a1=some (.lst ((nb us t.1).map V.int))/\(upd Hc a1 (.lst ((nb us t.1).map V.int++[V.int t.2]))) p=some (.lst (as.map V.ref))/\atI (as.map V.ref) t.2=some (.ref a2) /\
   (upd Hc a1 (.lst ((nb us t.1).map V.int++[V.int t.2]))) a2=some (.lst ((nb us t.2).map V.int)) /\
   a5C H (upd (upd Hc a1 (.lst ((nb us t.1).map V.int++[V.int t.2]))) a2 (.lst ((nb us t.2).map V.int++[V.int t.1]))) p as (N3 n (us++[t])):=by
 have g1:=Q6 (n:=n) (ts:=us) h0 (show t.1<n by omega);have g2:=Q6 (n:=n) (ts:=us) (show 0<=t.2 by omega) h2;obtain⟨a1,e1,r1,c1,p1⟩:=h.rows.get h0 g1;have R1:=h.rows.app e1 g1 t.2;have g2':((N3 n us).set t.1.toNat (nb us t.1++[t.2]))[t.2.toNat]?=some (nb us t.2):=by
  rw[cw ∅];exact g2
 obtain⟨a2,e2,r2,c2,p2⟩:=R1.get (show 0<=t.2 by omega) g2';have R2:=R1.app e2 g2' t.1;rw[<- a4n h0 h1 h2] at R2;rw[aC] at R1 R2 c2;rw[aC] at R2;refine⟨a1,a2,r1,c1,R1.top,r2,c2,?_,h.np,h.na,R2⟩;exact (h.same.upd (h.na _ (aE e1))).upd (h.na _ (aE e2))
def a0M (H:Hp)(p:Addr)(i:Nat)(τ:St)(Hc:Hp):Prop:=∃(c:Option V) (as:List Addr),τ=[c]/\a5C H Hc p as (List.replicate i [])
theorem a2q.get {H:Hp}{q:Addr}{ts:⋯}(h:a2q H q ts):∃ xs,H q=some (.tup xs)/\xs.length=ts.length/\∀(i:Nat) v,xs[i]?=some v->∃ a t,v=.ref a/\ts[i]?=some t/\H a=some (.tup [.int t.1,.int t.2]):=by
 obtain⟨ps,e,hp⟩:=h;exact⟨_,e,by rw[aa];exact hp.len,λi v hv=>hp.get hv⟩
def a3W:Sp:=λvs H Q _=>∃(w:Addr) (n:Int) (ts:⋯),vs=[.ref w]/\S2 H w n ts/\0<=n/\n<=1000/\ts.length<=1000/\P5 n ts /\
 ∀(p:Addr) (as:List Addr) (H':Hp),B2 H H'->H p=none->(∀ a∈as,H a=none)->E4 H' p as (N3 n ts)->Q (.ref p) H'
def a9s:Sp:=λvs H Q _=>∃(w:Addr) (n:Int) (ts:⋯),vs=[.ref w]/\S2 H w n ts/\0<=n/\n<=1000/\ts.length<=1000/\P5 n ts/\ts.Pairwise Lex /\
 ∀(p:Addr) (as:List Addr) (H':Hp),B2 H H'->H p=none->(∀ a∈as,H a=none)->E4 H' p as (N3 n ts)->Q (.ref p) H'
end L2
end
section
namespace L2
open PySem
theorem b0o (x:Int)(us:List Int):inV (.int x) (us.map V.int)=decide (x∈us):=by
 unfold inV;induction us with
 | nil=>rfl
 | cons u r ih =>
  rw[ap,dO,ih];show (decide (u=x) || _)=_;by_cases h:u=x
  ·subst h;simp
  ·have h':¬ x=u:=λe=>h e.symm
   simp[h,h']
theorem a6K (us:List Int):(us.map V.int).all a0x=true:=by
 rw[bI];intro v hv;obtain⟨u,_,rfl⟩:=bx.mp hv;rfl
section
variable {K:ae}{H:Hp}{p:Addr}{us:List Int}{x:Int}{Q:VK}
theorem b2A (h:SqL K H p (us.map V.int)\/SqT K H p (us.map V.int))(q:Q (.bl (decide (x∈us))) H):rIn K false (.int x) (.ref p) H Q :=
 ⟨p,_,rfl,h,rfl,a6K us,by rw[b0o];exact q⟩
end
def kvI (us:List Int):List (Key×V):=us.map λx=>(bE x,V.bl true)
def a0P (us:List Int)(x:Int):List Int:=if x∈us then us else us++[x]
theorem a8m {us:List Int}{x y:Int}:y∈a0P us x↔y∈us\/y=x:=by
 unfold a0P;split
 ·exact⟨.inl,λh=>h.elim id λe=>by subst e;assumption⟩
 ·simp
theorem a9U {us:List Int}{x:Int}(h:us.Nodup):(a0P us x).Nodup:=by
 unfold a0P;split
 ·exact h
 ·rename_i hn;rw[ft];exact⟨h,by simp,λa ha b hb e=>hn (by simp at hb;subst hb;subst e;exact ha)⟩
theorem a8p {us:List Int}{x:Int}:(a0P us x).length<=us.length+1:=by
 unfold a0P;split<;>simp
theorem a6h (us:List Int):(kvI us).length=us.length:=by unfold kvI;simp
theorem a1t {a b:Int}:(bE a:Key)=bE b↔a=b:=⟨λe=>by injection e,λe=>by rw[e]⟩
theorem a3h (us:List Int)(x:Int):S4 (kvI us) (bE x) (V.bl true)=kvI (a0P us x):=by
 unfold S4 a0P;by_cases h:x∈us
 ·have h1:((kvI us).any λkv=>decide (kv.1=bE x))=true:=by
   rw[cS];exact⟨_,cP h,by simp⟩
  rw[if_pos h1,if_pos h];unfold kvI;rw[bU];refine eR λt ht=>?_
  show (if _ then _ else _)=_;split<;>rfl
 ·have h1:¬ ((kvI us).any λkv=>decide (kv.1=bE x))=true:=by
   rw[cS];rintro⟨kv,hk,e⟩;obtain⟨t,ht,rfl⟩:=bx.mp hk;have:=a1t.mp (of_decide_eq_true e);subst this;exact h ht
  rw[if_neg h1,if_neg h];unfold kvI;rw[aC];rfl
theorem a0e (us:List Int)(x:Int):(R7 (kvI us) (bE x)).isSome=decide (x∈us):=by
 induction us with
 | nil=>rfl
 | cons u r ih =>
  unfold kvI at ih ⊢;rw[ap];by_cases h:u=x
  ·rw[P0 (a1t.mpr h)];subst h;simp
  ·rw[P1 (λe=>h (a1t.mp e)),ih];have h':¬ x=u:=λe=>h e.symm
   simp[h']
theorem a4G (us:List Int):(kvI us).map (·.1)=us.map (bE:Int->Key):=by
 unfold kvI;rw[bU];rfl
theorem a8P (us:List Int)(x:Int):a1X (kvI us) (bE x)=kvI (us.filter λy=>decide (y≠x)):=by
 unfold a1X kvI;rw[List.filter_map];congr 1;refine List.filter_congr λy _=>?_
 show decide (_≠_)=_;by_cases h:y=x
 ·subst h;simp
 ·have:¬ (bE y:Key)=bE x:=λe=>h (a1t.mp e)
  simp[h,this]
theorem a0K {us:List Int}(h:us.length<=100000):(kvI us).length<sizeLine:=by rw[a6h];exact B8 ∅
theorem a1L:∀ {us l:List Int},us.Nodup->us ⊆ l->us.length<=l.length
 | [],_,_,_=>bi _
 | x::r,l,hn,hs=>by
  have hx:x∈l:=hs (aR ..);have hn':=eQ.mp hn;have:=a1L (us:=r) (l:=l.erase x) hn'.2 (λy hy=>(List.mem_erase_of_ne (λe=>by subst e;exact hn'.1 hy)).mpr (hs (aL _ hy)));rw[List.length_erase_of_mem hx] at this;have:=List.length_pos_of_mem hx;rw[aD];omega
theorem a1M {us:List Int}{n:Int}(hnd:us.Nodup)(h:∀ x∈us,0<=x/\x<n):us.length<=n.toNat:=by
 have hs:us ⊆ B7 0 n.toNat:=λx hx=>by
  obtain⟨h0,h1⟩:=h x hx;unfold B7;exact List.mem_map.mpr ⟨x.toNat,bQ.mpr ∅,∅⟩
 have:=a1L hnd hs;rw[N8] at this;exact this
theorem a1E (n:Nat):(B7 0 n).Pairwise (·<·):=by
 unfold B7;refine cM.mpr (List.pairwise_lt_range.imp ?_);intro a b h;omega
theorem M4 {n:Nat}{x:Int}:x∈B7 0 n↔0<=x/\x<n:=by
 unfold B7;rw[List.mem_map];constructor
 ·rintro⟨i,hi,rfl⟩;have:=bQ.mp hi;omega
 ·rintro⟨h0,h1⟩;exact⟨x.toNat,bQ.mpr ∅,∅⟩
theorem Y2 {l:List Int}(h:l.Pairwise (·<·)):l.Nodup:=h.imp λx e=>∅
theorem Z1 {l l':List Int}(p:l'.Perm l)(s:l'.Pairwise (·<=·))(h:l.Nodup):l'.Pairwise (·<·):=by
 refine (ii s (p.nodup_iff.mpr h)).imp ?_;rintro a b ⟨h1,h2⟩;omega
end L2
end
section
namespace L2
open PySem PySem.Spec PyProof.Rows
structure Bt2 (mg:Str->Option Value):Prop where
 isinstance:mg "isinstance"=none
 bool:mg "bool"=none
 all:mg "all"=none
 set:mg "set"=none
 enumerate:mg "enumerate"=none
 zip:mg "zip"=none
end L2
end
section
namespace L2
open PySem
inductive Rch (ts:⋯)(A:Int->Prop)(u:Int):Int->Prop
 | base:Rch ts A u u
 | step {y x:Int}:Rch ts A u y->x∈nb ts y->A x->Rch ts A u x
structure a2b (n:Int)(ts:⋯)(A:Int->Prop)(u:Int)(fs ws:List Int):Prop where
 nd:fs.Nodup
 rng:∀ x∈fs,0<=x/\x<n
 st:u∈fs
 sub:∀ x∈ws,x∈fs
 snd:∀ x∈fs,Rch ts A u x
 cl:∀ x∈fs,x∉ws->∀ y∈nb ts x,A y->y∈fs
structure X5 (n:Int)(ts:⋯)(A:Int->Prop)(u:Int)(fs ws:List Int)(v:Int)(j:Nat):Prop where
 nd:fs.Nodup
 rng:∀ x∈fs,0<=x/\x<n
 st:u∈fs
 sub:∀ x∈ws,x∈fs
 snd:∀ x∈fs,Rch ts A u x
 cl:∀ x∈fs,x∉ws->x≠v->∀ y∈nb ts x,A y->y∈fs
 vin:v∈fs
 part:∀ y∈(nb ts v).take j,A y->y∈fs
section
variable {n:Int}{ts:⋯}{A:Int->Prop}{u v:Int}{fs ws:List Int}{j:Nat}
theorem a2b.init (h0:0<=u)(h1:u<n):a2b n ts A u [u] [u] :=
 ⟨by simp,λx hx=>by simp at hx;subst hx;exact⟨h0,h1⟩,by simp,by simp,λx hx=>by simp at hx;subst hx;exact .base,λx hx hn=>by simp at hx hn;exact absurd hx hn⟩
theorem a2b.pop (h:a2b n ts A u fs (ws++[v])):X5 n ts A u fs ws v 0 :=
 ⟨h.nd,h.rng,h.st,λx hx=>h.sub x (by simp[hx]),h.snd,λx hx hn hv=>h.cl x hx (by simp[hn,hv]),h.sub v (by simp),λy hy=>by simp at hy⟩
theorem X5.add (h:X5 n ts A u fs ws v j)(hok:P5 n ts){y:Int}(hy:(nb ts v)[j]?=some y)(ha:A y)(hn:y∉fs):X5 n ts A u (fs++[y]) (ws++[y]) v (j+1):=by
 have hym:=aE hy;have hr:=a8j hok hym;refine⟨?_,λx hx=>?_,by simp[h.st],λx hx=>?_,λx hx=>?_,λx hx hw hv z hz az=>?_,by simp[h.vin],λz hz az=>?_⟩
 ·rw[ft];exact⟨h.nd,by simp,λa hq b hb e=>hn (by simp at hb;subst hb;subst e;exact hq)⟩
 ·rcases aj.mp hx with hx | hx
  ·exact h.rng x hx
  ·cases ag.mp hx;exact⟨hr.1,hr.2.1⟩
 ·rcases aj.mp hx with hx | hx
  ·exact aj.mpr (.inl (h.sub x hx))
  ·exact aj.mpr (.inr hx)
 ·rcases aj.mp hx with hx | hx
  ·exact h.snd x hx
  ·cases ag.mp hx;exact .step (h.snd v h.vin) hym ha
 ·rcases aj.mp hx with hx | hx
  ·exact aj.mpr (.inl (h.cl x hx (λq=>hw (aj.mpr (.inl q))) hv z hz az))
  ·exact absurd (aj.mpr (.inr hx)) hw
 ·rw[bZ,hy] at hz;rcases aj.mp hz with hz | hz
  ·exact aj.mpr (.inl (h.part z hz az))
  ·simp at hz;subst hz;simp
theorem X5.skip (h:X5 n ts A u fs ws v j){y:Int}(hy:(nb ts v)[j]?=some y)(ha:¬ A y\/y∈fs):X5 n ts A u fs ws v (j+1):=by
 refine⟨h.nd,h.rng,h.st,h.sub,h.snd,h.cl,h.vin,λz hz az=>?_⟩;rw[bZ,hy] at hz;rcases aj.mp hz with hz | hz
 ·exact h.part z hz az
 ·simp at hz;subst hz;exact ha.elim (λq=>absurd az q) id
theorem X5.done (h:X5 n ts A u fs ws v j)(hj:(nb ts v).length<=j):a2b n ts A u fs ws:=by
 refine⟨h.nd,h.rng,h.st,h.sub,h.snd,λx hx hw y hy ay=>?_⟩;by_cases e:x=v
 ·subst e;exact h.part y (by rw[bV hj];exact hy) ay
 ·exact h.cl x hx hw e y hy ay
theorem a2b.fin (h:a2b n ts A u fs [])(x:Int):x∈fs↔Rch ts A u x:=by
 refine⟨h.snd x,λr=>?_⟩;induction r with
 | base=>exact h.st
 | step _ hm ha ih=>exact h.cl _ ih (by simp) _ hm ha
theorem Rch.rng (hok:P5 n ts)(h0:0<=u)(h1:u<n){x:Int}(r:Rch ts A u x):0<=x/\x<n:=by
 induction r with
 | base=>exact⟨h0,h1⟩
 | step _ hm _ _=>have:=a8j hok hm;omega
theorem Rch.mem {x:Int}(r:Rch ts A u x)(h:A u):A x:=by
 cases r with
 | base=>exact h
 | step _ _ ha=>exact ha
theorem Rch.left {L:Int->Prop}(hok:P5 n ts)(hL:∀ x,L x->A x)(hc:∀ x y,A x->¬ L x->y∈nb ts x->A y->¬ L y)(hu:L u){x:Int}:Rch ts L u x↔Rch ts A u x:=by
 constructor
 ·intro r;induction r with
  | base=>exact .base
  | step _ hm ha ih=>exact .step ih hm (hL _ ha)
 ·intro r;have:Rch ts L u x/\L x:=by
   induction r with
   | base=>exact⟨.base,hu⟩
   | @step y x _ hm ha ih =>
    have:L x:=dg λhn=>hc x y ha hn ((a5j hok).mp hm) (hL _ ih.2) ih.2
    exact⟨.step ih.1 hm this,this⟩
  exact this.1
theorem b1c {H:Hp}{p:Addr}{u:Int}:upd (upd H p (.dK [])) p (.dK (a0I [] [(bE u,V.bl true)]))=upd H p (.dK (kvI [u])):=by
 rw[a2Y];rfl
theorem a9i {y:Int}(h:y∉fs):a0P fs y=fs++[y]:=by unfold a0P;rw[if_neg h]
end
structure X6 (H Hc:Hp)(me wl:Addr)(fs ws:List Int):Prop where
 same:B2 H Hc
 met:Hc me=some (.dK (kvI fs))
 wait:Hc wl=some (.lst (ws.map V.int))
def srM (n:Int)(me wl:Addr)(Hc:Hp):Nat:=match Hc me,Hc wl with
 | some (.dK kvs),some (.lst xs)=>2*(n.toNat-kvs.length)+xs.length
 | _,_=>0
section
variable {H Hc:Hp}{me wl:Addr}{fs ws:List Int}{n:Int}
theorem X6.mu (h:X6 H Hc me wl fs ws):srM n me wl Hc=2*(n.toNat-fs.length)+ws.length:=by
 unfold srM;rw[h.met,h.wait];show 2*(n.toNat-(kvI fs).length)+(ws.map V.int).length=_;rw[a6h,aa]
theorem X6.ne (h:X6 H Hc me wl fs ws):me≠wl:=λe=>by
 have:=h.met;rw[e,h.wait] at this;cases this
theorem a6f {ws:List Int}(h:ws≠[]):∃ ws' v,ws=ws'++[v]:=⟨ws.dropLast,ws.getLast h,(eM h).symm⟩
theorem X6.pop {v:Int}(h:X6 H Hc me wl fs (ws++[v]))(hw:H wl=none):((ws++[v]).map V.int)[((ws++[v]).map V.int).length-1]?=some (V.int v)/\X6 H (upd Hc wl (.lst ((ws++[v]).map V.int).dropLast)) me wl fs ws:=by
 refine⟨by simp,h.same.upd hw,by rw[A8 h.ne];exact h.met,?_⟩;rw[A2];simp
theorem X6.add {y:Int}(h:X6 H Hc me wl fs ws)(hm:H me=none)(hw:H wl=none)(hy:y∉fs):X6 H (upd (upd Hc me (.dK (kvI (a0P fs y)))) wl (.lst (ws.map V.int++[V.int y]))) me wl (fs++[y]) (ws++[y]):=by
 refine⟨(h.same.upd hm).upd hw,?_,?_⟩
 ·rw[A8 h.ne,A2,a9i hy]
 ·rw[A2,aC];rfl
theorem X6.mono {H0:Hp}(h:X6 H Hc me wl fs ws)(s:B2 Hc H0):X6 H H0 me wl fs ws:=⟨h.same.trans s,s _ _ h.met,s _ _ h.wait⟩
end
def a3T:Sp:=λvs H Q _=>∃(rp:Addr) (as:List Addr) (n:Int) (ts:⋯) (am:Addr) (ls:List Int) (u:Int),vs=[.ref rp,.ref am,.int u]/\E4 H rp as (N3 n ts)/\P5 n ts/\n<=1000/\ts.length<=1000/\H am=some (.dK (kvI ls))/\0<=u/\u<n /\
 ∀(p:Addr) (zs:List Int) (H':Hp),B2 H H'->H p=none->H' p=some (.tup (zs.map V.int))->zs.Pairwise (·<·)->(∀ x,x∈zs↔Rch ts (·∈ls) u x)->Q (.ref p) H'
def a3R (K:ae):Sp:=λvs H Q _=>∃(rp:Addr) (as:List Addr) (n:Int) (ts:⋯) (al:Addr) (ls:List Int) (u:Int),vs=[.ref rp,.int u,.ref al]/\E4 H rp as (N3 n ts)/\P5 n ts/\n<=1000/\ts.length<=1000/\(SqL K H al (ls.map V.int)\/SqT K H al (ls.map V.int))/\0<=u/\u<n /\
 ∀(p:Addr) (zs:List Int) (H':Hp),B2 H H'->H p=none->H' p=some (.lst (zs.map V.int))->zs.Pairwise (·<·)->(∀ x,x∈zs↔Rch ts (·∈ls) u x)->Q (.ref p) H'
end L2
end
section
namespace L2
open PySem
def tI (l:List Int):PyData:=.tuple (l.map cz)
theorem Dts.tups {K:ae}{H:Hp}:∀ {ps:List (Addr×List Int)},(∀ x∈ps,SqT K H x.1 (x.2.map V.int))->Dts K H (ps.map λx=>V.ref x.1) ((ps.map (·.2)).map tI)
 | [],_=>.nil
 | p::r,h=>.cons (.tupI (h p (aR ..))) (Dts.tups λx hx=>h x (aL _ hx))
def a9k (H:Hp)(p:Addr)(ls:List (List Int)):Prop:=∃ ps:List (Addr×List Int),H p=some (.tup (ps.map λx=>V.ref x.1))/\(∀ x∈ps,H x.1=some (.tup (x.2.map V.int)))/\ps.map (·.2)=ls
theorem a9k.tp {H H':Hp}{p:Addr}{ls:List (List Int)}(h:a9k H p ls)(t:Tp H H'):a9k H' p ls:=by
 obtain⟨ps,e,ha,hl⟩:=h;exact⟨ps,t _ _ e,λx hx=>t _ _ (ha x hx),hl⟩
def b2x (Hb:Hp)(am:Addr)(us:List Int)(i:Nat)(τ:St)(Hc:Hp):Prop:=∃(c:Option V) (fs:List Int),τ=[c]/\B2 Hb Hc/\Hc am=some (.dK (kvI fs))/\fs.length<=i/\fs.Nodup/\∀ x,x∈fs↔x∈us.take i
structure a4T (Hc:Hp)(lo:Addr)(ps:List (Addr×List Int)):Prop where
 top:Hc lo=some (.lst (ps.map λx=>V.ref x.1))
 row:∀ x∈ps,Hc x.1=some (.tup (x.2.map V.int))
theorem a4T.tp {H H':Hp}{lo:Addr}{ps:List (Addr×List Int)}(h:a4T H lo ps)(t:Tp H H')(e:H' lo=some (.lst (ps.map λx=>V.ref x.1))):a4T H' lo ps:=⟨e,λx hx=>t _ _ (h.row x hx)⟩
theorem a4T.snoc {H:Hp}{lo a:Addr}{ps:List (Addr×List Int)}{l:List Int}(h:a4T H lo ps)(ha:H a=some (.tup (l.map V.int))):a4T (upd H lo (.lst ((ps.map λx=>V.ref x.1)++[V.ref a]))) lo (ps++[(a,l)]):=by
 refine⟨by rw[A2,aC];rfl,λx hx=>?_⟩;rcases aj.mp hx with hx | hx
 ·exact Tp.lst h.top _ _ (h.row x hx)
 ·cases ag.mp hx;exact Tp.lst h.top _ _ ha
open Classical in
noncomputable def S9 (n:Int)(ts:⋯)(us:List Int)(u:Int):List Int:=(B7 0 n.toNat).filter λx=>decide (Rch ts (·∈us) u x)
section
variable {n:Int}{ts:⋯}{us:List Int}{u x:Int}
theorem a5Z:(S9 n ts us u).Pairwise (·<·):=(a1E _).filter _
open Classical in
theorem a0J (hok:P5 n ts)(h0:0<=u)(h1:u<n):x∈S9 n ts us u↔Rch ts (·∈us) u x:=by
 unfold S9;rw[List.mem_filter,M4,decide_eq_true_iff];constructor
 ·exact λh=>h.2
 ·intro h;have:=h.rng hok h0 h1;exact⟨⟨this.1,∅⟩,h⟩
def E3 (f:Int->List Int)(acc:List (List Int))(u:Int):List (List Int):=if (acc.any λl=>decide (u∈l))=true then acc else acc++[f u]
noncomputable def T2 (n:Int)(ts:⋯)(us vs:List Int):List (List Int):=vs.foldl (E3 (S9 n ts us)) []
def T1 (acc:List (List Int))(x:Int):Prop:=∃ l∈acc,x∈l
theorem a1u (acc:List (List Int))(x:Int):(acc.any λl=>decide (x∈l))=true↔T1 acc x:=by
 rw[cS];exact⟨λ⟨l,h,e⟩=>⟨l,h,of_decide_eq_true e⟩,λ⟨l,h,e⟩=>⟨l,h,decide_eq_true e⟩⟩
theorem a6z (vs:List Int)(v:Int):T2 n ts us (vs++[v])=E3 (S9 n ts us) (T2 n ts us vs) v:=by
 unfold T2;rw[List.foldl_append];rfl
theorem a4D (vs:List Int):∀ l∈T2 n ts us vs,∃ v∈vs,l=S9 n ts us v:=by
 have gen:∀(vs:List Int) (acc:List (List Int)) (P:List Int->Prop),(∀ l∈acc,P l)->(∀ v∈vs,P (S9 n ts us v))->∀ l∈vs.foldl (E3 (S9 n ts us)) acc,P l:=by
  intro vs;induction vs with
  | nil=>intro acc P h _;exact h
  | cons v r ih =>
   intro acc P h1 h2;refine ih _ P ?_ λw hw=>h2 w (aL _ hw)
   unfold E3;split
   ·exact h1
   ·intro l hl;rcases aj.mp hl with hl | hl
    ·exact h1 l hl
    ·cases ag.mp hl;exact h2 v (aR ..)
 exact gen vs [] (λl=>∃ v∈vs,l=S9 n ts us v) (λl hl=>by cases hl) λv hv=>⟨v,hv,rfl⟩
theorem a8n (vs:List Int):(T2 n ts us vs).length<=vs.length:=by
 have gen:∀(vs:List Int) (acc:List (List Int)),(vs.foldl (E3 (S9 n ts us)) acc).length<=acc.length+vs.length:=by
  intro vs;induction vs with
  | nil=>intro acc;exact ak _
  | cons v r ih =>
   intro acc;have h1:=ih (E3 (S9 n ts us) acc v);have h2:(E3 (S9 n ts us) acc v).length<=acc.length+1:=by unfold E3;split<;>simp
   rw[df,aD];omega
 have:=gen vs [];unfold T2;simpa using this
theorem a7z (hok:P5 n ts)(hus:∀ x∈us,0<=x/\x<n){vs ls:List Int}(hv:∀ v∈vs,v∈us)(hls:∀ x,x∈ls↔x∈us/\¬ T1 (T2 n ts us vs) x)(hu:u∈ls):Rch ts (·∈ls) u x↔Rch ts (·∈us) u x:=by
 refine Rch.left hok (λx hx=>((hls x).mp hx).1) (λx y ax nlx hy ay ly=>?_) hu;have hx:T1 (T2 n ts us vs) x:=dg λh=>nlx ((hls x).mpr ⟨ax,h⟩)
 obtain⟨l,hl,hxl⟩:=hx;obtain⟨v,hvm,rfl⟩:=a4D vs l hl;obtain⟨v0,v1⟩:=hus v (hv v hvm);refine ((hls y).mp ly).2 ⟨_,hl,(a0J hok v0 v1).mpr ?_⟩;exact .step ((a0J hok v0 v1).mp hxl) hy ay
theorem a0d (acc:List (List Int))(l:List Int):T1 (acc++[l]) x↔T1 acc x\/x∈l:=by
 unfold T1;constructor
 ·rintro⟨m,hm,hx⟩;rcases aj.mp hm with hm | hm
  ·exact .inl ⟨m,hm,hx⟩
  ·cases ag.mp hm;exact .inr hx
 ·rintro (⟨m,hm,hx⟩ | hx)
  ·exact⟨m,aj.mpr (.inl hm),hx⟩
  ·exact⟨l,by simp,hx⟩
end
end L2
end
section
namespace L2
open PySem PySem.Spec PyProof.Rows
section
variable {X:Cx}
theorem a1H {x:Str}{n:String}{pos:Pos}(hg:Gl X x)(hm:X.mg x=none)(hv:bootBuiltins x=some (.type n))(hn:x≠"__name__":=by decide)(hd:(x == ("__debug__":Str))=false:=by decide):PE X (.Name x pos) (tC (.ty n)) :=
 λ_ _ _ H _ I h=>a0c I hg hm hv ⟨.ty n,H,I,rfl,h⟩ hn hd
def b2P (K:ae):List V->Hp->VK->Prop:=λxs H Q=>∃(x:V) (n:String) (t:Value) (b:Bool),xs=[x,.ty n]/\V7 K H x t/\PySem.W.kitOne K t (.type n)=some b/\Q (.bl b) H
theorem a9c:N1 X (.builtin "isinstance") (b2P X.K):=by
 intro pins s σ H xs us Q I r h;obtain⟨x,n,t,b,rfl,ty,e,q⟩:=h;obtain⟨u,w',rfl,rx,rn⟩:=a3K r;cases (show w'=aG n from rn);exact a6D I rx ty e λtk=>⟨.bl b,H,I.tok _,rfl,q⟩
theorem a6E (K:ae)(h:X.K=K:=by rfl):N1 X (.builtin "isinstance") (b2P K):=by subst h;exact a9c
end
end L2
end
section
namespace L2
open PySem
theorem E4.put {H:Hp}{p x:Addr}{as:List Addr}{rows:List (List Int)}{o:HO}(h:E4 H p as rows)(h1:x≠p)(h2:x∉as):E4 (upd H x o) p as rows :=
 h.mono λa u q e=>by
  rw[A8 (λz=>by subst z;exact q.elim (λz=>h1 z) h2)];exact e
theorem ls2 {H:Hp}{p a b:Addr}{us vs:List Int}(h:H p=some (.tup [.ref a,.ref b]))(ha:H a=some (.tup (us.map V.int)))(hb:H b=some (.tup (vs.map V.int))):a9k H p [us,vs] :=
 ⟨[(a,us),(b,vs)],h,λx hx=>by
  simp only[aQ,cq,or_false] at hx;rcases hx with rfl | rfl
  ·exact ha
  ·exact hb,rfl⟩
end L2
end
section
namespace L2
open PySem
theorem a5m {n:Int}{us:⋯}(hok:P5 n us){v x:Int}:x∈nb us v↔(v,x)∈us\/(x,v)∈us:=by
 rw[a1N];constructor
 ·rintro (h | ⟨h,_⟩)
  ·exact .inl h
  ·exact .inr h
 ·rintro (h | h)
  ·exact .inl h
  ·exact .inr ⟨h,.inl (by have:=hok _ h;dsimp only at this;omega)⟩
end L2
end
section
namespace L2
open PySem PySem.Spec PyProof.Rows
inductive Pl (H:Hp):V->String->Prop where
 | non:Pl H .non "NoneType"
 | bl (x:Bool):Pl H (.bl x) "bool"
 | int (i:Int):Pl H (.int i) "int"
 | str (x:Str):Pl H (.str x) "str"
 | lst {a:Addr} {xs:List V} (e:H a=some (.lst xs)):Pl H (.ref a) "list"
 | tup {a:Addr} {xs:List V} (e:H a=some (.tup xs)):Pl H (.ref a) "tuple"
 | dK {a:Addr} {kvs:List (Key×V)} (e:H a=some (.dK kvs)):Pl H (.ref a) "dict"
 | dT {a:Addr} {kvs:List (List Key×V)} (e:H a=some (.dT kvs)):Pl H (.ref a) "dict"
theorem Pl.ty {K:ae}{H:Hp}{x:V}{T:String}(p:Pl H x T):V7 K H x (.type T):=by
 cases p with
 | non=>exact .non
 | bl x=>exact .bl x
 | int i=>exact .int i
 | str x=>exact .str x
 | lst e=>exact .lst e
 | tup e=>exact .tup e
 | dK e=>exact .dK e
 | dT e=>exact .dT e
def a5q (T c:String):Bool:=T == c || (T == "bool" && c == "int")
theorem Y4 {K:ae}{H:Hp}{x:V}{T:String}(p:Pl H x T){c:String}(hc:c="int"\/c="bool"\/c="tuple"):PySem.W.kitOne K (.type T) (.type c)=some (a5q T c):=by
 rcases hc with rfl | rfl | rfl<;>cases p<;>rfl
def isI:V->Bool
 | .int _=>true
 | _=>false
theorem b2n {H:Hp}{x:V}{T:String}(p:Pl H x T):(a5q T "int" && !a5q T "bool")=isI x:=by cases p<;>rfl
def a0y (x:V)(lo hi:Int):Bool:=match x with
 | .int i=>decide (lo<=i) && decide (i<=hi)
 | _=>false
theorem b0y {x:V}{lo hi:Int}(h:isI x=false):a0y x lo hi=false:=by cases x<;>first | rfl | cases h
theorem b0e {x:V}(h:isI x=true):∃ i,x=.int i:=by cases x<;>first | exact⟨_,rfl⟩ | cases h
def a5N:Sp:=λvs H Q _=>∃(x:V) (T:String),vs=[x]/\Pl H x T/\Q (.bl (isI x)) H
def a1z:Sp:=λvs H Q _=>∃(x:V) (T:String) (lo hi:Int),vs=[x,.int lo,.int hi]/\Pl H x T/\Q (.bl (a0y x lo hi)) H
def P9 (H:Hp):V->Option (V×V)
 | .ref a=>match H a with
  | some (.tup [x,y])=>some (x,y)
  | _=>none
 | _=>none
theorem a5B {H:Hp}{a:Addr}{xs:List V}(e:H a=some (.tup xs)):(P9 H (.ref a)).isSome=decide (xs.length=2):=by
 unfold P9;dsimp only;rw[e]
 match xs with
 | []=>rfl
 | [_]=>rfl
 | [_,_]=>rfl
 | _::_::_::_=>simp
theorem a6T {H:Hp}{x:V}{T:String}(p:Pl H x T)(h:a5q T "tuple"=false):P9 H x=none:=by
 cases p with
 | tup e=>cases h
 | lst e=>unfold P9;dsimp only;rw[e]
 | dK e=>unfold P9;dsimp only;rw[e]
 | dT e=>unfold P9;dsimp only;rw[e]
 | _=>rfl
theorem Y8 {H:Hp}{x y z:V}(h:P9 H x=some (y,z)):∃ a,x=.ref a/\H a=some (.tup [y,z]):=by
 unfold P9 at h;split at h
 ·rename_i a;split at h
  ·rename_i p q e;cases h;exact⟨a,rfl,e⟩
  ·cases h
 ·cases h
def a2g (H:Hp)(x:V)(n:Int):Bool:=match P9 H x with
 | some (y,z)=>a0y y 0 (n-1) && (match y with | .int i=>a0y z (i+1) (n-1) | _=>false)
 | none=>false
def a1y:Sp:=λvs H Q _=>∃(x:V) (T:String),vs=[x]/\Pl H x T/\Q (.bl (P9 H x).isSome) H
def a5M:Sp:=λvs H Q _=>∃(x:V) (T:String) (n:Int),vs=[x,.int n]/\Pl H x T/\(∀ y z,P9 H x=some (y,z)->(∃ T,Pl H y T)/\∃ T,Pl H z T)/\Q (.bl (a2g H x n)) H
end L2
end
section
namespace L2
open PySem PySem.Spec PyProof.Rows
def PlD (H:Hp):Nat->V->Prop
 | 0,y=>∃ T,Pl H y T
 | m+1,y=>(∃ T,Pl H y T)/\∀ a ys,y=.ref a->H a=some (.tup ys)->∀ z∈ys,PlD H m z
theorem Pl.mono {H H':Hp}{y:V}{T:String}(s:B2 H H')(p:Pl H y T):Pl H' y T:=by
 cases p with
 | non=>exact .non
 | bl x=>exact .bl x
 | int i=>exact .int i
 | str x=>exact .str x
 | lst e=>exact .lst (s _ _ e)
 | tup e=>exact .tup (s _ _ e)
 | dK e=>exact .dK (s _ _ e)
 | dT e=>exact .dT (s _ _ e)
theorem Pl.back {H H':Hp}{a:Addr}{ys:List V}{T:String}(s:B2 H H')(p:Pl H (.ref a) T)(e:H' a=some (.tup ys)):H a=some (.tup ys):=by
 cases p with
 | lst e2=>have:=s _ _ e2;rw[e] at this;cases this
 | tup e2=>have:=s _ _ e2;rw[e] at this;cases this;exact e2
 | dK e2=>have:=s _ _ e2;rw[e] at this;cases this
 | dT e2=>have:=s _ _ e2;rw[e] at this;cases this
theorem PlD.pl {H:Hp}{m:Nat}{y:V}(h:PlD H m y):∃ T,Pl H y T:=by
 cases m with
 | zero=>exact h
 | succ m=>exact h.1
theorem PlD.mono {H H':Hp}(s:B2 H H'):∀ {m:Nat} {y:V},PlD H m y->PlD H' m y
 | 0,y,⟨T,p⟩=>⟨T,p.mono s⟩
 | m+1,y,⟨⟨T,p⟩,h⟩=>⟨⟨T,p.mono s⟩,λa ys e ea z hz=>by
  subst e
  exact PlD.mono s (h a ys rfl (p.back s ea) z hz)⟩
end L2
end
section
namespace L2
open PySem PySem.Spec PyProof.Rows
section
variable {X:Cx}
structure Bt4 (mg:Str->Option Value):Prop where
 repr:mg "repr"=none
end
end L2
end
section
namespace L2
open PySem PySem.Spec PyProof.Rows
section
variable {k m c:Nat}{d:PyData}{ds:List PyData}
def a9n (n:Int)(ts:⋯):PyData:=.tuple [.int n,.tuple ((ts.map tl).map L2.tI)]
end
end L2
end
section
namespace L2
open PySem PySem.Spec PyProof.Rows
def kD:Key->PyData
 | .inl i=>.int i
 | .inr x=>.str x
def sD:V->PyData
 | .bl b=>.bool b
 | .int i=>.int i
 | .str x=>.str x
 | _=>.none
def isS:V->Bool
 | .non=>true
 | .bl _=>true
 | .int _=>true
 | .str _=>true
 | _=>false
mutual
def noL:PyData->Bool
 | .list _=>false
 | .tuple xs=>a5i xs
 | .none=>true
 | .bool _=>true
 | .int _=>true
 | .str _=>true
 | .dict _=>true
def a5i:List PyData->Bool
 | []=>true
 | x::r=>noL x && a5i r
end
mutual
def sOk:PyData->Bool
 | .list xs=>a3b xs
 | .tuple xs=>a3b xs
 | .none=>true
 | .bool _=>true
 | .int _=>true
 | .str x=>PyData.strOk x
 | .dict _=>true
def a3b:List PyData->Bool
 | []=>true
 | x::r=>sOk x && a3b r
end
mutual
inductive Dd (H:Hp):V->PyData->Prop
 | sc {x:V}:isS x=true->Dd H x (sD x)
 | tup {a:Addr} {xs:List V} {ds:List PyData}:H a=some (.tup xs)->Dds H xs ds->Dd H (.ref a) (.tuple ds)
 | lst {a:Addr} {xs:List V} {ds:List PyData}:H a=some (.lst xs)->Dds H xs ds->Dd H (.ref a) (.list ds)
 | dct {a:Addr} {kvs:List (Key×V)}:H a=some (.dK kvs)->(∀ kv∈kvs,isS kv.2=true)->Dd H (.ref a) (.dict (kvs.map λkv=>(kD kv.1,sD kv.2)))
 | dc1 {a:Addr} {i:Int} {x:V} {d:PyData}:H a=some (.dK [(.inl i,x)])->Dd H x d->noL d=true->Dd H (.ref a) (.dict [(.int i,d)])
inductive Dds (H:Hp):List V->List PyData->Prop
 | nil:Dds H [] []
 | cons {x:V} {d:PyData} {xs:List V} {ds:List PyData}:Dd H x d->Dds H xs ds->Dds H (x::xs) (d::ds)
end
mutual
theorem Dd.same {H H':Hp}(s:B2 H H'):∀ {x:V} {d:PyData},Dd H x d->Dd H' x d
 | _,_,.sc h=>.sc h
 | _,_,.tup e h=>.tup (s _ _ e) (Dds.same s h)
 | _,_,.lst e h=>.lst (s _ _ e) (Dds.same s h)
 | _,_,.dct e h=>.dct (s _ _ e) h
 | _,_,.dc1 e h n=>.dc1 (s _ _ e) (Dd.same s h) n
theorem Dds.same {H H':Hp}(s:B2 H H'):∀ {xs:List V} {ds:List PyData},Dds H xs ds->Dds H' xs ds
 | _,_,.nil=>.nil
 | _,_,.cons h t=>.cons (Dd.same s h) (Dds.same s t)
end
section
variable {X:Cx}{pins:List (Addr×Obj)}{σ:St}{H:Hp}{s:Shared}
theorem a7v {h:Heap}{x:V}{u:Value}(hs:isS x=true)(r:C3 x u):Reads h u (sD x) []:=by
 cases x with
 | non=>cases (show u=cA from r);exact .none
 | bl b=>cases (show u=aU b from r);exact .bool b
 | int i=>obtain⟨t,rfl⟩:=(show ∃ t,u=cu i t from r);exact .int i t
 | str x=>obtain⟨t,rfl⟩:=(show ∃ t,u=fL x t from r);exact .str x t
 | _=>cases hs
structure Nx (k m:Nat)(d:PyData):Prop where
 mix:noL d=true\/d.hasDict=false
 sh:d.showable=true
 dp:d.depth<=k
 lv:d.leavesShort 100=true
 bk:d.bulk<=m
theorem Nx.fits {k m:Nat}{d:PyData}(h:Nx k m d)(hm:m<=100000):d.shown.length<=sizeLine:=by
 have h1:=iD 100 (by decide) d h.lv;have h2:=h.bk;rw[sizeLine_eq];omega
end
end L2
end
section
namespace L2
open PySem PySem.Spec PyProof.Rows
structure Nc (c k m:Nat)(d:PyData):Prop where
 nl:c≠2->noL d=true
 nd:c≠1->d.hasDict=false
 sh:d.showable=true
 dp:d.depth<=k
 lv:d.leavesShort 100=true
 bk:d.bulk<=m
 so:sOk d=true
structure Ncs (c k m:Nat)(ds:List PyData):Prop where
 nl:c≠2->a5i ds=true
 nd:c≠1->PyData.hasDictAll ds=false
 sh:PyData.showableAll ds=true
 dp:PyData.depthAll ds<=k
 lv:PyData.leavesShortAll 100 ds=true
 bk:PyData.bulkAll ds<=m
 so:a3b ds=true
section
variable {c k m:Nat}{d:PyData}{ds:List PyData}{H:Hp}
theorem Nc.nx (h:Nc c k m d)(hk:k<=50)(hm:m<=100000):Nx 50 100000 d:=by
 refine⟨?_,h.sh,aM h.dp hk,h.lv,aM h.bk hm⟩;by_cases e:c=2
 ·exact .inr (h.nd ∅)
 ·exact .inl (h.nl e)
theorem Nc.mono {k' m':Nat}(h:Nc c k m d)(hk:k<=k')(hm:m<=m'):Nc c k' m' d:=⟨h.nl,h.nd,h.sh,aM h.dp hk,h.lv,aM h.bk hm,h.so⟩
theorem Nc.kind {c':Nat}(h:Nc 0 k m d):Nc c' k m d:=⟨λ_=>h.nl (by decide),λ_=>h.nd (by decide),h.sh,h.dp,h.lv,h.bk,h.so⟩
theorem Ncs.nil:Ncs c k m []:=⟨λ_=>by rw[a5i],λ_=>by rw[PyData.hasDictAll],by rw[PyData.showableAll],by rw[PyData.depthAll];exact bi _,by rw[PyData.leavesShortAll],by rw[PyData.bulkAll];exact bi _,by rw[a3b]⟩
theorem Ncs.cons {m':Nat}(h:Nc c k m d)(t:Ncs c k m' ds):Ncs c k (m+1+m') (d::ds):=by
 refine⟨λe=>?_,λe=>?_,?_,?_,?_,?_,by rw[a3b,h.so,t.so];rfl⟩
 ·rw[a5i,h.nl e,t.nl e];rfl
 ·rw[PyData.hasDictAll,h.nd e,t.nd e];rfl
 ·rw[PyData.showableAll,h.sh,t.sh];rfl
 ·rw[PyData.depthAll];exact iu.mpr ⟨h.dp,t.dp⟩
 ·rw[PyData.leavesShortAll,h.lv,t.lv];rfl
 ·rw[PyData.bulkAll];have:=h.bk;have:=t.bk;omega
theorem Ncs.all:∀ {ds:List PyData},(∀ d∈ds,Nc c k m d)->Ncs c k (ds.length*(m+1)) ds
 | [],_=>.nil
 | d::r,h=>by
  have:=Ncs.cons (h d (aR ..)) (Ncs.all (ds:=r) λx hx=>h x (aL _ hx));rw[aD,iX,Nat.add_comm];exact this
theorem Nc.tup (h:Ncs c k m ds):Nc c (k+1) m (.tuple ds):=by
 refine⟨λe=>?_,λe=>?_,?_,?_,?_,?_,by rw[sOk];exact h.so⟩
 ·rw[noL];exact h.nl e
 ·rw[PyData.hasDict];exact h.nd e
 ·rw[PyData.showable];exact h.sh
 ·rw[PyData.depth];have:=h.dp;omega
 ·rw[PyData.leavesShort];exact h.lv
 ·rw[PyData.bulk];exact h.bk
theorem Nc.lst (h:Ncs 0 k m ds):Nc 2 (k+1) m (.list ds):=by
 refine⟨λe=>absurd rfl e,λe=>?_,?_,?_,?_,?_,by rw[sOk];exact h.so⟩
 ·rw[PyData.hasDict];exact h.nd (by decide)
 ·rw[PyData.showable];exact h.sh
 ·rw[PyData.depth];have:=h.dp;omega
 ·rw[PyData.leavesShort];exact h.lv
 ·rw[PyData.bulk];exact h.bk
def Sm (i:Int):Prop:=i.natAbs.log2<1920/\(PyData.shown (.int i)).length<=100
theorem b3z {i:Int}(h:i.natAbs<10 ^ 12):Sm i:=by
 refine⟨?_,aM (PyData.shown_int_le h) (by decide)⟩;have h12:(10:Nat) ^ 12=1000000000000:=by decide
 have h40:(2:Nat) ^ 40=1099511627776:=by decide
 rcases Nat.eq_zero_or_pos i.natAbs with e | e
 ·rw[e];decide
 ·have:i.natAbs.log2<40:=(jv ∅).mpr ∅;omega
theorem Nc.int {i:Int}(h:Sm i):Nc c k m (.int i):=by
 refine⟨λ_=>by rw[noL],λ_=>by rw[PyData.hasDict],?_,?_,?_,?_,by rw[sOk]⟩
 ·rw[PyData.showable,decide_eq_true_iff];exact h.1
 ·rw[PyData.depth];exact bi _
 ·rw[PyData.leavesShort,decide_eq_true_iff];exact h.2
 ·rw[PyData.bulk];exact bi _
theorem Nc.bool {b:Bool}:Nc c k m (.bool b):=⟨λ_=>by rw[noL],λ_=>by rw[PyData.hasDict],by rw[PyData.showable],by rw[PyData.depth];exact bi _,by rw[PyData.leavesShort],by rw[PyData.bulk];exact bi _,by rw[sOk]⟩
theorem Nc.none:Nc c k m .none:=⟨λ_=>by rw[noL],λ_=>by rw[PyData.hasDict],by rw[PyData.showable],by rw[PyData.depth];exact bi _,by rw[PyData.leavesShort],by rw[PyData.bulk];exact bi _,by rw[sOk]⟩
theorem a8W {x:Str}(h1:(x.cps.toList.all λc=>decide (c<1114112))=true):(x.cps.toList.all λc=>decide (c<16 ^ 8))=true/\PyData.strOk x=true:=by
 refine⟨bI.mpr λc hc=>?_,?_⟩
 ·have:=of_decide_eq_true (bI.mp h1 c hc);exact decide_eq_true (dJ this (by decide))
 ·unfold PyData.strOk;rw[<- Array.all_toList];exact h1
theorem Nc.str {x:Str}(h1:(x.cps.toList.all λc=>decide (c<1114112))=true)(h2:x.cps.size<=m):Nc c k m (.str x):=⟨λ_=>by rw[noL],λ_=>by rw[PyData.hasDict],by rw[PyData.showable],by rw[PyData.depth];exact bi _,by rw[PyData.leavesShort];exact (a8W h1).1,by rw[PyData.bulk];exact h2,by rw[sOk];exact (a8W h1).2⟩
theorem Nc.dict0:Nc 1 (k+1) m (.dict []):=by
 refine⟨λ_=>by rw[noL],λe=>absurd rfl e,?_,?_,?_,?_,by rw[sOk]⟩
 ·rw[PyData.showable,PyData.showableKv]
 ·rw[PyData.depth,PyData.depthKv];exact ie _ _
 ·rw[PyData.leavesShort,PyData.leavesShortKv]
 ·rw[PyData.bulk,PyData.bulkKv];exact bi _
theorem Dd.pl {v:V}{d:PyData}(h:Dd H v d):∃ T,Pl H v T:=by
 cases h with
 | sc hs =>
  cases v with
  | non=>exact⟨_,.non⟩
  | bl b=>exact⟨_,.bl b⟩
  | int i=>exact⟨_,.int i⟩
  | str x=>exact⟨_,.str x⟩
  | _=>cases hs
 | tup e _=>exact⟨_,.tup e⟩
 | lst e _=>exact⟨_,.lst e⟩
 | dct e _=>exact⟨_,.dK e⟩
 | dc1 e _ _=>exact⟨_,.dK e⟩
mutual
theorem a8r:∀ {d:PyData},sOk d=true->d.hasDict=false->d.canLay0=true
 | .none,_,_=>by rw[PyData.canLay0]
 | .bool _,_,_=>by rw[PyData.canLay0]
 | .int _,_,_=>by rw[PyData.canLay0]
 | .str x,h,_=>by rw[PyData.canLay0];rw[sOk] at h;exact h
 | .tuple xs,h,n=>by rw[PyData.canLay0];rw[sOk] at h;rw[PyData.hasDict] at n;exact a3t h n
 | .list xs,h,n=>by rw[PyData.canLay0];rw[sOk] at h;rw[PyData.hasDict] at n;exact a3t h n
 | .dict _,_,n=>by rw[PyData.hasDict] at n;cases n
theorem a3t:∀ {ds:List PyData},a3b ds=true->PyData.hasDictAll ds=false->PyData.canLayAll0 ds=true
 | [],_,_=>by rw[PyData.canLayAll0]
 | d::r,h,n=>by
  rw[a3b,bu] at h;rw[PyData.hasDictAll,fU] at n;rw[PyData.canLayAll0,a8r h.1 n.1,a3t h.2 n.2];rfl
end
theorem Nc.shaped (h:Nc c k m d)(hk:k<=64)(hn:d.hasDict=false):SeqAt.shaped d=true:=by
 unfold SeqAt.shaped;rw[a8r h.so hn,decide_eq_true (aM h.dp hk)];rfl
end
end L2
end
section
namespace L2
open PySem
def b3Y (g:TG)(tc:TT)(te:TE)(p:Addr)(fr:St)(H1:Hp)(x:V)(c:Bool)(f:V)(N:Nat):Prop :=
 ∀(v:Option V) (ys:List V) (R:St->Hp->Prop),ys.length<=N->(c=true->∀ v',R (v'::fr) (upd (upd H1 p (.lst ys)) p (.lst (ys++[f]))))->(c=false->∀ v',R (v'::fr) (upd H1 p (.lst ys))) ->
  g x (v::fr) (upd H1 p (.lst ys)) fun τ2 H2=>tc τ2 H2 λb H3=>if b=true then te τ2 H3 λw H4=>∃ zs,H4 p=some (.lst zs)/\zs.length<sizeLine/\R τ2 (upd H4 p (.lst (zs++[w]))) else R τ2 H3
theorem a7c {α:Type}(c:α->Bool)(f:α->V)(l:List α):((l.filter c).map f).length<=l.length:=by rw[aa];exact iR _ _
theorem a6l {α:Type}(c:α->Bool)(f:α->V)(l:List α)(x:α):((l++[x]).filter c).map f=(l.filter c).map f++(if c x=true then [f x] else []):=by
 rw[List.filter_append,aC];congr 1;by_cases h:c x=true
 ·rw[List.filter_cons_of_pos h,if_pos h];rfl
 ·rw[List.filter_cons_of_neg h,if_neg h];rfl
theorem a8J {α:Type}(l:List α):l.filter (λ_=>true)=l:=ji.mpr λ_ _=>rfl
section
variable {K:ae}{a p:Addr}{g:TG}{tc:TT}{te:TE}{fr:St}{H1:Hp}{EE:Hp->Prop}
theorem a0C {α:Type}{l:List α}{i:Nat}{x:α}(h:l[i]?=some x):l.take (i+1)=l.take i++[x]:=by rw[bZ,h];rfl
theorem a8q {α:Type}{xs:List α}(V0:α->V)(c:α->Bool)(f:α->V)(hn:xs.length<=16000000)(hl:SqL K H1 a (xs.map V0))(hp:H1 p=none)(hs:∀ x∈xs,b3Y g tc te p fr H1 (V0 x) (c x) (f x) xs.length)
  (hd:EE (upd H1 p (.lst ((xs.filter c).map f)))):lcW g tc te p (Itl K a) (none::fr) (upd H1 p (.lst [])) EE:=by
 refine S7 (xs:=xs.map V0) (λi τ H=>(∃ v,τ=v::fr)/\H=upd H1 p (.lst (((xs.take i).filter c).map f))) ⟨⟨_,rfl⟩,by simp⟩ ?_ ?_ ?_
 ·rintro i τ H _ ⟨_,rfl⟩;exact ((B2.refl H1).upd hp).seq hl
 ·rintro i x τ H hx ⟨⟨v,rfl⟩,rfl⟩ _;rw[aH] at hx;cases h0:xs[i]? with
  | none=>rw[h0] at hx;cases hx
  | some y =>
  rw[h0] at hx;cases aI hx;have hi:=(au.mp h0).1;refine hs y (aE h0) v _ _ (aM (a7c c f _) (by rw[aT];omega)) (λh v'=>?_) λh v'=>?_
  ·refine⟨⟨_,rfl⟩,?_⟩;rw[a2Y,a0C h0,a6l,if_pos h]
  ·refine⟨⟨_,rfl⟩,?_⟩;rw[a0C h0,a6l,if_neg (by rw[h];simp),ck]
 ·rintro τ H ⟨_,rfl⟩;rw[aa,bH];exact hd
theorem b3c {fr:St}{H1:Hp}{p:Addr}{ys:List V}{w:V}{N:Nat}{R:St->Hp->Prop}{v:Option V}{b c:Bool}(e:b=c)(hl:ys.length<=N)(hN:N<=16000000)
  (h1:c=true->∀ v',R (v'::fr) (upd (upd H1 p (.lst ys)) p (.lst (ys++[w])))) (h2:c=false->∀ v',R (v'::fr) (upd H1 p (.lst ys))) :
  if b=true then ∃ zs,upd H1 p (.lst ys) p=some (.lst zs)/\zs.length<sizeLine/\R (v::fr) (upd (upd H1 p (.lst ys)) p (.lst (zs++[w]))) else R (v::fr) (upd H1 p (.lst ys)):=by
 subst e;by_cases hb:b=true
 ·rw[if_pos hb];exact⟨ys,A2,B8 ∅,h1 hb v⟩
 ·rw[if_neg hb];exact h2 (~~~hb) v
theorem a7b {fr:St}{H1:Hp}{p:Addr}{ys:List V}{w:V}{N:Nat}{R:St->Hp->Prop}{v:Option V}(hl:ys.length<=N)(hN:N<=16000000)(h1:true=true->∀ v',R (v'::fr) (upd (upd H1 p (.lst ys)) p (.lst (ys++[w])))) :
  ∃ zs,upd H1 p (.lst ys) p=some (.lst zs)/\zs.length<sizeLine/\R (v::fr) (upd (upd H1 p (.lst ys)) p (.lst (zs++[w]))):=⟨ys,A2,B8 ∅,h1 rfl v⟩
end
end L2
end
section
namespace L2
open PySem PySem.Spec PyProof.Rows
theorem E4.zip {H:Hp}{p:Addr}{as:List Addr}{rows:List (List Int)}(h:E4 H p as rows):as.map V.ref=(as.zip rows).map (λx=>V.ref x.1)/\∀ x∈as.zip rows,H x.1=some (.lst (x.2.map V.int)):=by
 constructor
 ·have:as=(as.zip rows).map (·.1):=by rw[gJ (by rw[h.len];exact ak _)]
  rw[show (as.zip rows).map (λx=>V.ref x.1)=((as.zip rows).map (·.1)).map V.ref by rw[bU];rfl,<- this]
 ·intro x hx;obtain⟨i,hi,e⟩:=eT hx;have h1:(as.zip rows)[i]?=some x:=by rw[aA hi,e]
  rw[fj] at h1;exact h.row i _ _ h1.1 h1.2
end L2
end
section
namespace L2
open PySem PySem.Spec PyProof.Rows
section
variable {X:Cx}
def a3d (K:ae):R2:=λx y H Q=>∃ a b xs ys,x=.ref a/\y=.ref b/\SqT K H a xs/\SqT K H b ys/\xs.length+ys.length<=sizeLine /\
 (xs=[]->Q (.ref b) H)/\(xs≠[]->ys=[]->Q (.ref a) H)/\(xs≠[]->ys≠[]->∀ p,H p=none->Q (.ref p) (upd H p (.tup (xs++ys))))
theorem a7S:OpR X (binaryOp .Add) (a3d X.K):=by
 intro pins s σ H x y v u Q I rx ry h;obtain⟨a,b,xs,ys,rfl,rfl,ha,hb,hz,q1,q2,q3⟩:=h;cases rx;cases ry;obtain⟨its,r1,p1,_⟩:=I.tuple ha;obtain⟨its2,r2,p2,_⟩:=I.tuple hb;by_cases hx:xs=[]
 ·have hi:its=[]:=r1.nil_iff.mpr hx;subst hi;obtain⟨⟨cls,dd,data,sl⟩,ho,hc,n,hd⟩:=id p1;obtain⟨⟨cls2,dd2,data2,sl2⟩,ho2,hc2,n2,hd2⟩:=id p2;simp only at hc hd hc2 hd2;subst hc hd hc2 hd2;exact jM ⟨_,ho,rfl⟩ ⟨_,ho2,rfl⟩ noFill_tuple_add jm fv fm (ff _ _)
   (tuple_addW0 _ _ _ _ _ _ _ _ _ _ (by simp)) ⟨ho,ho2,⟨.ref b,H,I,rfl,q1 hx⟩⟩
 ·refine HT.cat_tup p1 p2 (λz=>hx (r1.nil_iff.mp z)) (λz=>⟨.ref a,H,I,rfl,q2 hx (r2.nil_iff.mp z)⟩) (λz=>?_) (by rw[<- r1.length,<- r2.length];exact hz);refine⟨.ref s.heap.objs.size,_,I.laid (t':=s.toks) (o:=.tup (xs++ys)) (λb ob q=>ao _ q) (ak _) ?_,rfl,q3 hx (λw=>z (r2.nil_iff.mpr w)) _ (I.hok.fresh (ak _))⟩;exact⟨by rw[aq];exact hz,_,r1.append r2,IsTup.new _ _⟩
theorem b2M (K:ae)(h:X.K=K:=by rfl):OpR X (binaryOp .Add) (a3d K):=by subst h;exact a7S
end
end L2
end
section
namespace L2
open PySem PySem.Spec PyProof.Rows
section
variable {X:Cx}{A:Addr->Prop}{P:St->Hp->Prop}{c k m m' n:Nat}{e:Expr}{es:List Expr}{te:TE}{j:Option Str}{pos p2:Pos}
theorem a0t {i:Nat}{x:Str}{t:TA}{pos':Pos}(hN:X.N.Nodup)(hi:X.N[i]?=some x)(hx:Loc X.env.scope x)(he:PA X es t)(hf:X.fn x=true\/X.env.scope.names.lookup x=some .local) :
  PS X (.Assign [.Name x pos'] (.List es p2) pos) (a5b (b1s t) (P4 i)):=B6 hN hi hx (K6 he) rfl hf
theorem V1 {i:Nat}{x:Str}{a b:Expr}{o:Operator}{te:TE}{pos':Pos}(hN:X.N.Nodup)(hi:X.N[i]?=some x)(hx:Loc X.env.scope x)(he:PE X (.BinOp a o b p2) te)(hf:X.fn x=true\/X.env.scope.names.lookup x=some .local) :
  PS X (.Assign [.Name x pos'] (.BinOp a o b p2) pos) (a5b te (P4 i)):=B6 hN hi hx he rfl hf
end
structure Bt5 (mg:Str->Option Value):Prop where
 str:mg "str"=none
theorem a0l {i:Int}(h0:0<=i)(h1:i<1000):Sm i:=b3z (dJ (show i.natAbs<1000 by omega) (by decide))
def b0R (K:ae):R2:=λx y H Q=>a3d K x y H Q
theorem b3U {X:Cx}(K:ae)(h:X.K=K:=by rfl):OpR X (binaryOp .Add) (b0R K):=b2M K h
theorem a8Z {K:ae}{H:Hp}{a b:Addr}{xs ys:List V}{Q:VK}(ha:H a=some (.tup xs))(hb:H b=some (.tup ys))(hz:xs.length+ys.length<=10000)(q:∀ p H',B2 H H'->H' p=some (.tup (xs++ys))->Q (.ref p) H'):b0R K (.ref a) (.ref b) H Q:=by
 refine⟨a,b,xs,ys,rfl,rfl,SqT.of ha,SqT.of hb,dL (B8 ∅),λe=>?_,λ_ e=>?_,λ_ _ p np=>q p _ ((B2.refl H).upd np) A2⟩
 ·subst e;exact q b H (B2.refl H) hb
 ·subst e;exact q a H (B2.refl H) (by rw[ck];exact ha)
theorem b1f {xs:List V}{k:Int}(h0:0<=k)(h1:k<xs.length):∃ v∈xs,atI xs k=some v:=by
 obtain⟨j,rfl⟩:∃ j:Nat,k=j:=⟨_,(aV h0).symm⟩
 have h3:j<xs.length:=∅
 exact⟨xs[j],gK _,U2 (aA h3)⟩
end L2
end
section
namespace L2
open PySem
section
variable {n:Int}{ts us:⋯}
theorem S3.reach (hw:S3 n us){u x:Int}(u0:0<=u)(u1:u<n)(x0:0<=x)(x1:x<n):Rch us (·∈B7 0 n.toNat) u x:=by
 refine hw.conn (λy=>Rch us (·∈B7 0 n.toNat) u y) (λt ht=>?_) u x u0 u1 x0 x1 .base;obtain⟨h0,h1,h2⟩:=hw.rng t ht;have e:t.2∈nb us t.1:=a1N.mpr (.inl ht);exact⟨λh=>h.step e (M4.mpr ⟨∅,∅⟩),λh=>h.step ((a5j hw.rng).mp e) (M4.mpr ⟨∅,∅⟩)⟩
theorem S3.onelot (hw:S3 n us):T2 n us (B7 0 n.toNat) (B7 0 n.toNat)=[B7 0 n.toNat]:=by
 have h3:=hw.n3;have hpc:∀ u,0<=u->u<n->S9 n us (B7 0 n.toNat) u=B7 0 n.toNat:=λu u0 u1=>by
  refine a1D a5Z (a1E _) λx=>?_
  rw[a0J hw.rng u0 u1,M4];constructor
  ·intro h;have:=h.rng hw.rng u0 u1;omega
  ·intro h;exact hw.reach u0 u1 h.1 ∅
 have gen:∀ vs:List Int,(∀ v∈vs,0<=v/\v<n)->vs.foldl (E3 (S9 n us (B7 0 n.toNat))) [B7 0 n.toNat]=[B7 0 n.toNat]:=by
  intro vs;induction vs with
  | nil=>intro _;rfl
  | cons v r ih =>
   intro h;obtain⟨v0,v1⟩:=h v (aR ..);rw[df];have:E3 (S9 n us (B7 0 n.toNat)) [B7 0 n.toNat] v=[B7 0 n.toNat]:=by
    unfold E3;rw[if_pos ((a1u _ _).mpr ⟨_,ag.mpr rfl,M4.mpr ⟨v0,∅⟩⟩)]
   rw[this];exact ih λx hx=>h x (aL _ hx)
 obtain⟨m,hm⟩:∃ m,n.toNat=m+1:=⟨n.toNat-1,∅⟩
 have hcons:B7 0 n.toNat=0::(B7 0 n.toNat).tail:=by
  rw[hm];unfold B7;rw[List.range_succ_eq_map];rfl
 unfold T2;rw[show (B7 0 n.toNat).foldl (E3 (S9 n us (B7 0 n.toNat))) []=(0::(B7 0 n.toNat).tail).foldl (E3 (S9 n us (B7 0 n.toNat))) [] by rw[<- hcons],df];have h0:E3 (S9 n us (B7 0 n.toNat)) [] 0=[B7 0 n.toNat]:=by
  unfold E3;rw[if_neg (by simp),hpc 0 (by decide) ∅];rfl
 rw[h0];refine gen _ λv hv=>?_
 have:v∈B7 0 n.toNat:=List.mem_of_mem_tail hv;have:=M4.mp this;omega
end
end L2
end
section
namespace L2
open PySem
def dV:V->PyData
 | .int i=>.int i
 | _=>.none
end L2
end
section
namespace L2
open PySem PySem.Spec PyProof.Rows
def b4Q (g:TG)(tb:TS)(D:T9)(σ:St)(J:It)(H1:Hp):Prop:=b1t (λ_ H R=>R J H) g tb D σ H1
theorem Y0 {wi:TI}{g:TG}{tb:TS}{D:T9}{σ:St}{H:Hp}:b1t wi g tb D σ H=wi σ H (λJ H1=>b4Q g tb D σ J H1):=rfl
end L2
end
section
namespace L2
open PySem
section
variable {n:Int}{ts:⋯}{A B:Int->Prop}{u v x:Int}
theorem Rch.tr (h:Rch ts A u v)(k:Rch ts A v x):Rch ts A u x:=by
 induction k with
 | base=>exact h
 | step _ hy ha ih=>exact .step ih hy ha
theorem Rch.sy (hok:P5 n ts)(h:Rch ts A u x)(ha:A u):Rch ts A x u:=by
 induction h with
 | base=>exact .base
 | @step y z k hz az ih =>
  have ay:A y:=k.mem ha;exact Rch.tr (.step .base ((a5j hok).mp hz) ay) ih
end
def Hng (ts:⋯)(us:List Int):Prop:=us≠[]/\∀ x∈us,∀ y∈us,Rch ts (·∈us) x y
theorem a5s {n:Int}{ts:⋯}{us:List Int}{u:Int}(hok:P5 n ts)(hu:u∈us)(h:∀ y∈us,Rch ts (·∈us) u y):Hng ts us :=
 ⟨λe=>(by rw[e] at hu;cases hu),λx hx y hy=>((h x hx).sy hok hu).tr (h y hy)⟩
theorem b2b {us l:List Int}(hnd:us.Nodup)(hs:us ⊆ l)(hl:l.length<=us.length)(hl2:l.Nodup):∀ x∈l,x∈us:=by
 intro x hx;refine dg λhn=>?_
 have h1:(x::us).Nodup:=List.nodup_cons.mpr ⟨hn,hnd⟩;have h2:(x::us) ⊆ l:=λy hy=>by
  rcases aQ.mp hy with rfl | hy
  ·exact hx
  ·exact hs hy
 have:=a1L h1 h2;rw[aD] at this;omega
end L2
end
section
namespace L2
open PySem
structure TB where
 vs:List Int
 ws:List Int
 par:Int->Int
end L2
end
section
namespace L2
open PySem
section
variable {n:Int}{ts T T' T'':⋯}{put taken:Int×Int}
theorem a4L (hok:P5 n T)(h:Hng T (B7 0 n.toNat)):∀ S:Int->Prop,(∀ t∈T,S t.1↔S t.2)->∀ u v,0<=u->u<n->0<=v->v<n->S u->S v:=by
 intro S hS u v u0 u1 v0 v1 su;have r:=h.2 u (M4.mpr ⟨u0,∅⟩) v (M4.mpr ⟨v0,∅⟩);induction r with
 | base=>exact su
 | @step y x r hx _ ih =>
  have hy:=r.rng hok u0 u1;have sy:=ih hy.1 hy.2;rcases (a5m hok).mp hx with h | h
  ·exact (hS _ h).mp sy
  ·exact (hS _ h).mpr sy
end
end L2
end
section
namespace L2
open PySem
section
variable {n:Int}{ts:⋯}{us bs:List Int}
theorem a8o (hok:P5 n ts)(hr:∀ x∈us,0<=x/\x<n)(vs:List Int)(hv:∀ v∈vs,v∈us):∀ v∈vs,T1 (T2 n ts us vs) v:=by
 have gen:∀(vs:List Int) (acc:List (List Int)),(∀ v∈vs,v∈us)->(∀ x,T1 acc x->T1 (vs.foldl (E3 (S9 n ts us)) acc) x)/\∀ v∈vs,T1 (vs.foldl (E3 (S9 n ts us)) acc) v:=by
  intro vs;induction vs with
  | nil=>intro acc _;exact⟨λx h=>h,λv h=>by cases h⟩
  | cons v r ih =>
   intro acc hv;obtain⟨h1,h2⟩:=ih (E3 (S9 n ts us) acc v) λw hw=>hv w (aL _ hw)
   have hvu:=hv v (aR ..);have key:(∀ x,T1 acc x->T1 (E3 (S9 n ts us) acc v) x)/\T1 (E3 (S9 n ts us) acc v) v:=by
    unfold E3;by_cases hc:(acc.any λl=>decide (v∈l))=true
    ·rw[if_pos hc];exact⟨λx h=>h,(a1u _ _).mp hc⟩
    ·rw[if_neg hc];exact⟨λx h=>(a0d _ _).mpr (.inl h),(a0d _ _).mpr (.inr ((a0J hok (hr v hvu).1 (hr v hvu).2).mpr .base))⟩
   refine⟨λx h=>h1 x (key.1 x h),λw hw=>?_⟩;rcases aQ.mp hw with rfl | hw
   ·exact h1 _ key.2
   ·exact h2 w hw
 exact (gen vs [] hv).2
end
end L2
end
section
namespace L2
open PySem PySem.Spec PyProof.Rows
section
variable {H:Hp}{n:Int}
theorem a3O {x:V}:a2g H x n=true↔∃ a t,x=.ref a/\H a=some (.tup [.int (Prod.fst t),.int (Prod.snd t)])/\0<=Prod.fst t/\Prod.fst t<Prod.snd t/\Prod.snd t<n:=by
 unfold a2g;constructor
 ·intro h;cases hp:P9 H x with
  | none=>rw[hp] at h;cases h
  | some yz =>
   obtain⟨y,z⟩:=yz;rw[hp] at h;obtain⟨a,rfl,ea⟩:=Y8 hp;dsimp only at h;rw[bu] at h;cases y with
   | int i =>
    cases z with
    | int j =>
     have h1:=h.1;have h2:=h.2;unfold a0y at h1 h2;simp at h1 h2;exact⟨a,(i,j),rfl,ea,∅,by show i<j;omega,by show j<n;omega⟩
    | _=>exact absurd h.2 (by simp[a0y])
   | _=>exact absurd h.1 (by simp[a0y])
 ·rintro⟨a,t,rfl,ea,h0,h1,h2⟩;have hap:P9 H (.ref a)=some (.int t.1,.int t.2):=by unfold P9;dsimp only;rw[ea]
  rw[hap];simp[a0y];omega
theorem a5F:∀ {xs:List V},(∀ x∈xs,a2g H x n=true)->∃(ps:List (Addr×List Int)) (us:⋯),xs=ps.map (λx=>V.ref x.1)/\M9 H ps us/\P5 n us
 | [],_=>⟨[],[],rfl,⟨(λx hx=>nomatch hx),rfl⟩,(λt ht=>nomatch ht)⟩
 | x::r,h=>by
  obtain⟨ps,us,e,hp,hu⟩:=a5F (xs:=r) λy hy=>h y (aL _ hy)
  obtain⟨a,t,rfl,ea,h0,h1,h2⟩:=a3O.mp (h x (aR ..));refine⟨(a,tl t)::ps,t::us,by rw[e];rfl,⟨λy hy=>?_,by rw[ap,ap,hp.eq]⟩,λu hu'=>?_⟩
  ·rcases aQ.mp hy with rfl | hy
   ·exact ea
   ·exact hp.to y hy
  ·rcases aQ.mp hu' with rfl | hu'
   ·exact⟨h0,h1,h2⟩
   ·exact hu u hu'
theorem a9o {ps:List (Addr×List Int)}{us:⋯}(hp:M9 H ps us)(hu:P5 n us):∀ x∈ps.map (λx=>V.ref x.1),a2g H x n=true:=by
 intro x hx;obtain⟨i,hi⟩:=List.getElem?_of_mem hx;obtain⟨b,t,rfl,hti,hb⟩:=hp.get hi;exact a3O.mpr ⟨b,t,rfl,hb,hu t (aE hti)⟩
def a9l (H:Hp)(n:Int)(x:V)(us:⋯):Prop:=∃ a,x=.ref a/\a2q H a us/\P5 n us/\us.Pairwise Lex
theorem M9.inj {ps ps':List (Addr×List Int)}{us us':⋯}(h:M9 H ps us)(h':M9 H ps' us')(e:ps.map (λx=>V.ref x.1)=ps'.map λx=>V.ref x.1):us=us':=by
 have hl:us.length=us'.length:=by
  have:=congrArg cQ e;rw[aa,aa,h.len,h'.len] at this;exact this
 refine dj λi=>?_
 rcases cf i us.length with hi | hi
 ·obtain⟨v,h1⟩:∃ v,(ps.map λx=>V.ref x.1)[i]?=some v:=⟨_,aA (by rw[aa,h.len];exact hi)⟩
  obtain⟨b,t,e1,e2,e3⟩:=h.get h1;rw[e] at h1;obtain⟨b',t',e1',e2',e3'⟩:=h'.get h1;rw[e1] at e1';cases e1';rw[e3] at e3';injection e3' with e4
  injection e4 with e5
  have e6:=ba e5;have e7:=ba e6.2;have:t=t':=Prod.ext (V.int.inj e6.1) (V.int.inj e7.1);rw[e2,e2',this]
 ·rw[cn hi,cn ∅]
theorem a2q.inj {a:Addr}{us us':⋯}(h:a2q H a us)(h':a2q H a us'):us=us':=by
 obtain⟨ps,e,hp⟩:=h;obtain⟨ps',e',hp'⟩:=h';rw[e] at e';injection e' with e2
 injection e2 with e3
 exact hp.inj hp' e3
theorem a9L {us:⋯}(h3:3<=n)(h60:n<=60)(hok:P5 n us)(hsr:us.Pairwise Lex)(hl:us.length<=200):(T2 n us (B7 0 n.toNat) (B7 0 n.toNat)).length=1↔Hng us (B7 0 n.toNat):=by
 have hr:∀ x∈B7 0 n.toNat,0<=x/\x<n:=λx hx=>by have:=M4.mp hx;omega
 constructor
 ·intro h;obtain⟨l,e⟩:∃ l,T2 n us (B7 0 n.toNat) (B7 0 n.toNat)=[l]:=List.length_eq_one_iff.mp h;obtain⟨v,hv,ev⟩:=a4D (n:=n) (ts:=us) (us:=B7 0 n.toNat) (B7 0 n.toNat) l (by rw[e];simp);refine a5s hok hv λy hy=>?_
  have hin:=a8o hok hr (B7 0 n.toNat) (λv h=>h) y hy;rw[e] at hin;have hyl:y∈l:=by
   obtain⟨m,hm,hy⟩:=hin;rw[ag.mp hm] at hy;exact hy
  rw[ev] at hyl;exact (a0J hok (hr v hv).1 (hr v hv).2).mp hyl
 ·intro h;have w:S3 n us:=⟨h3,h60,hok,hsr,hl,a4L hok h⟩
  rw[w.onelot];rfl
end
end L2
end
section
namespace L2
theorem tV0 {v:V}{σ:St}{H:Hp}{Q:VK}:U3 0 (some v::σ) H Q=Q v H:=propext ⟨λ⟨_,e,q⟩=>by cases e;exact q,λq=>⟨_,rfl,q⟩⟩
theorem gN0 {v:V}{σ:St}{H:Hp}{Q:St->Hp->Prop}{b:Option V}:P4 0 v (b::σ) H Q=Q (some v::σ) H:=rfl
theorem tV1 {v:V}{σ:St}{H:Hp}{Q:VK}{a0:Option V}:U3 1 (a0::some v::σ) H Q=Q v H:=propext ⟨λ⟨_,e,q⟩=>by cases e;exact q,λq=>⟨_,rfl,q⟩⟩
theorem gN1 {v:V}{σ:St}{H:Hp}{Q:St->Hp->Prop}{b:Option V}{a0:Option V}:P4 1 v (a0::b::σ) H Q=Q (a0::some v::σ) H:=rfl
theorem tV2 {v:V}{σ:St}{H:Hp}{Q:VK}{a0 a1:Option V}:U3 2 (a0::a1::some v::σ) H Q=Q v H:=propext ⟨λ⟨_,e,q⟩=>by cases e;exact q,λq=>⟨_,rfl,q⟩⟩
theorem gN2 {v:V}{σ:St}{H:Hp}{Q:St->Hp->Prop}{b:Option V}{a0 a1:Option V}:P4 2 v (a0::a1::b::σ) H Q=Q (a0::a1::some v::σ) H:=rfl
theorem tV3 {v:V}{σ:St}{H:Hp}{Q:VK}{a0 a1 a2:Option V}:U3 3 (a0::a1::a2::some v::σ) H Q=Q v H:=propext ⟨λ⟨_,e,q⟩=>by cases e;exact q,λq=>⟨_,rfl,q⟩⟩
theorem gN3 {v:V}{σ:St}{H:Hp}{Q:St->Hp->Prop}{b:Option V}{a0 a1 a2:Option V}:P4 3 v (a0::a1::a2::b::σ) H Q=Q (a0::a1::a2::some v::σ) H:=rfl
theorem tV4 {v:V}{σ:St}{H:Hp}{Q:VK}{a0 a1 a2 a3:Option V}:U3 4 (a0::a1::a2::a3::some v::σ) H Q=Q v H:=propext ⟨λ⟨_,e,q⟩=>by cases e;exact q,λq=>⟨_,rfl,q⟩⟩
theorem gN4 {v:V}{σ:St}{H:Hp}{Q:St->Hp->Prop}{b:Option V}{a0 a1 a2 a3:Option V}:P4 4 v (a0::a1::a2::a3::b::σ) H Q=Q (a0::a1::a2::a3::some v::σ) H:=rfl
theorem tV5 {v:V}{σ:St}{H:Hp}{Q:VK}{a0 a1 a2 a3 a4:Option V}:U3 5 (a0::a1::a2::a3::a4::some v::σ) H Q=Q v H:=propext ⟨λ⟨_,e,q⟩=>by cases e;exact q,λq=>⟨_,rfl,q⟩⟩
theorem gN5 {v:V}{σ:St}{H:Hp}{Q:St->Hp->Prop}{b:Option V}{a0 a1 a2 a3 a4:Option V}:P4 5 v (a0::a1::a2::a3::a4::b::σ) H Q=Q (a0::a1::a2::a3::a4::some v::σ) H:=rfl
theorem tV6 {v:V}{σ:St}{H:Hp}{Q:VK}{a0 a1 a2 a3 a4 a5:Option V}:U3 6 (a0::a1::a2::a3::a4::a5::some v::σ) H Q=Q v H:=propext ⟨λ⟨_,e,q⟩=>by cases e;exact q,λq=>⟨_,rfl,q⟩⟩
theorem gN6 {v:V}{σ:St}{H:Hp}{Q:St->Hp->Prop}{b:Option V}{a0 a1 a2 a3 a4 a5:Option V}:P4 6 v (a0::a1::a2::a3::a4::a5::b::σ) H Q=Q (a0::a1::a2::a3::a4::a5::some v::σ) H:=rfl
theorem tV7 {v:V}{σ:St}{H:Hp}{Q:VK}{a0 a1 a2 a3 a4 a5 a6:Option V}:U3 7 (a0::a1::a2::a3::a4::a5::a6::some v::σ) H Q=Q v H:=propext ⟨λ⟨_,e,q⟩=>by cases e;exact q,λq=>⟨_,rfl,q⟩⟩
theorem gN7 {v:V}{σ:St}{H:Hp}{Q:St->Hp->Prop}{b:Option V}{a0 a1 a2 a3 a4 a5 a6:Option V}:P4 7 v (a0::a1::a2::a3::a4::a5::a6::b::σ) H Q=Q (a0::a1::a2::a3::a4::a5::a6::some v::σ) H:=rfl
theorem tV8 {v:V}{σ:St}{H:Hp}{Q:VK}{a0 a1 a2 a3 a4 a5 a6 a7:Option V}:U3 8 (a0::a1::a2::a3::a4::a5::a6::a7::some v::σ) H Q=Q v H:=propext ⟨λ⟨_,e,q⟩=>by cases e;exact q,λq=>⟨_,rfl,q⟩⟩
theorem gN8 {v:V}{σ:St}{H:Hp}{Q:St->Hp->Prop}{b:Option V}{a0 a1 a2 a3 a4 a5 a6 a7:Option V}:P4 8 v (a0::a1::a2::a3::a4::a5::a6::a7::b::σ) H Q=Q (a0::a1::a2::a3::a4::a5::a6::a7::some v::σ) H:=rfl
theorem tV9 {v:V}{σ:St}{H:Hp}{Q:VK}{a0 a1 a2 a3 a4 a5 a6 a7 a8:Option V}:U3 9 (a0::a1::a2::a3::a4::a5::a6::a7::a8::some v::σ) H Q=Q v H:=propext ⟨λ⟨_,e,q⟩=>by cases e;exact q,λq=>⟨_,rfl,q⟩⟩
theorem gN9 {v:V}{σ:St}{H:Hp}{Q:St->Hp->Prop}{b:Option V}{a0 a1 a2 a3 a4 a5 a6 a7 a8:Option V}:P4 9 v (a0::a1::a2::a3::a4::a5::a6::a7::a8::b::σ) H Q=Q (a0::a1::a2::a3::a4::a5::a6::a7::a8::some v::σ) H:=rfl
theorem b4k {v:V}{σ:St}{H:Hp}{Q:VK}{a0 a1 a2 a3 a4 a5 a6 a7 a8 a9:Option V}:U3 10 (a0::a1::a2::a3::a4::a5::a6::a7::a8::a9::some v::σ) H Q=Q v H:=propext ⟨λ⟨_,e,q⟩=>by cases e;exact q,λq=>⟨_,rfl,q⟩⟩
theorem b4J {v:V}{σ:St}{H:Hp}{Q:St->Hp->Prop}{b:Option V}{a0 a1 a2 a3 a4 a5 a6 a7 a8 a9:Option V}:P4 10 v (a0::a1::a2::a3::a4::a5::a6::a7::a8::a9::b::σ) H Q=Q (a0::a1::a2::a3::a4::a5::a6::a7::a8::a9::some v::σ) H:=rfl
theorem b4j {v:V}{σ:St}{H:Hp}{Q:VK}{a0 a1 a2 a3 a4 a5 a6 a7 a8 a9 a10:Option V}:U3 11 (a0::a1::a2::a3::a4::a5::a6::a7::a8::a9::a10::some v::σ) H Q=Q v H:=propext ⟨λ⟨_,e,q⟩=>by cases e;exact q,λq=>⟨_,rfl,q⟩⟩
theorem b4I {v:V}{σ:St}{H:Hp}{Q:St->Hp->Prop}{b:Option V}{a0 a1 a2 a3 a4 a5 a6 a7 a8 a9 a10:Option V}:P4 11 v (a0::a1::a2::a3::a4::a5::a6::a7::a8::a9::a10::b::σ) H Q=Q (a0::a1::a2::a3::a4::a5::a6::a7::a8::a9::a10::some v::σ) H:=rfl
theorem b4i {v:V}{σ:St}{H:Hp}{Q:VK}{a0 a1 a2 a3 a4 a5 a6 a7 a8 a9 a10 a11:Option V}:U3 12 (a0::a1::a2::a3::a4::a5::a6::a7::a8::a9::a10::a11::some v::σ) H Q=Q v H:=propext ⟨λ⟨_,e,q⟩=>by cases e;exact q,λq=>⟨_,rfl,q⟩⟩
theorem b4H {v:V}{σ:St}{H:Hp}{Q:St->Hp->Prop}{b:Option V}{a0 a1 a2 a3 a4 a5 a6 a7 a8 a9 a10 a11:Option V}:P4 12 v (a0::a1::a2::a3::a4::a5::a6::a7::a8::a9::a10::a11::b::σ) H Q=Q (a0::a1::a2::a3::a4::a5::a6::a7::a8::a9::a10::a11::some v::σ) H:=rfl
theorem b4h {v:V}{σ:St}{H:Hp}{Q:VK}{a0 a1 a2 a3 a4 a5 a6 a7 a8 a9 a10 a11 a12:Option V}:U3 13 (a0::a1::a2::a3::a4::a5::a6::a7::a8::a9::a10::a11::a12::some v::σ) H Q=Q v H:=propext ⟨λ⟨_,e,q⟩=>by cases e;exact q,λq=>⟨_,rfl,q⟩⟩
theorem b4G {v:V}{σ:St}{H:Hp}{Q:St->Hp->Prop}{b:Option V}{a0 a1 a2 a3 a4 a5 a6 a7 a8 a9 a10 a11 a12:Option V}:P4 13 v (a0::a1::a2::a3::a4::a5::a6::a7::a8::a9::a10::a11::a12::b::σ) H Q=Q (a0::a1::a2::a3::a4::a5::a6::a7::a8::a9::a10::a11::a12::some v::σ) H:=rfl
theorem b4g {v:V}{σ:St}{H:Hp}{Q:VK}{a0 a1 a2 a3 a4 a5 a6 a7 a8 a9 a10 a11 a12 a13:Option V}:U3 14 (a0::a1::a2::a3::a4::a5::a6::a7::a8::a9::a10::a11::a12::a13::some v::σ) H Q=Q v H:=propext ⟨λ⟨_,e,q⟩=>by cases e;exact q,λq=>⟨_,rfl,q⟩⟩
theorem b4F {v:V}{σ:St}{H:Hp}{Q:St->Hp->Prop}{b:Option V}{a0 a1 a2 a3 a4 a5 a6 a7 a8 a9 a10 a11 a12 a13:Option V}:P4 14 v (a0::a1::a2::a3::a4::a5::a6::a7::a8::a9::a10::a11::a12::a13::b::σ) H Q=Q (a0::a1::a2::a3::a4::a5::a6::a7::a8::a9::a10::a11::a12::a13::some v::σ) H:=rfl
theorem b4f {v:V}{σ:St}{H:Hp}{Q:VK}{a0 a1 a2 a3 a4 a5 a6 a7 a8 a9 a10 a11 a12 a13 a14:Option V}:U3 15 (a0::a1::a2::a3::a4::a5::a6::a7::a8::a9::a10::a11::a12::a13::a14::some v::σ) H Q=Q v H:=propext ⟨λ⟨_,e,q⟩=>by cases e;exact q,λq=>⟨_,rfl,q⟩⟩
theorem b4E {v:V}{σ:St}{H:Hp}{Q:St->Hp->Prop}{b:Option V}{a0 a1 a2 a3 a4 a5 a6 a7 a8 a9 a10 a11 a12 a13 a14:Option V}:P4 15 v (a0::a1::a2::a3::a4::a5::a6::a7::a8::a9::a10::a11::a12::a13::a14::b::σ) H Q=Q (a0::a1::a2::a3::a4::a5::a6::a7::a8::a9::a10::a11::a12::a13::a14::some v::σ) H:=rfl
theorem b4w {g:Int->Int->V}{i j:Int}{H:Hp}{Q:VK}:rI0 g (.int i) (.int j) H Q=Q (g i j) H:=propext ⟨λ⟨_,_,e,e',q⟩=>by cases e;cases e';exact q,λq=>⟨_,_,rfl,rfl,q⟩⟩
theorem rIi {C:Int->Int->Prop}{g:Int->Int->V}{i j:Int}{H:Hp}{Q:VK}:rI C g (.int i) (.int j) H Q=(C i j/\Q (g i j) H):=propext ⟨λ⟨_,_,e,e',q⟩=>by cases e;cases e';exact q,λq=>⟨_,_,rfl,rfl,q⟩⟩
theorem b3G {K:ae}{p:gq}{i:Int}{H:Hp}{Q:VK}:a9z K (.ref p) (.int i) H Q=∃ xs,SqL K H p xs/\∃ v,atI xs i=some v/\Q v H:=propext ⟨λ⟨_,_,_,_,e,e',a,b,q⟩=>by cases e;cases e';exact⟨_,a,_,b,q⟩,λ⟨_,a,_,b,q⟩=>⟨_,_,_,_,rfl,rfl,a,b,q⟩⟩
theorem b3E {K:ae}{p:gq}{i:Int}{H:Hp}{Q:VK}:a9y K (.ref p) (.int i) H Q=∃ xs,SqT K H p xs/\∃ v,atI xs i=some v/\Q v H:=propext ⟨λ⟨_,_,_,_,e,e',a,b,q⟩=>by cases e;cases e';exact⟨_,a,_,b,q⟩,λ⟨_,a,_,b,q⟩=>⟨_,_,_,_,rfl,rfl,a,b,q⟩⟩
theorem exB {b:Bool}{P:Bool->Prop}:(∃ k,V.bl b=V.bl k/\P k)=P b:=propext ⟨λ⟨_,e,q⟩=>by cases e;exact q,λq=>⟨_,rfl,q⟩⟩
theorem exI {b:Int}{P:Int->Prop}:(∃ k,V.int b=V.int k/\P k)=P b:=propext ⟨λ⟨_,e,q⟩=>by cases e;exact q,λq=>⟨_,rfl,q⟩⟩
theorem exR {b:gq}{P:gq->Prop}:(∃ k,V.ref b=V.ref k/\P k)=P b:=propext ⟨λ⟨_,e,q⟩=>by cases e;exact q,λq=>⟨_,rfl,q⟩⟩
theorem b4x {i j:Int}{H:Hp}{Q:VK}:rEq (.int i) (.int j) H Q=Q (.bl (decide (i=j))) H:=by
 unfold rEq;have e:decide (V.int i=V.int j)=decide (i=j):=by simp
 rw[e];simp[a7t]
theorem b4v {i j:Int}{H:Hp}{Q:VK}:rNe (.int i) (.int j) H Q=Q (.bl (!decide (i=j))) H:=by
 unfold rNe;have e:decide (V.int i=V.int j)=decide (i=j):=by simp
 rw[e];simp[a7t]
theorem b3V {K:ae}{p:gq}{H:Hp}{Q:VK}:b2O K [.ref p] H Q=∃ ys,(SqL K H p ys\/SqT K H p ys)/\Q (.int ys.length) H:=propext ⟨λ⟨_,ys,e,a,q⟩=>by cases e;exact⟨ys,a,q⟩,λ⟨ys,a,q⟩=>⟨_,ys,rfl,a,q⟩⟩
theorem al0 {α:Type}{P:List α->Prop}(h:P [])(us:List α)(hl:us.length=0):P us:=by cases us with
 | nil=>exact h
 | cons a r=>cases hl
theorem al1 {α:Type}{P:List α->Prop}(h:∀ a0,P [a0])(us:List α)(hl:us.length=1):P us:=by cases us with
 | nil=>cases hl
 | cons a r=>exact al0 (P:=λr=>P (a::r)) (h a) r (im hl)
theorem al2 {α:Type}{P:List α->Prop}(h:∀ a0 a1,P [a0,a1])(us:List α)(hl:us.length=2):P us:=by cases us with
 | nil=>cases hl
 | cons a r=>exact al1 (P:=λr=>P (a::r)) (h a) r (im hl)
theorem al3 {α:Type}{P:List α->Prop}(h:∀ a0 a1 a2,P [a0,a1,a2])(us:List α)(hl:us.length=3):P us:=by cases us with
 | nil=>cases hl
 | cons a r=>exact al2 (P:=λr=>P (a::r)) (h a) r (im hl)
end L2
end
section
namespace L2
open PySem
theorem b3f {t u:TS}{D:T9}{σ:St}{H:Hp}:b1l t u D σ H=(t {D with nx:=u D} σ H):=rfl
theorem b3w {te:TE}{g:TG}{D:T9}{σ:St}{H:Hp}:a5b te g D σ H=(te σ H λx H1=>g x σ H1 D.nx):=rfl
theorem b4p {r:R2}{ta tb:TE}{σ:St}{H:Hp}{Q:VK}:tOp r ta tb σ H Q=(ta σ H λx H1=>tb σ H1 λy H2=>r x y H2 Q):=rfl
theorem tCA {v:V}{u0:St}{H:Hp}{Q:VK}:tC v u0 H Q=(Q v H):=rfl
theorem b3h {te:TE}{D:T9}{σ:St}{H:Hp}:b3i te D σ H=(te σ H D.rt):=rfl
theorem b1m {D:T9}{u0:St}{H:Hp}:b3g D u0 H=(D.rt .non H):=rfl
theorem b3r {c:TT}{t u:TS}{D:T9}{σ:St}{H:Hp}:b3s c t u D σ H=(c σ H λb H1=>if b=true then t D σ H1 else u D σ H1):=rfl
theorem b1k {t:TE}{σ:St}{H:Hp}{Q:Bool->Hp->Prop}:b0F t σ H Q=(t σ H λx H'=>∃ k,x=.bl k/\Q k H'):=rfl
theorem tBA {t:TE}{σ:St}{H:Hp}{Q:Bool->Hp->Prop}:tB t σ H Q=(t σ H λx H1=>∃ c,x=.bl c/\Q c H1):=rfl
theorem b1r {D:T9}{σ:St}{H:Hp}:b0J D σ H=(D.nx σ H):=rfl
theorem b1u {te:TE}{D:T9}{σ:St}{H:Hp}:b0K te D σ H=(te σ H λ_ H1=>D.nx σ H1):=rfl
theorem b1x {sp:Sp}{dvs:List V}{E:XK}{t:TA}{σ:St}{H:Hp}{Q:VK}:a5J sp dvs E t σ H Q=(t σ H λvs H1=>sp (vs++dvs) H1 Q E):=rfl
theorem b1v {ta:TE}{tr:TA}{σ:St}{H:Hp}{Q:List V->Hp->Prop}:a5I ta tr σ H Q=(ta σ H λx H1=>tr σ H1 λxs H2=>Q (x::xs) H2):=rfl
theorem b3n {u0:St}{H:Hp}{Q:List V->Hp->Prop}:b1q u0 H Q=(Q [] H):=rfl
theorem b4s {r:List V->Hp->VK->Prop}{t:TA}{σ:St}{H:Hp}{Q:VK}:tCB r t σ H Q=(t σ H λvs H1=>r vs H1 Q):=rfl
theorem b4t {K:ae}{T:String}{r:V->List V->Hp->VK->Prop}{to:TE}{t:TA}{σ:St}{H:Hp}{Q:VK}:tBM K T r to t σ H Q=(to σ H λx H1=>tyV K T x H1/\t σ H1 λxs H2=>r x xs H2 Q):=rfl
theorem b3v {K:ae}{T:String}{r:V->List V->Hp->VK->Prop}{to:TE}{σ:St}{H:Hp}{Q:VK}:b1y K T r to σ H Q=(to σ H λx H1=>tyV K T x H1/\r x [] H1 Q):=rfl
theorem b3e {t:TA}{σ:St}{H:Hp}{Q:VK}:b1j t σ H Q=(t σ H λxs H1=>xs.length<=sizeLine/\∀ p,H1 p=none->Q (.ref p) (upd H1 p (.tup xs))):=rfl
theorem b3o {t:TA}{σ:St}{H:Hp}{Q:VK}:b1s t σ H Q=(t σ H λxs H1=>xs.length<=sizeLine/\∀ p,H1 p=none->Q (.ref p) (upd H1 p (.lst xs))):=rfl
theorem b3P {K:ae}{n:Nat}{t:TGs}{v:V}{σ:St}{H:Hp}{Q:St->Hp->Prop}:b2F K n t v σ H Q=(∃ a xs,v=.ref a/\SqT K H a xs/\xs.length=n/\t xs σ H Q):=rfl
theorem b2G {t:TG}{u:TGs}{vs:List V}{σ:St}{H:Hp}{Q:St->Hp->Prop}:a8G t u vs σ H Q=(∃ v r,vs=v::r/\t v σ H fun σ' H'=>u r σ' H' Q):=rfl
theorem b3S {vs:List V}{σ:St}{H:Hp}{Q:St->Hp->Prop}:b3T vs σ H Q=(vs=[]/\Q σ H):=rfl
theorem b3Q {to ti:TE}{t:b0B}{v:V}{σ:St}{H:Hp}{Q:St->Hp->Prop}:b3R to ti t v σ H Q=(to σ H λo H1=>ti σ H1 λi H2=>t o i v H2 λH3=>Q σ H3):=rfl
theorem b4m {r:V->Option Int->Option Int->Hp->VK->Prop}{te:TE}{tl th:TO}{σ:St}{H:Hp}{Q:VK}:tSl r te tl th σ H Q=(te σ H λx H1=>tl σ H1 λl H2=>th σ H2 λu H3=>r x l u H3 Q):=rfl
theorem a7g {u0:St}{H:Hp}{Q:Option Int->Hp->Prop}:a5G u0 H Q=(Q none H):=rfl
theorem b1n {t:TE}{σ:St}{H:Hp}{Q:Option Int->Hp->Prop}:b0H t σ H Q=(t σ H λx H1=>∃ i,x=.int i/\Q (some i) H1):=rfl
theorem b3x {t u:TT}{σ:St}{H:Hp}{Q:Bool->Hp->Prop}:b3y t u σ H Q=(t σ H λc H1=>if c=true then u σ H1 Q else Q false H1):=rfl
theorem b4o {t u:TT}{σ:St}{H:Hp}{Q:Bool->Hp->Prop}:tOr t u σ H Q=(t σ H λc H1=>if c=true then Q true H1 else u σ H1 Q):=rfl
theorem b3l {t:TT}{σ:St}{H:Hp}{Q:Bool->Hp->Prop}:b3m t σ H Q=(t σ H λc H1=>Q (!c) H1):=rfl
theorem b3t {ty td:TE}{σ:St}{H:Hp}{Q:VK}:b3u ty td σ H Q=(ty σ H λy H1=>td σ H1 λx H2=>∃ a o,x=.ref a/\X8 H2 a y o/\Q (.bl o.isSome) H2):=rfl
theorem a7h {ty td:TE}{σ:St}{H:Hp}{Q:VK}:a5H ty td σ H Q=(ty σ H λy H1=>td σ H1 λx H2=>∃ a o,x=.ref a/\X8 H2 a y o/\Q (.bl (!o.isSome)) H2):=rfl
theorem b1D {td ty tv:TE}{D:T9}{σ:St}{H:Hp}:b0N td ty tv D σ H=(tv σ H λv H1=>td σ H1 λx H2=>ty σ H2 λy H3=>∃ a H4,x=.ref a/\X7 H3 a y v H4/\D.nx σ H4):=rfl
theorem b2E {K:ae}{tl:TE}{σ:St}{H:Hp}{R:It->Hp->Prop}:a8C K tl σ H R=(tl σ H λx H1=>∃ a,x=.ref a/\(∃ xs,SqL K H1 a xs)/\R (Itl K a) H1):=rfl
theorem b3O {K:ae}{tl:TE}{σ:St}{H:Hp}{R:It->Hp->Prop}:b2B K tl σ H R=(tl σ H λx H1=>∃ a,x=.ref a/\(∃ xs,SqT K H1 a xs)/\R (Itt K a) H1):=rfl
theorem b2D {ta:TA}{σ:St}{H:Hp}{R:It->Hp->Prop}:b0Z ta σ H R=(ta σ H λvs H1=>∃ j:Int,vs=[.int j]/\-(2 ^ 62)<=j/\j<2 ^ 62/\R (Itr 0 j.toNat) H1):=rfl
theorem b2C {ta:TA}{σ:St}{H:Hp}{R:It->Hp->Prop}:b0Y ta σ H R=(ta σ H λvs H1=>∃ i j:Int,vs=[.int i,.int j]/\(-(2 ^ 62)<=i/\i<2 ^ 62/\-(2 ^ 62)<=j/\j<2 ^ 62)/\R (Itr i (j-i).toNat) H1):=rfl
theorem a9r {r r':R2}{ta tb tc:TE}{σ:St}{H:Hp}{Q:VK}:b1w r r' ta tb tc σ H Q=(ta σ H λx H1=>tb σ H1 λy H2=>r x y H2 λz H3=>∃ k,z=.bl k/\(if k=true then tc σ H3 λw' H4=>r' y w' H4 Q else Q (.bl false) H3)):=rfl
theorem b1z {ta tb:TE}{σ:St}{H:Hp}{Q:VK}:b0M ta tb σ H Q=(ta σ H λx H1=>∃ c,x=.bl c/\if c=true then tb σ H1 Q else Q (.bl false) H1):=rfl
theorem b3j {ta tb:TE}{σ:St}{H:Hp}{Q:VK}:b4n ta tb σ H Q=(ta σ H λx H1=>∃ c,x=.bl c/\if c=true then Q (.bl true) H1 else tb σ H1 Q):=rfl
theorem b1o {ta:TE}{σ:St}{H:Hp}{Q:VK}:b0I ta σ H Q=(ta σ H λx H1=>∃ c,x=.bl c/\Q (.bl (!c)) H1):=rfl
theorem b4l {r:V->Hp->VK->Prop}{ta:TE}{σ:St}{H:Hp}{Q:VK}:tUn r ta σ H Q=(ta σ H λx H1=>r x H1 Q):=rfl
theorem b3d {u0:St}{H:Hp}{Q:Bool->Hp->Prop}:b1i u0 H Q=(Q true H):=rfl
theorem a9q {u0:St}{H:Hp}{Q:VK}:a7j u0 H Q=(∀ p,H p=none->Q (.ref p) (upd H p (.dK []))):=rfl
theorem a9p {u0:St}{H:Hp}{Q:VK}:a7i u0 H Q=(∀ p,H p=none->Q (.ref p) (upd H p (.dT []))):=rfl
theorem b3p {ta:TE}{σ:St}{H:Hp}{Q:VK}:b3q ta σ H Q=(ta σ H λx H1=>Q (.bl (decide (x=.non))) H1):=rfl
theorem b1p {ta:TE}{σ:St}{H:Hp}{Q:VK}:b3k ta σ H Q=(ta σ H λx H1=>Q (.bl (!decide (x=.non))) H1):=rfl
theorem b4q {own:List Str}{fr:List (Str×Nat)}{wi:TI}{g:TG}{tc:TT}{te:TE}{σ:St}{H:Hp}{Q:VK}:tLC own fr wi g tc te σ H Q=wi σ H λJ H1=>∀ p,H1 p=none->lcW g tc te p J (st0 own fr σ) (upd H1 p (.lst [])) λH2=>Q (.ref p) H2:=rfl
theorem b4r {t:Bool}{own:List Str}{fr:List (Str×Nat)}{wi:TI}{g:TG}{tc:TT}{te tv:TE}{σ:St}{H:Hp}{Q:VK}:tDC t own fr wi g tc te tv σ H Q=wi σ H λJ H1=>∀ p,H1 p=none->dcW g tc te tv p J (st0 own fr σ) (upd H1 p (a2k t)) λH2=>Q (.ref p) H2:=rfl
end L2
end
section
namespace L2
open PySem PySem.Spec PyProof.Rows
section
variable {K:ae}{H:Hp}{a b:Addr}{xs ys:List V}{lo hi:Option Int}{Q:VK}
theorem a3a (ha:H a=some (.lst xs))(q:∀ p H',H p=none->B2 H H'->H' p=some (.lst (Z0 xs lo hi))->Q (.ref p) H'):a9x K (.ref a) lo hi H Q :=
 ⟨a,xs,rfl,SqL.of ha,λp np=>q p _ np ((B2.refl H).upd np) A2⟩
theorem P8 (ha:H a=some (.lst xs))(hb:H b=some (.lst ys))(hz:xs.length+ys.length<=10000)(q:∀ p H',H p=none->B2 H H'->H' p=some (.lst (xs++ys))->Q (.ref p) H'):b1G (.ref a) (.ref b) H Q :=
 ⟨a,b,xs,ys,rfl,rfl,ha,hb,dL (B8 ∅),λp np=>q p _ np ((B2.refl H).upd np) A2⟩
end
end L2
end
section
namespace L2
open PySem PySem.Spec PyProof.Rows
def a7l (w:Str):Prop:=PyData.strOk w=true
inductive W0 (H:Hp):V->Prop
 | non:W0 H .non
 | bl (b:Bool):W0 H (.bl b)
 | int (i:Int):W0 H (.int i)
 | str {w:Str}:a7l w->W0 H (.str w)
 | tup {a:Addr} {w:Str}:H a=some (.tup [.str w])->a7l w->W0 H (.ref a)
 | lst {a:Addr} {w:Str}:H a=some (.lst [.str w])->a7l w->W0 H (.ref a)
theorem W0.same {H H':Hp}{v:V}(s:B2 H H')(h:W0 H v):W0 H' v:=by
 cases h with
 | non=>exact .non
 | bl b=>exact .bl b
 | int i=>exact .int i
 | str h=>exact .str h
 | tup e h=>exact .tup (s _ _ e) h
 | lst e h=>exact .lst (s _ _ e) h
theorem b1B {w:Str}(h:a7l w):SeqAt.shaped (.str w)=true:=by
 unfold SeqAt.shaped;rw[PyData.canLay0,show PyData.strOk w=true from h,PyData.depth];rfl
theorem a7p {w:Str}(h:a7l w):PyData.canLayAll0 [.str w]=true:=by
 rw[PyData.canLayAll0,PyData.canLay0,show PyData.strOk w=true from h,PyData.canLayAll0];rfl
theorem a8R {w:Str}:PyData.depthAll [.str w]=0:=by
 rw[PyData.depthAll,PyData.depth,PyData.depthAll];rfl
theorem W0.nd {K:ae}{H:Hp}{v:V}(h:W0 H v):∃ d,Dt K H v d/\SeqAt.shaped d=true:=by
 cases h with
 | non=>exact⟨_,.non,by unfold SeqAt.shaped;rw[PyData.canLay0,PyData.depth];rfl⟩
 | bl b=>exact⟨_,.bl b,by unfold SeqAt.shaped;rw[PyData.canLay0,PyData.depth];rfl⟩
 | int i=>exact⟨_,.int i,by unfold SeqAt.shaped;rw[PyData.canLay0,PyData.depth];rfl⟩
 | str h=>exact⟨_,.str _,b1B h⟩
 | tup e h=>exact⟨_,.tup (SqT.of e) (.cons (.str _) .nil),by unfold SeqAt.shaped;rw[PyData.canLay0,a7p h,PyData.depth,a8R];rfl⟩
 | lst e h=>exact⟨_,.lst (SqL.of e) (.cons (.str _) .nil),by unfold SeqAt.shaped;rw[PyData.canLay0,a7p h,PyData.depth,a8R];rfl⟩
end L2
end
section
namespace L2
open PySem PySem.Spec PyProof.Rows
theorem Ncs.mem {c k m:Nat}:∀ {ds:List PyData},Ncs c k m ds->∀ d∈ds,Nc c k m d
 | d::r,h,x,hx=>by
  have h7:=h.so;rw[a3b,bu] at h7;have h1:=h.sh;have h2:=h.dp;have h3:=h.lv;have h4:=h.bk;rw[PyData.showableAll,bu] at h1;rw[PyData.depthAll] at h2;rw[PyData.leavesShortAll,bu] at h3;rw[PyData.bulkAll] at h4;have h5:c≠2->noL d=true/\a5i r=true:=λe=>by have:=h.nl e;rw[a5i,bu] at this;exact this
  have h6:c≠1->d.hasDict=false/\PyData.hasDictAll r=false:=λe=>by have:=h.nd e;rw[PyData.hasDictAll,fU] at this;exact this
  rcases aQ.mp hx with rfl | hx
  ·exact⟨λe=>(h5 e).1,λe=>(h6 e).1,h1.1,∅,h3.1,∅,h7.1⟩
  ·exact Ncs.mem ⟨λe=>(h5 e).2,λe=>(h6 e).2,h1.2,∅,h3.2,∅,h7.2⟩ x hx
end L2
end
section
namespace L2
open PySem PySem.Spec PyProof.Rows
inductive W1 (H:Hp):V->Prop
 | w0 {v:V}:W0 H v->W1 H v
 | tps {a:Addr} {l:List Int}:H a=some (.tup (l.map V.int))->W1 H (.ref a)
theorem W1.same {H H':Hp}{v:V}(s:B2 H H')(h:W1 H v):W1 H' v:=by
 cases h with
 | w0 h=>exact .w0 (h.same s)
 | tps e=>exact .tps (s _ _ e)
theorem W1.nd {K:ae}{H:Hp}{v:V}(h:W1 H v):∃ d,Dt K H v d/\SeqAt.shaped d=true:=by
 cases h with
 | w0 h=>exact h.nd
 | @tps a l e=>exact⟨_,.tupI (SqT.of e),a4b l⟩
end L2
end
section
namespace L2
open PySem PySem.Spec PySem.Builtin PySem.Builtin.Str PyProof.Rows
section
variable {X:Cx}
theorem a3P:∀ {ys:List Str} {us:List Value},C1 (ys.map V.str) us->StrsAre us ys
 | [],_,r=>by cases r;exact .nil
 | y::ys,_,r=>by
  cases r with
  | cons h t =>
   obtain⟨k,rfl⟩:=h;exact .cons y k (a3P t)
theorem a2r:∀ l:List (Str×Tok),C1 ((l.map (·.1)).map V.str) (strValues l)
 | []=>.nil
 | p::r=>.cons ⟨p.2,rfl⟩ (a2r r)
def a7B (K:ae):V->List V->Hp->VK->Prop:=λx vs H Q=>∃(sep:Str) (a:Addr) (ys:List Str),x=.str sep/\vs=[.ref a]/\SqL K H a (ys.map V.str)/\(ys.map (·.length)).sum+ys.length*sep.length<=16777216/\Q (.str (jA sep ys)) H
theorem a9Y:MtM X "str.join" (a7B X.K):=by
 intro pins s σ H x vs v us Q I rx rv h;obtain⟨sep,a,ys,rfl,rfl,hH,hz,q⟩:=h;obtain⟨t,rfl⟩:=rx;obtain⟨u,rfl,ru⟩:=rv.one;cases ru;obtain⟨its,r,pl,_⟩:=I.list hH;exact join_list pl.isList (a3P r) hz λt1 k=>⟨.str _,H,I.kept (t':=k) (λ_ _ e=>e),⟨t1,rfl⟩,q⟩
def a5c:V->List V->Hp->VK->Prop:=λx vs H Q=>∃(a b:Str),x=.str a/\vs=[.str b]/\(b.length == 0)=false/\a.length+2<=sizeLine/\∀ p,H p=none->Q (.ref p) (upd H p (.lst ((Txt.split a b).map V.str)))
theorem a8l:MtM X "str.split" a5c:=by
 intro pins s σ H x vs v us Q I rx rv h;obtain⟨a,b,rfl,rfl,hy,hz,q⟩:=h;obtain⟨t,rfl⟩:=rx;obtain⟨u,rfl,ru⟩:=rv.one;obtain⟨u,rfl⟩:=ru;have hn:(partsBetween a (occurrences a b 0 a.length (a.length+1)) b.length).length<=sizeLine:=by
  have e1:=StrLaws.occ_length_le a b 0 a.length (a.length+1);rw[length_partsBetween];omega
 have fin:∀(l:List (Str×Tok)) (k:Nat),l.map (·.1)=Txt.split a b->l.length<=sizeLine->EP X pins σ Q (.ref s.heap.objs.size) {s with toks:=k,heap:=s.heap.push {cls:=.type "list",data:=.seq (strValues l).toArray}}:=λl k hl hlen=>by
  refine⟨.ref s.heap.objs.size,_,I.laid (t':=k) (o:=.lst ((Txt.split a b).map V.str)) (λb ob q=>ao _ q) (ak _) ?_,rfl,q _ (I.hok.fresh (ak _))⟩;rw[<- hl];exact⟨by rw[aa,aa];exact hlen,_,0,a2r l,aO _ rfl⟩
 cases h1:(decide (a.length<b.length) || decide (strKind a<strKind b))
 ·cases hf:(occurrences a b 0 a.length (a.length+1)).isEmpty
  ·refine fh hU (typeIs_str _ _ _) gR (gF _ _) (meets_str_split_sep a b t u h1 hy hf ∅ hn) ?_;show wants _ _ _ {s with toks:=_,heap:=s.heap.push {cls:=.type "list",data:=.seq (strsFrom s.toks (partsBetween a (occurrences a b 0 a.length (a.length+1)) b.length)).toArray}};rw[strsFrom_eq];refine fin (numbered s.toks _) _ ((numbered_texts _ _).trans ((if_neg (ne_true_of_eq_false h1)).trans (if_neg (ne_true_of_eq_false hf))).symm) ?_;rw[<- aa (·.1),numbered_texts];exact hn
  ·exact fh hU (typeIs_str _ _ _) gR (gF _ _) (meets_str_split_not_found a b t u h1 hy hf)
    (fin [(a,t)] s.toks ((if_neg (ne_true_of_eq_false h1)).trans (if_pos hf)).symm (by show 1<=sizeLine;decide))
 ·exact fh hU (typeIs_str _ _ _) gR (gF _ _) (meets_str_split_cannot_occur a b t u h1)
   (fin [(a,t)] s.toks (if_pos h1).symm (by show 1<=sizeLine;decide))
def b0S:R2:=λx y H Q=>∃ a b:Str,x=.str a/\y=.str b/\a.length+b.length<=sizeLine/\Q (.str (a++b)) H
theorem J0:OpR X (binaryOp .Add) b0S:=by
 intro pins s σ H x y v u Q I rx ry h;obtain⟨a,b,rfl,rfl,hz,q⟩:=h;obtain⟨t,rfl⟩:=rx;obtain⟨k,rfl⟩:=ry;exact SB.add (λt1 k=>⟨.str _,H,I.kept (t':=k) (λ_ _ e=>e),⟨t1,rfl⟩,q⟩) hz
def a7C:V->List V->Hp->VK->Prop:=λx vs H Q=>∃ a b:Str,x=.str a/\vs=[.str b]/\Q (.bl (Txt.endswith a b)) H
theorem a9Z:MtM X "str.endswith" a7C:=by
 intro pins s σ H x vs v us Q I rx rv h;obtain⟨a,b,rfl,rfl,q⟩:=h;obtain⟨t,rfl⟩:=rx;obtain⟨u,rfl,ru⟩:=rv.one;obtain⟨u,rfl⟩:=ru;exact call_gives F.slot_str_endswith (typeIs_str _ _ _) F.entry_str_endswith (F.args_str_endswith_2 _ _) (gives_str_endswith a b t u) ⟨.bl _,H,I,rfl,q⟩
end
section
variable {X:Cx}{elts:List Expr}{k:Nat}{tpos apos cpos:Pos}{o:Expr}{to:TE}
theorem b2j {e:Expr}{es:List Expr}{t:TA}(K:ae)(ho:PE X o to)(ha:PA X (e::es) t)(h:X.K=K:=by rfl)
  (hbase:attributeBase o "join" X.env (eval o X.env)=eval o X.env:=by rfl)
  (hfew:((backTo cpos (starEach (e::es) X.env)).all (λx=>!x.1) && (backToKw cpos (keywordEach [] X.env)).all (λx=>x.1.isSome)
   && decide ((e::es).length+([]:List Keyword).length+(if ([]:List Keyword).isEmpty then 0 else 1)<30))=true:=by rfl) (hst:starEach (e::es) X.env=(false,eval e X.env)::starEach es X.env:=by rfl) (hpl:(backTo cpos (starEach es X.env)).any (·.1)=false:=by rfl) (hline:(apos.endLine == cpos.line)=true:=by rfl) :
  PE X (.Call (.Attribute o "join" apos) (e::es) [] cpos) (tBM K "str" (a7B K) to t):=by
 subst h;exact a5Y fw PySem.F.slot_str_join PySem.F.type_str_join a9Y ho ha hbase hfew hline hst hpl
theorem Y1 {e:Expr}{es:List Expr}{t:TA}(K:ae)(ho:PE X o to)(ha:PA X (e::es) t)(h:X.K=K:=by rfl)
  (hbase:attributeBase o "split" X.env (eval o X.env)=eval o X.env:=by rfl)
  (hfew:((backTo cpos (starEach (e::es) X.env)).all (λx=>!x.1) && (backToKw cpos (keywordEach [] X.env)).all (λx=>x.1.isSome)
   && decide ((e::es).length+([]:List Keyword).length+(if ([]:List Keyword).isEmpty then 0 else 1)<30))=true:=by rfl) (hst:starEach (e::es) X.env=(false,eval e X.env)::starEach es X.env:=by rfl) (hpl:(backTo cpos (starEach es X.env)).any (·.1)=false:=by rfl) (hline:(apos.endLine == cpos.line)=true:=by rfl) :
  PE X (.Call (.Attribute o "split" apos) (e::es) [] cpos) (tBM K "str" a5c to t):=by
 subst h;exact a5Y fw PySem.F.slot_str_split PySem.F.type_str_split a8l ho ha hbase hfew hline hst hpl
theorem a5v {e:Expr}{es:List Expr}{t:TA}(K:ae)(ho:PE X o to)(ha:PA X (e::es) t)(h:X.K=K:=by rfl)
  (hbase:attributeBase o "endswith" X.env (eval o X.env)=eval o X.env:=by rfl)
  (hfew:((backTo cpos (starEach (e::es) X.env)).all (λx=>!x.1) && (backToKw cpos (keywordEach [] X.env)).all (λx=>x.1.isSome)
   && decide ((e::es).length+([]:List Keyword).length+(if ([]:List Keyword).isEmpty then 0 else 1)<30))=true:=by rfl) (hst:starEach (e::es) X.env=(false,eval e X.env)::starEach es X.env:=by rfl) (hpl:(backTo cpos (starEach es X.env)).any (·.1)=false:=by rfl) (hline:(apos.endLine == cpos.line)=true:=by rfl) :
  PE X (.Call (.Attribute o "endswith" apos) (e::es) [] cpos) (tBM K "str" a7C to t):=by
 subst h;exact a5Y fw PySem.F.slot_str_endswith PySem.F.type_str_endswith a9Z ho ha hbase hfew hline hst hpl
end
end L2
end
section
namespace L2
open PySem PySem.Spec PySem.Builtin PySem.Builtin.Str PyProof.Rows
section
variable {K:ae}{p:Addr}{g:TG}{tc:TT}{te tv:TE}{τ0:St}{H0:Hp}{EE:Hp->Prop}
theorem a8T {lo:Int}{n:Nat}(Pv:Nat->St->Hp->Prop)(h0:Pv 0 τ0 H0)
  (hs:∀ i τ H,i<n->Pv i τ H->g (.int (lo+i)) τ H fun τ2 H2=>tc τ2 H2 λb H3=>if b=true then te τ2 H3 λk H4=>tv τ2 H4 λv H5=>∃ H6,X7 H5 p k v H6/\Pv (i+1) τ2 H6 else Pv (i+1) τ2 H3)
  (hd:∀ τ H,Pv n τ H->EE H):dcW g tc te tv p (Itr lo n) τ0 H0 EE:=by
 refine⟨λi m τ H=>m=n-i/\i<=n/\Pv i τ H,⟨_,rfl,bi _,h0⟩,?_⟩;rintro i m τ H ⟨rfl,hi,hp⟩;rcases cf i n with h | h
 ·refine .inr ⟨h,Pv (i+1),fun τ' H' z=>⟨_,∅,rfl,h,z⟩,?_⟩;rintro x H' ⟨rfl,rfl⟩;exact hs i τ H' h hp
 ·have e:i=n:=∅
  subst e;exact .inl ⟨ak _,hd τ H hp⟩
end
def tS (i:Int):Str:=Str.ofString (toString i)
theorem a4Z:∀ i j:Nat,i<100->j<100->tS i=tS j->i=j:=by
 have h:(dE 100).all (λi=>(dE 100).all λj=>decide (tS (i:Int)=tS (j:Int)) == decide (i=j))=true:=by decide +kernel
 intro i j hi hj e;have h1:=bI.mp (bI.mp h i (bQ.mpr hi)) j (bQ.mpr hj);rw[decide_eq_true e] at h1;exact of_decide_eq_true (~~~h1)
def nKv:Nat->List (Key×V)
 | 0=>[]
 | m+1=>S4 (nKv m) (.inr (tS m)) (.int m)
theorem a6c {m:Nat}(hm:m<=100){w:Str}{v:V}:R7 (nKv m) (.inr w)=some v↔∃ i:Nat,i<m/\w=tS i/\v=.int i:=by
 induction m with
 | zero=>simp[nKv,R7]
 | succ m ih =>
  have ih:=ih ∅;show R7 (S4 (nKv m) (.inr (tS m)) (.int m)) (.inr w)=some v↔_;rw[a6Y];by_cases h:(gC w:Key)=.inr (tS m)
  ·rw[if_pos h];injection h with h
   subst h;constructor
   ·intro e;cases e;exact⟨m,∅,rfl,rfl⟩
   ·rintro⟨i,hi,e,rfl⟩;rw[a4Z m i ∅ ∅ e]
  ·rw[if_neg h,ih];constructor
   ·rintro⟨i,hi,e,rfl⟩;exact⟨i,∅,e,rfl⟩
   ·rintro⟨i,hi,e,rfl⟩;refine⟨i,?_,e,rfl⟩;rcases cf i m with c | c
    ·exact c
    ·exact absurd (by rw[e,show i=m by omega]) h
theorem a6b:∀ m:Nat,(nKv m).length<=m
 | 0=>ak _
 | m+1=>by
  have:=a6b m;have l1:=R0 (nKv m) (.inr (tS m)) (.int m);show (S4 (nKv m) _ _).length<=m+1;omega
def nOf (m:Nat)(w:Str):V:=(R7 (nKv m) (.inr w)).getD .non
end L2
end
section
namespace L2
open PySem PySem.Spec PySem.Builtin PySem.Builtin.Str PyProof.Rows
def cs (x:Str):List Nat:=x.cps.toList
theorem a5y {x y:Str}(h:cs x=cs y):x=y:=by
 obtain⟨⟨x⟩⟩:=x;obtain⟨⟨y⟩⟩:=y;have h:x=y:=h;rw[h]
theorem S1 (x:Str):(cs x).length=x.length:=by unfold cs;rw[bz];rfl
theorem X4 (a b:Str):cs (a++b)=cs a++cs b:=bh
def sT (l:List Nat):Str:=⟨l.toArray⟩
def jn (c:Nat):List (List Nat)->List Nat
 | []=>[]
 | [p]=>p
 | p::q::r=>p++c::jn c (q::r)
def spl (c:Nat):List Nat->List (List Nat)
 | []=>[[]]
 | x::l=>if x=c then []::spl c l else match spl c l with
  | []=>[[x]]
  | p::r=>(x::p)::r
theorem b1A (c:Nat):∀ l,spl c l≠[]
 | [],h=>by cases h
 | x::l,h=>by
  unfold spl at h;split at h
  ·cases h
  ·split at h<;>cases h
theorem a5K (c:Nat):∀ l,(spl c l).length=l.count c+1
 | []=>rfl
 | x::l=>by
  have ih:=a5K c l;unfold spl;rw[List.count_cons];by_cases h:x=c
  ·rw[if_pos h,aD,ih,if_pos (~~~h)]
  ·rw[if_neg h,if_neg (~~~h)];split
   ·next e=>exact absurd e (b1A c l)
   ·next e=>rw[e] at ih;rw[<- ih];rfl
theorem a5L (c:Nat)(q:List Nat):∀ p:List Nat,c∉p->spl c (p++c::q)=p::spl c q
 | [],_=>by show spl c (c::q)=_;rw[spl,if_pos rfl]
 | x::p,h=>by
  show spl c (x::(p++c::q))=_;rw[spl,if_neg (λe=>h (by rw[e];exact aR)),a5L c q p λm=>h (aL _ m)]
theorem a3Q (c:Nat):∀ p:List Nat,c∉p->spl c p=[p]
 | [],_=>rfl
 | x::p,h=>by rw[spl,if_neg (λe=>h (by rw[e];exact aR)),a3Q c p λm=>h (aL _ m)]
theorem a7n (c:Nat):∀ ps:List (List Nat),ps≠[]->(∀ p∈ps,c∉p)->spl c (jn c ps)=ps
 | [],h,_=>absurd rfl h
 | [p],_,h=>a3Q c p (h p aR)
 | p::q::r,_,h=>by rw[jn,a5L c _ p (h p aR),a7n c (q::r) (by simp) λx hx=>h x (aL _ hx)]
theorem U9 (c:Nat):∀ ys:List Str,cs (Str.join (sT [c]) ys)=jn c (ys.map cs)
 | []=>rfl
 | [y]=>rfl
 | y::z::r=>by
  rw[ap,ap,jn,<- ap,<- U9 c (z::r)];show cs (y++sT [c]++Str.join (sT [c]) (z::r))=_;rw[X4,X4,bn];rfl
theorem a7m (x:Str)(c:Nat):(Txt.split x (sT [c])).map cs=spl c (cs x):=by
 have e:=U9 c (Txt.split x (sT [c]));rw[fX x _] at e;rw[e,a7n]
 ·have:=gG x (sT [c]);intro h;rw[List.map_eq_nil_iff] at h;rw[h] at this;exact absurd this (by decide)
 ·intro p hp;obtain⟨s,hs,rfl⟩:=bx.mp hp;exact fW x c s hs
theorem a2t (x:Str)(c:Nat):(Txt.split x (sT [c])).length=(cs x).count c+1:=by
 rw[<- a5K,<- a7m,aa]
def a5x (x:Str)(lo hi:Option Int):Str:=sT (((cs x).drop (HT.sIx x.length 0 lo)).take (HT.sIx x.length x.length hi-HT.sIx x.length 0 lo))
theorem a1w (lo hi:Option Int)(n:Nat):strSliceIndices lo hi 1 n=sliceRange ((HT.sIx n 0 lo:Nat):Int) ((HT.sIx n n hi:Nat):Int) 1:=by
 obtain⟨h1,h2,_⟩:=a0m lo hi n;rw[<- h1,<- h2];rfl
theorem a7I (x:Str)(lo hi:Option Int):(strSliceIndices lo hi 1 x.length).filterMap (λi=>x.cps[i]?)=cs (a5x x lo hi):=by
 rw[a1w];obtain⟨⟨l⟩⟩:=x;show _=((l.drop _).take _)
 have e:Str.length ⟨⟨l⟩⟩=l.length:=rfl;rw[e];simp only[sliceRange_one,pick_run,aB]<;>rfl
theorem a6q (x:Str)(lo hi:Option Int):(a5x x lo hi).length<=x.length:=by
 rw[<- S1,<- S1 x];show ((_:List Nat).take _).length<=_;rw[aT,dy];omega
theorem a3w (x:Str)(lo hi:Option Int):(cs (a5x x lo hi)).Sublist (cs x):=(gw _ _).trans (jG _ _)
theorem b0x (x:Str)(lo hi:Option Int)(c:Nat):(cs (a5x x lo hi)).count c<=(cs x).count c:=(a3w x lo hi).count_le c
theorem b1C (n:Nat)(hi:Option Int):HT.sIx n n hi<=n:=by
 unfold HT.sIx;split
 ·exact ak _
 ·split<;>omega
section
variable {X:Cx}
def b3B:V->Option Int->Option Int->Hp->VK->Prop:=λx lo hi H Q=>∃ a,x=.str a/\a.length<=sizeLine/\Q (.str (a5x a lo hi)) H
theorem Z6:SlR X b3B:=by
 intro pins s σ H x v vl vu lo hi sl Q I rx hs pl pu h;obtain⟨a,rfl,hz,q⟩:=h;obtain⟨t,rfl⟩:=rx;refine⟨"str",_,jZ.lookup,typeIs_str _ _ _,?_⟩;have key:∀ l u:Option (Int×Tok),vl=partValue l->vu=partValue u->lo=l.map (·.1)->hi=u.map (·.1)->wpAny (model X.prog X.w) X.A (getItem (.str a t) (.ref sl)) (EP X pins σ Q) X.xe s:=by
  rintro l u rfl rfl rfl rfl;refine wpAny_getItem_str_slice (l:=l) (u:=u) (st:=none) hs (by decide) ?_;unfold sliceMade;have e:slicePicked a l u none=strSliceIndices (l.map (·.1)) (u.map (·.1)) 1 a.length:=rfl;rw[e,a7I];split
  ·next hc =>
   have hlen:(strSliceIndices (l.map (·.1)) (u.map (·.1)) 1 a.length).length=a.length:= ~~~hc
   refine⟨.str a,H,I,⟨t,rfl⟩,?_⟩;rw[show a5x a (l.map (·.1)) (u.map (·.1))=a from ?_] at q
   ·exact q
   ·refine a5y ((a3w a _ _).eq_of_length ?_);rw[a1w,sliceRange_one,aa,jF] at hlen;show ((_:List Nat).take _).length=_;rw[aT,dy,S1];have:=b1C a.length (u.map (·.1));omega
  ·refine⟨aM (a6q a _ _) hz,.str _,H,I.tok _,⟨_,rfl⟩,q⟩
 cases pl with
 | none=>cases pu with
  | none=>exact key none none rfl rfl rfl rfl
  | int i t'=>exact key none (some (i,t')) rfl rfl rfl rfl
 | int j t2=>cases pu with
  | none=>exact key (some (j,t2)) none rfl rfl rfl rfl
  | int i t'=>exact key (some (j,t2)) (some (i,t')) rfl rfl rfl rfl
def a0r (a:Str)(k:Nat):Str:=sT (List.replicate k (cs a)).flatten
theorem a1W (a:Array Nat):∀(k:Nat) (b:Array Nat),((List.replicate k a).foldl (λx y=>x++y) b).toList=b.toList++(List.replicate k a.toList).flatten
 | 0,b=>by simp
 | k+1,b=>by rw[cE,df,a1W a k,bh,cE,dX,bn]
theorem a4o (a:Str)(k:Nat):(a0r a k).length=k*a.length:=by
 rw[<- S1,<- S1 a];show ((List.replicate k (cs a)).flatten).length=_;rw[jg,jy,iG]
theorem a7y (a:Str)(k c:Nat):(cs (a0r a k)).count c=k*(cs a).count c:=by
 show ((List.replicate k (cs a)).flatten).count c=_;rw[jz,jy,iG]
def b0Q:R2:=λx y H Q=>∃ a k,x=.str a/\y=.int k/\1<=a.length/\2<=k/\(a.length:Int)*k<=1000000/\Q (.str (a0r a k.toNat)) H
theorem a1o:OpR X (binaryOp .Mult) b0Q:=by
 intro pins s σ H x y v u Q I rx ry h;obtain⟨a,k,rfl,rfl,h1,h2,hz,q⟩:=h;obtain⟨t,rfl⟩:=rx;obtain⟨t',rfl⟩:=ry;have hk:k<=1000000:=by
  have:=Int.mul_le_mul_of_nonneg_right (show (1:Int)<=a.length by omega) (show 0<=k by omega);omega
 have ha:(a.length:Int)<=1000000:=by
  have:=Int.mul_le_mul_of_nonneg_left (show 1<=k by omega) (show (0:Int)<=a.length by omega);omega
 have e1:(k == 1 || a.length == 0)=false:=by simp;omega
 have ez:a.length*k.toNat<=1000000:=by
  have:((a.length*k.toNat:Nat):Int)=(a.length:Int)*k:=by rw[Int.natCast_mul,aV ∅]
  omega
 refine P.mul_str (by rw[fU,decide_eq_false_iff_not,decide_eq_false_iff_not];omega) (λ_ _=>?_) (λ_ _=>?_) ?_
 ·have:a.length<=((2:Int) ^ 63-1) / k:=(Int.le_ediv_iff_mul_le ∅).mpr ∅;omega
 ·unfold tooLong;rw[decide_eq_false_iff_not,sizeLine_eq];omega
 ·rw[if_neg ∅,if_neg (by rw[e1];decide)]
  have el:(⟨gB (λx1 x2=>x1++x2) #[] (List.replicate k.toNat a.cps)⟩:Str)=a0r a k.toNat:=a5y (by
   show (gB (λx1 x2=>x1++x2) #[] (List.replicate k.toNat a.cps)).toList=_
   rw[a1W];rfl)
  rw[el];exact⟨by rw[a4o,sizeLine_eq,Nat.mul_comm];omega,.str _,H,I.tok _,⟨_,rfl⟩,q⟩
end
end L2
end
section
namespace L2
open PySem PySem.Spec PySem.Builtin PySem.Builtin.Str PyProof.Rows
theorem a1v {α:Type}(f:α->Nat)(m:Nat):∀ l:List α,(∀ x∈l,f x<=m)->(l.map f).sum<=l.length*m
 | [],_=>by simp
 | x::l,h=>by
  have:=a1v f m l λy hy=>h y (aL _ hy)
  have:=h x aR;rw[ap,eJ,aD,iX];omega
def b1e:List V->Hp->VK->Prop:=λxs H Q=>∃ y,xs=[.str y]/\y.length<=sizeLine/\Q (.int y.length) H
theorem a6R {X:Cx}:N1 X (.builtin "len") b1e:=λpins s σ H xs us Q I r ⟨y,e,h,q⟩=>a9a pins s σ H xs us Q I r ⟨_,_,e,⟨h,rfl⟩,q⟩
end L2
end
section
namespace L2
open PySem PySem.Spec PyProof.Rows
theorem HOk.there {P:Program}{w:World}{H:Hp}{h:Heap}{a:Addr}{o:HO}(x:HOk P w H h)(e:H a=some o):∃ ob,h.get? a=some ob:=by
 have y:=x a o e;clear e;induction o with
 | lst xs=>obtain⟨_,_,_,_,e⟩:=y;exact⟨_,e⟩
 | tup xs=>obtain⟨_,_,_,o,e,_⟩:=y;exact⟨_,e⟩
 | dK kvs=>obtain⟨_,_,_,_,o,_,_,e,_⟩:=y;exact⟨_,e⟩
 | dT kvs=>obtain⟨_,_,_,_,o,_,_,e,_⟩:=y;exact⟨_,e⟩
 | set S n=>obtain⟨o,_,_,_,e,_⟩:=y;exact⟨_,e⟩
 | ins C dx fs=>obtain⟨_,_,_,e,_⟩:=y;exact⟨_,e⟩
 | own y'=>obtain⟨_,e⟩:=y;exact⟨_,e⟩
 | xd fs=>obtain⟨_,⟨_,_,_,e,_⟩,_⟩:=y;exact⟨_,e⟩
 | rng lo hi=>obtain⟨_,_,_,e⟩:=y;exact⟨_,e⟩
 | frz ob u ih=>obtain⟨e,_⟩:=y;exact⟨_,e⟩
 | tbl ps=>exact⟨_,(show h.get? a=some _ from y)⟩
 | met f y'=>exact⟨_,(show h.get? a=some _ from y)⟩
 | ext φ=>obtain⟨_,⟨_,e⟩,_⟩:=y;exact⟨_,e⟩
theorem HOk.part {P:Program}{w:World}{H:Hp}{h B:Heap}(x:HOk P w H h)(k:∀ b u,H b≠none->h.get? b=some u->B.get? b=some u):HOk P w H B:=λa o e =>
 (x a o e).stay (λb u hb q=>k b u (by rcases hb with rfl | hb;(· rw[e];simp);(· rw[hb];simp)) q) (λ_ q=>q) λ_ _ q=>q
theorem a8I {h B:Heap}{l:List Env}{b:Addr}{o:Obj}{vs:Array Value}(F:h.FunFrames B l)(e:h.get? b=some o)(d:o.data=.fields vs):b∉frs l:=λhb=>by
 obtain⟨_,o',e',d'⟩:=F.mem hb;rw[e] at e';cases e';exact d' vs d
structure Fl (P:Program)(w:World)(outer:List Env)(H:Hp)(h:Heap)(ea C:Addr)(H':Hp)(h':Heap):Prop where
 fly:∃ B a0,iM B outer ea (.ref C) a0 h'/\HOk P w H' B/\(∀ b o,h.get? b=some o->H b=none->b∉frs outer->B.get? b=some o)/\∀ b o,h.get? b=some o->b∉frs outer->∃ ob,B.get? b=some ob
 un:Un (frs outer) [] H H' h h'
 nea:H' ea=none
def CX1 (P:Program)(w:World):CXT:=λouter H s E e s'=>∃(ea C:Addr) (H':Hp),e=.ref ea/\s'.os=s.os/\AllBare s'.gens/\Fl P w outer H s.heap ea C H' s'.heap/\E (.ref C) none H'
theorem Fl.hok {P:Program}{w:World}{outer:List Env}{H H':Hp}{h h':Heap}{ea C:Addr}(x:Fl P w outer H h ea C H' h'):HOk P w H' h':=by
 obtain⟨B,a0,⟨f1,_⟩,ok,_⟩:=x.fly;exact ok.kept f1
theorem b2L {K:ae}{h:Heap}{C:Addr}{bmB:List Value}{newId:String}(X:K.In h)(q:PySem.W.excIn K C bmB newId=true) :
  ∃ bm N nm qn bs hdct sn sub ab col dd k0 k1 k2 k3 k5 mN,h.get? C=some (excClassObj nm qn C N bs bm hdct sn sub ab col dd k0 k1 k2 k3 k5 newId)/\h.Ns N mN/\mN "__init__"=none/\OwnTail h bmB bm:=by
 unfold PySem.W.excIn at q;split at q
 ·rename_i dd cd sl ho;split at q
  ·rename_i C' bm k0 k1 k2 k3 n k5 hm hs;simp only[bu,beq_iff_eq,Bool.not_eq_true'] at q;obtain⟨⟨⟨⟨⟨rfl,rfl⟩,hdel⟩,ht⟩,hok⟩,hni⟩:=q;obtain⟨nm,bs,mro,ns,qn,hd,sn,sub,ab,col,del⟩:=cd;dsimp only at hm hdel hok hni;subst hm hdel;have hsl:sl=#[k0,k1,k2,k3,some (.builtin n),k5]:=by
    obtain⟨l⟩:=sl;simp only at hs;rw[hs]
   subst hsl;exact⟨bm,ns,nm,qn,bs,hd,sn,sub,ab,col,dd,k0,k1,k2,k3,k5,_,X _ _ ho,.of_isNs (PySem.W.isNs_of_in X hok),PySem.W.nsMap_none_of_in X hok hni,PySem.W.tail_of_in X ht⟩
  ·cases q
 ·cases q
section
variable {X:Cx}{E:XK}{C:Addr}{x:Str}{bmB:List Value}{np cpos pos:Pos}
def a2c (X:Cx)(E:XK)(C:Addr):Prop:=∀(pins:List (Addr×Obj)) (σ:St) (H:Hp) (s:Shared) (ea:Addr) (h':Heap),Inv X pins σ H s->Heap.MadeExcOf s.heap h' ea (.ref C) []->E (.ref C) none H->X.xe (.ref ea) {s with heap:=h'}
def a5a (E:XK)(C:Addr):TS:=λ_ _ H=>E (.ref C) none H
theorem a7H {B newId initId:String}(FB:ExcBaseFacts B newId initId bmB)(hcalm:X.calm=true)(hg:Gl X x)(hm:X.mg x=some (.ref C))(hc:PySem.W.excIn X.K C bmB newId=true)(hp:a2c X E C)
  (hd:(x == ("__debug__":Str))=false:=by decide):PS X (.Raise (some (.Call (.Name x np) [] [] cpos)) none pos) (a5a E C):=by
 intro pins s σ H D I h;obtain⟨tl,N,nm,q,bs,hdct,sn,sub,ab,col,dd,k0,k1,k2,k3,k5,mN,hC,hN,hni,T⟩:=b2L I.kIn hc;refine wpAny_Raise_call_subT (C:=C) (nm:=nm) (q:=q) (N:=N) (bs:=bs) (bm:=tl) (hdct:=hdct) (sn:=sn) (sub:=sub) (ab:=ab) (col:=col) (dd:=dd) (k0:=k0) (k1:=k1) (k2:=k2) (k3:=k3) (k5:=k5)
  FB (mN:=mN) (T.hasType FB.hasBase) (I.ok.hd hcalm) rfl hni (a1r I hg hm ⟨rfl,?_⟩ hd)
 exact evalArgs_empty ⟨rfl,bi _,hC,hN,T,λh' e hx=>hp pins σ H s e h' I hx h⟩
end
section
variable {P:Program}{w:World}{K:ae}{mg:Str->Option Value}{base:Heap}{N:List Str}{qual:Str}{scope:Scope}{f:Addr}{cd:Value}{A:Around}{outer:List Env}{s0:Shared}{H0:Hp}{E:XK}{C:Addr}
theorem a8H {l:List Env}{env:Env}{L:Addr}(hf:env.frame=some L):frs (env::l)=L::frs l:=by
 unfold frs;rw[eU,hf]
theorem b0a:a2c (a2l (CX1 P w) P w K mg base N qual scope f cd A outer s0 H0 E) E C:=by
 intro pins σ H s ea h' I hx hE;have hst:s.heap.FunFrames base (envOfC qual scope s0.heap.objs.size f cd::outer):=I.stack;have hfr:(A.deeper (envOfC qual scope s0.heap.objs.size f cd)).frames=some (envOfC qual scope s0.heap.objs.size f cd::outer):=I.ok.frames;have hfs:frs (envOfC qual scope s0.heap.objs.size f cd::outer)=s0.heap.objs.size::frs outer:=a8H rfl;have hin:∀ env∈(envOfC qual scope s0.heap.objs.size f cd::outer),∀ b,env.frame=some b->b∈frs (envOfC qual scope s0.heap.objs.size f cd::outer):=λenv he b hb=>jx.mpr ⟨env,he,hb⟩
 have hne:∀ b o,s0.heap.get? b=some o->b∉frs outer->b∉frs (envOfC qual scope s0.heap.objs.size f cd::outer):=λb o e hb hm=>by
  rw[hfs] at hm;rcases aQ.mp hm with rfl | hm
  ·exact absurd (aF e) (cB _)
  ·exact hb hm
 have hB:=I.base;have hnf:∀ b o,s.heap.get? b=some o->b∈frs (envOfC qual scope s0.heap.objs.size f cd::outer)->∀ vs,o.data≠.fields vs:=λb o e hm=>by
  obtain⟨_,o',e',d'⟩:=hst.mem hm;rw[e] at e';cases e';exact d'
 show wpAny (model P w) (A.deeper (envOfC qual scope s0.heap.objs.size f cd)) (leaving (envOfC qual scope s0.heap.objs.size f cd) (.ref ea)) _ _ _;refine wpAny_leaves_madeW (base:=fE s.heap (frs (envOfC qual scope s0.heap.objs.size f cd::outer))) (h:=s.heap) hfr rfl (λb o q=>iJ _ q) (PySem.W.funFrames_hide hst hin) hx λh'' t fl tup nt up=>?_
 have keep:∀ b o,s0.heap.get? b=some o->H0 b=none->b∉frs outer->(fE s.heap (frs (envOfC qual scope s0.heap.objs.size f cd::outer))).get? b=some o:=λb o e n hb=>ek _ (hB.keep b o e n hb (λz=>nomatch z)) (hne b o e hb)
 have up2:∀ b o,s.heap.get? b=some o->b∈frs (envOfC qual scope s0.heap.objs.size f cd::outer)->∃ sl,h''.get? b=some {o with slots:=sl}:=λb o e hm=>up b o (hx.keeps b o e) (hnf b o e hm)
 have tH:∀ b o,s0.heap.get? b=some o->b∉frs outer->∃ ob,(fE s.heap (frs (envOfC qual scope s0.heap.objs.size f cd::outer))).get? b=some ob:=λb o e hb=>by
  obtain⟨o',e'⟩:=hB.there b o e (λz=>nomatch z);exact⟨o',ek _ e' (hne b o e hb)⟩
 refine⟨ea,C,H,rfl,I.os,I.bare,⟨⟨_,_,fl,I.hok.part λb u hb q=>ek _ q λhm=>hb (I.stkFree b hm),keep,tH⟩,⟨λb o e n hb _=>fl.1 b o (keep b o e n hb),λb o e n hb _=>?_,hB.free,λb o e _=>?_,hB.tups,hB.frzs,hB.tbls⟩,?_⟩,hE⟩
 ·obtain⟨sl,e1⟩:=hB.slot b o e n hb (λz=>nomatch z);obtain⟨sl',e2⟩:=up2 b _ e1 (by rw[hfs];exact aL _ hb);exact⟨sl',e2⟩
 ·by_cases hb:b∈frs outer
  ·obtain⟨o',e'⟩:=hB.there b o e (λz=>nomatch z);obtain⟨sl',e2⟩:=up2 b _ e' (by rw[hfs];exact aL _ hb);exact⟨_,e2⟩
  ·obtain⟨o',e'⟩:=tH b o e hb;exact⟨o',fl.1 b o' e'⟩
 ·cases q:H ea with
  | none=>rfl
  | some o =>
   obtain⟨ob,e⟩:=I.hok.there q;rw[hx.new] at e;cases e
end
end L2
end
section
namespace L2
open PySem PySem.Spec PyProof.Rows
theorem Fl.look {P:Program}{w:World}{outer:List Env}{H H':Hp}{h h':Heap}{ea C:Addr}(x:Fl P w outer H h ea C H' h'):∃ B a0,iM B outer ea (.ref C) a0 h'/\(∀ b o,h.get? b=some o->H b=none->b∉frs outer->B.get? b=some o) /\
  ∀ h'',iM B outer ea (.ref C) a0 h''->h'.UpToSlots h''->Fl P w outer H h ea C H' h'':=by
 obtain⟨B,a0,fl,ok,kp,th⟩:=x.fly;have u:=x.un;have up2:∀ {h''},h'.UpToSlots h''->∀ b o,h'.get? b=some o->b∈frs outer->∃ sl,h''.get? b=some {o with slots:=sl}:=λ{h''} up b o e hm=>by
  obtain⟨_,o',e',d'⟩:=fl.2.2.1.mem hm;rw[e] at e';cases e';exact up b o e d'
 refine⟨B,a0,fl,kp,λh'' fl' up=>⟨⟨B,a0,fl',ok,kp,th⟩,⟨λb o e n hb _=>fl'.1 b o (kp b o e n hb),λb o e n hb hx=>?_,u.free,λb o e hx=>?_,u.tups,u.frzs,u.tbls⟩,x.nea⟩⟩
 ·obtain⟨sl,e1⟩:=u.slot b o e n hb hx;obtain⟨sl2,e2⟩:=up2 up b _ e1 hb;exact⟨sl2,e2⟩
 ·by_cases hb:b∈frs outer
  ·obtain⟨o1,e1⟩:=u.there b o e hx;obtain⟨sl,e2⟩:=up2 up b _ e1 hb;exact⟨_,e2⟩
  ·obtain⟨o1,e1⟩:=th b o e hb;exact⟨o1,fl'.1 b o1 e1⟩
def b0q (ea C:Addr):HO:=.ext λh=>∃ o,h.get? ea=some o/\o.cls=.ref C
section
variable {X:Cx}{pins:List (Addr×Obj)}{σ:St}{H H':Hp}{s s':Shared}{ea C:Addr}
theorem Inv.track {o:HO}(I:Inv X pins σ H s)(hn:H ea=none)(h0:∀ ob,X.sq.heap.get? ea=some ob->X.Hz ea=none->ea∉X.ex->False)(hl:ea≠X.env.locals)(hc:∀ x c,X.env.cells.lookup x=some c->c≠ea)(hp:∀ p∈X.pn++pins,p.1≠ea)
  (new:K8 X.prog X.w (upd H ea o) s.heap ea o):Inv X pins σ (upd H ea o) s:=by
 refine⟨I.ok,I.os,I.bare,⟨I.base.keep,I.base.slot,λb ob e n hx=>?_,I.base.there,λb xs e=>?_,λb ob u e=>?_,λb ps e=>?_⟩,I.loc,I.cell,by rw[A8 hl.symm];exact I.free,λx c e=>by rw[A8 (hc x c e)];exact I.freeC x c e,λp hpp=>?_,λb u e=>?_,I.len⟩
 ·by_cases hb:b=ea
  ·subst hb;exact (h0 ob e n hx).elim
  ·rw[A8 hb];exact I.base.free b ob e n hx
 ·have:=I.base.tups b xs e;rw[A8 (B9 this hn)];exact this
 ·have:=I.base.frzs b ob u e;rw[A8 (B9 this hn)];exact this
 ·obtain⟨m,e1⟩:=I.base.tbls b ps e;exact⟨m,by rw[A8 (B9 e1 hn)];exact e1⟩
 ·obtain⟨a,b,c,d,e⟩:=I.pin p hpp;exact⟨a,by rw[A8 (hp p hpp)];exact b,c,d,e⟩
 ·by_cases hb:b=ea
  ·subst hb;rw[A2] at e;cases e;exact new
  ·rw[A8 hb] at e;exact (I.hok b u e).stay (λ_ _ _ q=>q) (λc q=>by rw[A8 (B9 q hn)];exact q) λc xs q=>by rw[A8 (B9 q hn)];exact q
theorem Inv.exc (I:Inv X pins σ H s)(hs:s'.os=s.os)(hb:AllBare s'.gens)(F:Fl X.prog X.w X.stack H s.heap ea C H' s'.heap):Inv X pins σ (upd H' ea (b0q ea C)) s':=by
 have I2:Inv X pins σ H' s':=I.call' (ch:=[]) hs F.un F.hok hb λb z=>nomatch z
 obtain⟨B,a0,fl,kp,_⟩:=F.look;obtain⟨oe,vs,he,hec,hed,_⟩:=fl.first;have nB:B.get? ea=none:=fl.2.1;have nfr:ea∉frs X.stack:=a8I fl.2.2.1 he hed;have nloc:ea≠X.env.locals:=λz=>by
  obtain⟨m,⟨o,es,ep,ho,hd,_⟩,_⟩:=I2.loc;rw[<- z,he] at ho;cases ho;rw[hed] at hd;cases hd
 refine I2.track F.nea (λob e n hx=>?_) nloc (λx c e z=>?_) (λp hp z=>?_) ⟨⟨oe,he,hec⟩,⟨oe,he⟩,λh1 h2 ⟨o,e,c⟩ k=>⟨o,k o e,c⟩⟩
 ·by_cases hf:ea∈X.fs
  ·obtain⟨sl,e1⟩:=I2.base.slot ea ob e n hf hx;obtain⟨_,o',e',d'⟩:=I2.funs.mem hf;rw[he] at e';cases e';exact d' vs hed
  ·have e1:=I.base.keep ea ob e n hf hx;have:=kp ea ob e1 (I.base.free ea ob e n hx) nfr;rw[nB] at this;cases this
 ·obtain⟨v,o,ho,hd⟩:=I2.cell x c e;rw[z,he] at ho;cases ho;rw[hed] at hd;cases hd
 ·obtain⟨e,n,ne,nf,d⟩:=I.pin p hp;have:=kp p.1 p.2 e n λhm=>(aQ.mp (I.stkSub p.1 hm)).elim ne nf
  rw[z,nB] at this;cases this
abbrev Cx.mark (X:Cx)(ea:Addr):Cx:={X with A:=X.A.mark (some (.ref ea)),calm:=false}
theorem Cx.Ok.mark (ok:X.Ok)(ea:Addr):(X.mark ea).Ok :=
 ⟨ok.mod,ok.kind,ok.glob,ok.blt,ok.above,ok.inj,ok.has,ok.cab,(λh=>by cases h),ok.frames,ok.stk,ok.exf,ok.bs,ok.bsz,ok.noex,ok.exfs,ok.funs,ok.frf⟩
theorem Cx.Ok.unmark (hok:X.Ok)(ok:(X.mark ea).Ok):X.Ok:=hok
theorem Inv.mark (I:Inv X pins σ H s)(ea:Addr):Inv (X.mark ea) pins σ H s:=⟨I.ok.mark ea,I.os,I.bare,I.base,I.loc,I.cell,I.free,I.freeC,I.pin,I.hok,I.len⟩
theorem Inv.unmark (hok:X.Ok)(I:Inv (X.mark ea) pins σ H s):Inv X pins σ H s:=⟨hok,I.os,I.bare,I.base,I.loc,I.cell,I.free,I.freeC,I.pin,I.hok,I.len⟩
theorem Inv.gone {i:Nat}{n:Str}{h':Heap}{v:Option Value}{t':Nat}{m:Str->Option Value}(I:Inv X pins σ H s)(hN:X.N.Nodup)(hi:X.N[i]?=some n)(hm:s.heap.Ns X.env.locals m)(hl:∀(j:Nat) (x:Str) (u:V),X.N[j]?=some x->σ[j]?=some (some u)->Vis X.env.scope x->∃ w,C3 u w/\b4b X.env s.heap m x w)
  (hn':h'.Ns X.env.locals (λx=>if x=n then v else m x)) (hs:dA X.env.locals s.heap h'):Inv X pins (σ.set i none) H {s with heap:=h',toks:=t'}:=by
 have hiσ:i<σ.length:=by rw[I.len];exact (au.mp hi).1
 obtain⟨oL,_,_,hoL,_⟩:=id hm;have cne:=I.cne;refine⟨I.ok,I.os,I.bare,⟨λb o e n hb hx=>?_,λb o e n hb hx=>?_,I.base.free,λb o e hx=>?_,I.base.tups,I.base.frzs,I.base.tbls⟩,⟨_,hn',λj y v' e1 e2 e3=>?_⟩,λy c e=>?_,I.free,I.freeC,λp hp=>?_,λb ob e=>?_, ~~~I.len⟩
 ·exact (hs.2 b (aY (aZ (aF e) I.ok.above))).trans (I.base.keep b o e n hb hx)
 ·obtain⟨sl,e1⟩:=I.base.slot b o e n hb hx;exact⟨sl,(hs.2 b (aY (aZ (aF e) I.ok.above))).trans e1⟩
 ·obtain⟨o',e1⟩:=I.base.there b o e hx;exact⟨o',(hs.2 b (aY (aZ (aF e) I.ok.above))).trans e1⟩
 ·by_cases hj:j=i
  ·subst hj;rw[cm hiσ] at e2;cases e2
  ·rw[cw (fb hj)] at e2;obtain⟨u',r',q⟩:=hl j y v' e1 e2 e3;refine⟨u',r',?_⟩;rcases q with ⟨k,e⟩ | ⟨k,c,e,z⟩
   ·refine .inl ⟨k,?_⟩;have:y≠n:=λe=>hj (a1J hN e1 (e ▸ hi))
    simp[this,e]
   ·exact .inr ⟨k,c,e,z.sameBut hs (cne y c e)⟩
 ·obtain⟨w',z⟩:=I.cell y c e;exact⟨w',z.sameBut hs (cne y c e)⟩
 ·obtain⟨e,n,ne,nf,d⟩:=I.pin p hp;exact⟨(hs.2 p.1 ne).trans e,n,ne,nf,d⟩
 ·refine (I.hok b ob e).stay (λc w' hc q=>(hs.2 c ?_).trans q) (λ_ q=>q) λ_ _ q=>q
  rintro rfl;have hfree:=I.free;rcases hc with rfl | hc
  ·rw[hfree] at e;cases e
  ·rw[hfree] at hc;cases hc
end
end L2
end
section
namespace L2
open PySem PySem.Spec PyProof.Rows
abbrev TSx:=T9->St->Hp->XK->Prop
abbrev TEx:=St->Hp->VK->XK->Prop
section
variable {X:Cx}
def b2T (X:Cx)(pins:List (Addr×Obj))(σ:St)(E:XK)(e:Value)(s':Shared):Prop:=∃ H1 s1,Inv X pins σ H1 s1/\CX1 X.prog X.w X.stack H1 s1 E e s'
def PSx (X:Cx)(st:Stmt)(t:TSx):Prop:=∀(pins:List (Addr×Obj)) (s:Shared) (σ:St) (H:Hp) (D:T9) (E:XK),Inv X pins σ H s->t D σ H E->wpAny (model X.prog X.w) X.A (exec st X.env) (SP X pins D) (b2T X pins σ E) s
def PEx (X:Cx)(e:Expr)(t:TEx):Prop:=∀(pins:List (Addr×Obj)) (s:Shared) (σ:St) (H:Hp) (Q:VK) (E:XK),Inv X pins σ H s->t σ H Q E->wpAny (model X.prog X.w) X.A (eval e X.env) (EP X pins σ Q) (b2T X pins σ E) s
def b0E (te:TEx):TSx:=λD σ H E=>te σ H (λ_ H1=>D.nx σ H1) E
theorem a7E {e:Expr}{te:TEx}{pos:Pos}(he:PEx X e te)(hs:swapsWith e none pos.line X.env=pure false:=by rfl):PSx X (.Expr e pos) (b0E te):=by
 intro pins s σ H D E I h;exact wpAny_Expr_any (thn (he pins s σ H _ E I h) λv s1 ⟨x,H1,I1,r1,q1⟩=>⟨σ,H1,I1,q1⟩) I.quiet hs
def a7f (K:ae)(c:Value)(i:Nat)(tb:TSx)(th:TS):TS:=λD σ H=>tb D σ H λcls _ H'=>gO K cls c=some true/\∀ ea C,cls=.ref C->H' ea=none ->
 th {nx:=fun σ' H2=>D.nx (σ'.set i none) H2,rt:=D.rt,bk:=fun σ' H2=>D.bk (σ'.set i none) H2,ct:=fun σ' H2=>D.ct (σ'.set i none) H2} (σ.set i (some (.ref ea))) (upd H' ea (b0q ea C))
theorem a7F {i:Nat}{x n:Str}{c:Value}{st b0:Stmt}{suite:List Stmt}{np hpos pos:Pos}{tb:TSx}{th:TS}(hst:X.stack=X.env::X.outer)(hfm:X.env.frame=some X.env.locals)(hN:X.N.Nodup)(hi:X.N[i]?=some n)(hlo:X.env.scope.names.lookup n=some .local)
  (hg:Gl X x) (hm:X.mg x=some c) (hb:PSx X st tb) (hth:∀ ea E,PSs ((X.mark ea).wish E) (b0::suite) th) (hdb:(x == ("__debug__":Str))=false:=by decide) :
  PS X (.Try [st] [.ExceptHandler (some (.Name x np)) (some n) (b0::suite) hpos] [] [] pos) (a7f X.K c i tb th):=by
 intro pins s σ H D I h;have hcls:(X.env.scope.kind == .class || (X.env.scope.kind == .module && X.env.locals != X.env.globals))=false:=by rw[I.ok.kind];rfl
 refine wpAny_Try_except (io (bO (hb pins s σ H D _ I h) (λf s1 q=>?_) λe s1 q=>?_))
 ·cases f with
  | next=>exact dZ (dZ q)
  | ret v=>exact q
  | brk=>exact q
  | cont=>exact q
 obtain⟨H1,s0,I1,ea,C,H',rfl,os,bare,F,hE1,hE2⟩:=q;obtain⟨B,a0,fl,kp,mv⟩:=F.look;have hfr:X.A.frames=some (X.env::X.outer):=by rw[<- hst];exact I1.ok.frames
 rw[hst] at fl;refine wpAny_looks_onW hfr hfm fl λh4 held up4=>?_
 refine wpAny_landsW held λh5 fl5 up5=>?_
 have F5:=mv h5 (by rw[hst];exact fl5) (up4.trans up5);have I5:Inv X pins σ H' {s1 with heap:=h5}:=I1.call' (ch:=[]) os F5.un F5.hok bare λb z=>nomatch z
 refine wpAny_handleBy_cons (codeAny_handlers_test (a1r (I5.mark ea) hg hm ?_ hdb)) (by intro q;cases q);obtain⟨ob,hob,hc⟩:=fl5.there;have ty:PySem.W.Looks (model X.prog X.w) h5 (typeOf (.ref ea)) (.ref C):=hc ▸ (PySem.W.Looks.ld hob).andThen .now;refine (PySem.W.exm_one I5.kIn ty hE1).here ?_;refine codeAny_handlers_suite_as ?_;refine lands_againW fl5 λh6 fl6 up6=>?_
 have F6:=mv h6 (by rw[hst];exact fl6) ((up4.trans up5).trans up6);have I6:Inv X pins σ (upd H' ea (b0q ea C)) {s1 with heap:=h6}:=I1.exc os bare F6;refine a1x (X:=X.mark ea) (I6.mark ea) hN hi (.inl hlo) (v:=.ref ea) rfl (λs7 I7=>?_) (.inr hlo);have gone:∀ {σ':St} {H2:Hp} {s8:Shared} {Q:Unit->Shared->Prop} {E:Value->Shared->Prop} {f:Flow} {E':Value->Shared->Prop},Inv ((X.mark ea).wish E') pins σ' H2 s8->(∀ s9,Inv X pins (σ'.set i none) H2 s9->Q () s9)->wpAny (model X.prog X.w) X.A (do bindName X.env n .none;unbindBehindTheSuite X.env n hpos) Q E s8:=λ{σ' H2 s8 Q E f E'} I8 k=>by
  have I8':Inv X pins σ' H2 s8:=Inv.unmark I1.ok I8.unwish;obtain⟨m,hn,hl⟩:=I8'.loc;exact wpAny_nameGoes_keeps hlo hn hcls λh9 v hn9 hs9=>k _ (I8'.gone hN hi hn hl hn9 hs9)
 refine bO (hth ea _ pins s7 _ _ _ (I7.wish _) (hE2 ea C rfl F.nea)) (λf s8 q=>?_) λe s8 q=>q
 cases f with
 | next =>
  obtain⟨σ',H2,I8,q⟩:=q;exact gone (f:=.next) I8 λs9 I9=>⟨_,H2,I9,q⟩
 | brk =>
  obtain⟨σ',H2,I8,q⟩:=q;exact gone (f:=.next) I8 λs9 I9=>⟨_,H2,I9,q⟩
 | cont =>
  obtain⟨σ',H2,I8,q⟩:=q;exact gone (f:=.next) I8 λs9 I9=>⟨_,H2,I9,q⟩
 | ret u =>
  obtain⟨v,σ',H2,I8,rv,q⟩:=q;exact gone (f:=.next) I8 λs9 I9=>⟨v,_,H2,I9,rv,q⟩
end
end L2
end
section
namespace L2
open PySem PySem.Spec PyProof.Rows PySem.W
structure a3H (K:ae)(C:Addr):Prop where
 ga:aS K (.ref C) "__getattribute__"=some (some (.builtin "BaseException.__getattribute__"))
 cl:aS K (.ref C) "__class__"=some (some (.builtin "object.__class__"))
 no:aS K (.ref C) "__getattr__"=some none
 sb:bC K C (.type "BaseException")=some true
 ob:bC K C (.type "object")=some true
 is:(cr K C).isSome=true
section
variable {prog:Program}{w:World}{A:Around}{E:Value->Shared->Prop}{h:Heap}{g:Array GenState}{d:Drawn}{t:Nat}{os:OsState}{a C:Addr}{o:Obj}{K:ae}
theorem a5t {M:Model}(hx:h.get? a=some o)(hc:o.cls=.ref C):Looks M h (typeOf (.ref a)) (.ref C):=hc ▸ (Looks.ld hx).andThen .now
open Builtin Builtin.ObjectAttr Builtin.Getset_descriptor in
theorem b0p {R:Result->Shared->Prop}{tp:Value}(X:K.In h)(Z:a3H K C)(hx:h.get? a=some o)(hc:o.cls=.ref C)(hq:R (.ok (.ret (.ref C))) ⟨h,g,d,t,os⟩) :
  codeAny (model prog w) A (.call (.builtin "getset_descriptor.__get__") ⟨[.builtin "object.__class__",.ref a,tp],[]⟩) R ⟨h,g,d,t,os⟩:=by
 have L0:Looks (model prog w) h (typeOf (.ref a)) (.ref C):=a5t hx hc;have L1:=looks_mroIn (M:=model prog w) X Z.ob;refine codeAny_call_builtin KF.slot_gs.plain KF.entry_gs (KF.slot_gs.check _ _ _ _ _ _ _ _ KF.type_class (KF.args_gs _ _ _) ?_);unfold Builtin.«getset_descriptor.__get__» descrGet;rw[dga_obj];refine af (aK ?_);unfold descrGetter descrCheckInstance descrNameAndClass isInstance;simp only[KF.owner_class];repeat lk
 refine⟨js _ (by decide +kernel),codeAny_builtin KF.entry_class ?_⟩;unfold Builtin.«object.__class__» shownTypeOf;repeat lk
 exact hq
theorem a6N {M:Model}{nameV:Value}{Q:Unit->Shared->Prop}(X:K.In h)(Z:a3H K C)(hx:h.get? a=some o)(hc:o.cls=.ref C)(hq:Q () ⟨h,g,d,t,os⟩):wpAny M A (checkBuiltinCall "BaseException.__getattribute__" ⟨[.ref a,nameV],[]⟩) Q E ⟨h,g,d,t,os⟩:=by
 have hk:builtinKind "BaseException.__getattribute__"=some .slot:=by decide +kernel
 have hsplit:splitId "BaseException.__getattribute__"=some ("BaseException", "__getattribute__"):=by decide +kernel
 have ha:=F.args_bexc_ga (.ref a) nameV;have L0:Looks M h (typeOf (.ref a)) (.ref C):=a5t hx hc;have L1:=looks_mroIn (M:=M) X Z.sb;simp only[checkBuiltinCall,hk,hsplit];refine af ?_
 ·refine (L0.andThen L1).at ?_;repeat (first | assumption | wp_step)
theorem a6L {tk:Tok}{Q:Fin->Shared->Prop}(X:K.In h)(Z:a3H K C)(hx:h.get? a=some o)(hc:o.cls=.ref C)(hq:Q (.done (.ret (.ref C))) ⟨h,g,d,t,os⟩) :
  wpAny (model prog w) A (Builtin.«object.__getattribute__» ⟨[.ref a,.str "__class__" tk],[]⟩) Q E ⟨h,g,d,t,os⟩:=by
 have hT5:(⟨h,g,d,t,os⟩:Shared).TypeIs (.builtin "object.__class__") "getset_descriptor":=jr;have f5:=jr;have f6:=F.slot_gs_get.lookup;have f7:=F.slot_gs_set.lookup;have L1:=jO (M:=model prog w) X Z.cl;repeat (any_goals (first | assumption | (with_reducible refine jX hx ?_;rw[hc]) | with_reducible refine L1.at ?_ | wp_step))
 refine b0p X Z hx hc ?_;repeat (any_goals (first | assumption | wp_step))
theorem a8K {tk:Tok}{R:Result->Shared->Prop}(X:K.In h)(Z:a3H K C)(hx:h.get? a=some o)(hc:o.cls=.ref C)(hq:R (.ok (.ret (.ref C))) ⟨h,g,d,t,os⟩) :
  codeAny (model prog w) A (.call (.builtin "BaseException.__getattribute__") ⟨[.ref a,.str "__class__" tk],[]⟩) R ⟨h,g,d,t,os⟩ :=
 codeAny_call_builtin F.excAttr_ValueError.ga.plain F.entry_bexc_ga (a6N X Z hx hc (a6L X Z hx hc hq))
theorem b2H {tk:Tok}{Q:Value->Shared->Prop}(X:K.In h)(Z:a3H K C)(hx:h.get? a=some o)(hc:o.cls=.ref C)(hq:Q (.ref C) ⟨h,g,d,t,os⟩) :
  wpAny (model prog w) A (getAttrBy (.ref a) (.str "__class__" tk) false) Q E ⟨h,g,d,t,os⟩:=by
 have f3:=F.excAttr_ValueError.ga.bind (.ref a);have hx2:(b5 "BaseException.__getattribute__" == b5 "object.__getattribute__")=false:=by decide +kernel
 have hx1:(onTheHeap (bd C) && b5 "BaseException.__getattribute__" == b5 "object.__getattribute__")=false:=by rw[hx2];rfl
 have L1:=jO (M:=model prog w) X Z.ga;have L2:=jO (M:=model prog w) X Z.no;repeat (any_goals (first | assumption | (with_reducible refine jX hx ?_;rw[hc]) | with_reducible refine L1.at ?_ | with_reducible refine L2.at ?_ | wp_step))
 refine a8K X Z hx hc ?_;repeat (any_goals (first | assumption | wp_step))
theorem a6M {Q:Option Value->Shared->Prop}(X:K.In h)(Z:a3H K C)(hx:h.get? a=some o)(hc:o.cls=.ref C)(hq:Q (some (.ref C)) ⟨h,g,d,t+1,os⟩):wpAny (model prog w) A (getAttr? (.ref a) "__class__") Q E ⟨h,g,d,t,os⟩:=by
 unfold getAttr? getAttrBy?;repeat (any_goals (first | assumption | with_reducible apply b2H X Z hx hc | wp_step))
end
def b4c (a C:Addr)(h:Heap):Prop:=∃ o,h.get? a=some o/\o.cls=.ref C
theorem a8v {K:ae}{a C:Addr}(Z:a3H K C):KitX K (.ref a) (.ref C) (b4c a C) where
 ty:=λ_ _ _ ⟨_,e,c⟩=>a5t e c
 it:=λ_ _ X _=>by
  obtain⟨cd,hc⟩:=cL.mp Z.is;unfold clsIn at hc;split at hc
  ·rename_i c' d' cd' sl' ho;intro A' Q' E' s' k q;unfold isType loadHead;exact af (wpAny_loadPart (k _ _ (X _ _ ho)) (aK q))
  ·cases hc
 ne:=λh tp dd its n sl X htp=>by
  obtain⟨cd,hc⟩:=cL.mp Z.is;refine Bool.eq_false_iff.mpr λq=>?_
  have e:C=tp:=Value.ref.inj (beq_iff_eq.mp q);subst e;unfold clsIn at hc;split at hc
  ·rename_i c' d' cd' sl' ho;have z:=(X _ _ ho).symm.trans htp;cases z
  ·cases hc
 ca:=λ{prog w A E Q s} X ⟨o,e,c⟩ k=>by
  obtain⟨h,g,d,t,os⟩:=s;exact a6M X Z e c k
section
variable {X:Cx}
inductive XTy (K:ae)(H:Hp):V->Value->Prop
 | non:XTy K H .non (.type "NoneType")
 | exc {ea C:Addr}:H ea=some (b0q ea C)->a3H K C->XTy K H (.ref ea) (.ref C)
def b3W (K:ae):List V->Hp->VK->Prop:=λxs H Q=>∃(x:V) (t:Value),XTy K H x t /\
  ((∃(c:V) (u:Value) (b:Bool),xs=[x,c]/\((∃ n,c=.ty n/\u=.type n)\/∃ D,c=.ref D/\u=.ref D/\(cr K D).isSome=true)/\kitOne K t u=some b/\Q (.bl b) H) \/
   ∃(p:Addr) (Ds:List Addr) (b:Bool),xs=[x,.ref p]/\H p=some (.tup (Ds.map V.ref))/\kitAny K t (Ds.map bd)=some b/\Q (.bl b) H)
theorem a5V:∀ {Ds:List Addr} {its:List Value},C1 (Ds.map V.ref) its->its=Ds.map bd
 | [],_,.nil=>rfl
 | D::r,_,.cons q t=>by
  rw[a5V t];have q':_=bd D:=q;rw[q'];rfl
theorem a9b:N1 X (.builtin "isinstance") (b3W X.K):=by
 intro pins s σ H xs us Q I r h;obtain⟨x,t,ty,h⟩:=h;have KX:∀ {u:Value},C3 x u->∃ P:Heap->Prop,KitX X.K u t P/\P s.heap/\u≠.builtin "__main__.__loader__#opaque":=λ{u} ru=>by
  cases ty with
  | non =>
   cases (show u=cA from ru);exact⟨_,kitx_none,trivial,λe=>by cases e⟩
  | @exc ea C e Z =>
   cases (show u=bd ea from ru);obtain⟨p,_,_⟩:=I.hok ea _ e;exact⟨_,a8v Z,p,λe=>by cases e⟩
 rcases h with ⟨c,u,b,rfl,hc,e,q⟩ | ⟨p,Ds,b,rfl,hp,e,q⟩
 ·obtain⟨ux,uc,rfl,rx,rc⟩:=a3K r;obtain⟨P,Z,hP,hne⟩:=KX rx;have:uc=u:=by
   rcases hc with ⟨n,rfl,rfl⟩ | ⟨D,rfl,rfl,_⟩
   ·exact rc
   ·exact rc
  subst this;exact kia_one Z I.kIn hP e hne λtk=>⟨.bl b,H,I.tok _,rfl,q⟩
 ·obtain⟨ux,uc,rfl,rx,rc⟩:=a3K r;obtain⟨P,Z,hP,hne⟩:=KX rx;cases (show uc=bd p from rc);obtain⟨z,its,rv,o,ho,hcl,n,hd⟩:=I.hok p _ hp;have:=a5V rv;subst this;obtain⟨oc,od,odt,osl⟩:=o;dsimp only at hcl hd;subst hcl hd;exact kia_tup Z I.kIn hP ho e hne λtk=>⟨.bl b,H,I.tok _,rfl,q⟩
theorem b2m (K:ae)(h:X.K=K:=by rfl):N1 X (.builtin "isinstance") (b3W K):=by subst h;exact a9b
end
end L2
end
section
namespace L2
open PySem PySem.Spec PyProof.Rows
theorem b3I {P:Program}{w:World}{X:Cx}:a3G (CX1 P w) X E0:=λ_ _ _ _ _ _ _ ⟨_,_,_,_,_,_,_,h⟩=>h.elim
structure U4 (K:ae)(mg:Str->Option Value)(x:Str)(C:Addr):Prop where
 m:mg x=some (.ref C)
 ex:PySem.W.excIn K C [.type "ValueError",.type "Exception",.type "BaseException",.type "object"] "ValueError.__new__"=true
 k:a3H K C
section
variable {P:Program}{w:World}{K:ae}{mg:Str->Option Value}{base:Heap}
theorem Fun.ok1 {x qual:Str}{st:Stmt}{f:Addr}{fd:FuncData}{N ps:List Str}{k:Nat}{sp:Sp}(F:Fun K x qual st f fd)(S:C0 N ps (B1 st))(len:∀ vs H Q E,sp vs H Q E->vs.length=ps.length)
  (hbody:∀(cdv:Value) (A:Around) (outer:List Env) (s:Shared) (H:Hp) (vs:List V) (Q:VK) (E:XK),Q5 k (A.deeper (envOfC qual (B1 st) s.heap.objs.size f cdv))->sp vs H Q E ->
   ∃ t,PSs (a2l (CX1 P w) P w K mg base N qual (B1 st) f cdv A outer s H E) (T3 st) t/\t {nx:=λ_ H'=>Q .non H',rt:=Q} (S8 N vs) H):C2 P w K mg base (CX1 P w) (k+1) f fd ps sp:=by
 obtain⟨oc,od,kV,doc,pm,an,cdv,ct,osl,rfl,lk,hcd⟩:=F.ex;exact b1a lk hcd S len λA outer s H vs Q E hr hsp=>hbody cdv A outer s H vs Q E hr hsp
end
theorem a9J {X:Cx}{k:Nat}{f:Addr}{fd:FuncData}{ps:List Str}{sp:Sp}{x:Str}{st:Stmt}{p pos:Pos}{e:Expr}{es:List Expr}{t:TA}(G:C2 X.prog X.w X.K X.mg X.base (CX1 X.prog X.w) k f fd ps sp)(D:Df X.K X.mg x st f fd ps)(hr:Q5 k X.A)
  (ha:PA X (e::es) t) (hg:Gl X x:=by rfl) (hdb:(x == ("__debug__":Str))=false:=by decide) (he:starEach (e::es) X.env=(false,eval e X.env)::starEach es X.env:=by rfl) (hpl:(backTo pos (starEach es X.env)).any (·.1)=false:=by rfl) :
  PE X (.Call (.Name x p) (e::es) [] pos) (a5J sp [] E0 t):=a5X G hr hg D.m D.F.kp D.b .nil b3I ha hdb he hpl
theorem a2B {P:Program}{w:World}{K:ae}{mg:Str->Option Value}{base:Heap}{N:List Str}{qual:Str}{scope:Scope}{f0:Addr}{cd:Value}{A:Around}{outer:List Env}{s0:Shared}{H0:Hp}{E:XK}{x:Str}{C:Addr}{np cpos pos:Pos}(Z:U4 K mg x C)
  (hg:Gl (a2l (CX1 P w) P w K mg base N qual scope f0 cd A outer s0 H0 E) x:=by rfl) (hd:(x == ("__debug__":Str))=false:=by decide):PS (a2l (CX1 P w) P w K mg base N qual scope f0 cd A outer s0 H0 E) (.Raise (some (.Call (.Name x np) [] [] cpos)) none pos) (a5a E C) :=
 a7H PySem.F.excBase_ValueError rfl hg Z.m Z.ex b0a hd
end L2
end
section
namespace L2
open PySem PySem.Spec PyProof.Rows PySem.W
section
variable {X:Cx}{pins:List (Addr×Obj)}{σ:St}{H:Hp}{s:Shared}
theorem a2e.upd {C:Addr}{H':Hp}(f:a2e X pins H C)(hn:H' C=none):a2e X pins H' C:=⟨hn,f.loc,f.new,f.cel,f.pin⟩
end
end L2
end
section
namespace L2
open PySem PySem.Spec PyProof.Rows PySem.W
theorem M9.cat {H:Hp}{ps qs:List (Addr×List Int)}{ts us:⋯}(h:M9 H ps ts)(h':M9 H qs us):M9 H (ps++qs) (ts++us):=⟨λx hx=>(aj.mp hx).elim (h.to x) (h'.to x),by rw[aC,aC,h.eq,h'.eq]⟩
end L2
end
section
namespace L2
open PySem PySem.Spec PyProof.Rows
def LPs (H:Hp)(l:Addr)(T:⋯):Prop:=∃ ps:List (Addr×List Int),H l=some (.lst (ps.map λx=>V.ref x.1))/\M9 H ps T
theorem LPs.nil {H:Hp}{l:Addr}:LPs (upd H l (.lst [])) l []:=⟨[],A2,⟨λx hx=>(by cases hx),rfl⟩⟩
theorem LPs.nw {H:Hp}{l p:Addr}{o:HO}{T:⋯}(h:LPs H l T)(np:H p=none):LPs (upd H p o) l T:=by
 obtain⟨ps,a,b⟩:=h;exact⟨ps,P3 a np,b.tp (Tp.nw np)⟩
theorem LPs.same {H H':Hp}{l:Addr}{T:⋯}(h:LPs H l T)(s:B2 H H'):LPs H' l T:=by
 obtain⟨ps,a,b⟩:=h;exact⟨ps,s _ _ a,b.tp s.tp⟩
end L2
end
section
namespace L2
open PySem
inductive Kd | tree | full | ring | sides | ladder
def Kd.w:Kd->Str
 | .tree=>"tree" | .full=>"full" | .ring=>"ring" | .sides=>"sides" | .ladder=>"ladder"
end L2
end
section
namespace L2
open PySem PySem.Spec PyProof.Rows
def Dok (K:ae)(H:Hp)(v:V):Prop:=∃ d,Dt K H v d/\PyData.canLay0 d=true/\PyData.depth d<=8
theorem a8O {K:ae}{H:Hp}:∀ {xs:List V},(∀ v∈xs,Dok K H v)->∃ ds,Dts K H xs ds/\PyData.canLayAll0 ds=true/\PyData.depthAll ds<=8/\(ds=[]↔xs=[])
 | [],_=>⟨[],.nil,rfl,by simp[PyData.depthAll],by simp⟩
 | x::r,h=>by
  obtain⟨d,h1,h2,h3⟩:=h x (aR ..);obtain⟨ds,k1,k2,k3,_⟩:=a8O λv hv=>h v (aL _ hv)
  refine⟨d::ds,.cons h1 k1,?_,?_,by simp⟩
  ·rw[PyData.canLayAll0,h2,k2];rfl
  ·rw[PyData.depthAll];omega
theorem b4K {K:ae}{H:Hp}{a b:Addr}{xs:List V}{neg:Bool}{Q:VK}(h1:H a=some (.lst xs))(hx:∀ v∈xs,Dok K H v)(h2:H b=some (.lst []))(q:∀ c:Bool,(c=true↔xs=[])->Q (.bl (if neg then !c else c)) H):a9B K neg (.ref a) (.ref b) H Q:=by
 obtain⟨ds,k1,k2,k3,k4⟩:=a8O hx;refine⟨.list ds,.list [],.lst (SqL.of h1) k1,.lst (SqL.of h2) .nil,?_,?_,?_⟩
 ·unfold SeqAt.shaped;rw[PyData.canLay0,PyData.depth,k2,gk,decide_eq_true_iff];omega
 ·exact W3 []
 ·refine q _ ?_;rw[<- k4];cases ds with
  | nil=>simp[PyData.eqv,PyData.eqvAll]
  | cons d r=>simp[PyData.eqv,PyData.eqvAll]
theorem b0t {K:ae}{H:Hp}{a:Addr}{l:List Int}(e:H a=some (.tup (l.map V.int))):Dok K H (.ref a):=⟨_,.tupI (SqT.of e),by rw[PyData.canLay0,U1],by rw[PyData.depth,V4];omega⟩
end L2
end
section
namespace L2
open PySem PySem.Spec PyProof.Rows
theorem Q5.u200 {k:Nat}{A:Around}(r:Q5 k A):A.units+200<cLine:=by have:=r.un;omega
mutual
inductive DA (H:Hp):V->PyData->Prop
 | sc {x:V}:isS x=true->DA H x (sD x)
 | tup {a:Addr} {xs:List V} {ds:List PyData}:H a=some (.tup xs)->DAs H xs ds->DA H (.ref a) (.tuple ds)
 | lst {a:Addr} {xs:List V} {ds:List PyData}:H a=some (.lst xs)->DAs H xs ds->DA H (.ref a) (.list ds)
 | dct {a:Addr} {kvs:List (Key×V)} {ds:List PyData}:H a=some (.dK kvs)->DAs H (kvs.map (·.2)) ds->DA H (.ref a) (.dict ((kvs.map λkv=>kD kv.1).zip ds))
inductive DAs (H:Hp):List V->List PyData->Prop
 | nil:DAs H [] []
 | cons {x:V} {d:PyData} {xs:List V} {ds:List PyData}:DA H x d->DAs H xs ds->DAs H (x::xs) (d::ds)
end
mutual
theorem DA.same {H H':Hp}(s:B2 H H'):∀ {x:V} {d:PyData},DA H x d->DA H' x d
 | _,_,.sc h=>.sc h
 | _,_,.tup e h=>.tup (s _ _ e) (DAs.same s h)
 | _,_,.lst e h=>.lst (s _ _ e) (DAs.same s h)
 | _,_,.dct e h=>.dct (s _ _ e) (DAs.same s h)
theorem DAs.same {H H':Hp}(s:B2 H H'):∀ {xs:List V} {ds:List PyData},DAs H xs ds->DAs H' xs ds
 | _,_,.nil=>.nil
 | _,_,.cons h t=>.cons (DA.same s h) (DAs.same s t)
end
theorem DAs.len {H:Hp}:∀ {xs:List V} {ds:List PyData},DAs H xs ds->xs.length=ds.length
 | _,_,.nil=>rfl
 | _,_,.cons _ t=>by rw[aD,aD,DAs.len t]
theorem a7s {H:Hp}:∀ {kvs:List (Key×V)},(∀ kv∈kvs,isS kv.2=true)->DAs H (kvs.map (·.2)) (kvs.map λkv=>sD kv.2)
 | [],_=>.nil
 | kv::r,h=>.cons (.sc (h kv (aR ..))) (a7s λx hx=>h x (aL _ hx))
theorem a6W:∀(kvs:List (Key×V)),(kvs.map λkv=>kD kv.1).zip (kvs.map λkv=>sD kv.2)=kvs.map λkv=>(kD kv.1,sD kv.2)
 | []=>rfl
 | kv::r=>by rw[ap,ap,cX,a6W r];rfl
mutual
theorem Dd.da {H:Hp}:∀ {x:V} {d:PyData},Dd H x d->DA H x d
 | _,_,.sc h=>.sc h
 | _,_,.tup e h=>.tup e (Dds.da h)
 | _,_,.lst e h=>.lst e (Dds.da h)
 | _,_,.dct (kvs:=kvs) e h=>by rw[<- a6W kvs];exact .dct e (a7s h)
 | _,_,.dc1 e h _=>.dct e (.cons (Dd.da h) .nil)
theorem Dds.da {H:Hp}:∀ {xs:List V} {ds:List PyData},Dds H xs ds->DAs H xs ds
 | _,_,.nil=>.nil
 | _,_,.cons h t=>.cons (Dd.da h) (Dds.da t)
end
section
variable {X:Cx}{pins:List (Addr×Obj)}{σ:St}{H:Hp}{s:Shared}
theorem Inv.sys (I:Inv X pins σ H s)(hK:(X.K.lookup sysModules).isSome=true):H sysModules=none:=by
 obtain⟨o,e⟩:=cL.mp hK;exact (I.bs _ _ (I.mod.kin _ _ e)).2
theorem a1T {P:Program}{w:World}{h:Heap}:∀ {es:List DictEntry} {vs:List (Key×Value)} {kvs:List (Key×V)},Pairs (J8 P w) es vs->KV kvs vs ->
  ReadsAll h (es.map (·.key)) (kvs.map λkv=>kD kv.1) []/\C1 (kvs.map (·.2)) (es.map (·.val))
 | _,_,_,.nil,.nil=>⟨.nil,.nil⟩
 | _,_,_,.cons (e:=e) hk hv t,.cons (a:=kv) r q=>by
  obtain⟨h1,h2⟩:=a1T (h:=h) t q;have a1:Reads h e.key (kD kv.1) []:=by
   have hk':=hk;rw[<- r.1] at hk';rcases M0 hk' with ⟨i,t,e1,e2⟩ | ⟨x,t,e1,e2⟩
   ·rw[e1,e2];exact .int i t
   ·rw[e1,e2];exact .str x t
  exact⟨.cons (as:=[]) (bs:=[]) a1 h1,.cons (show C3 kv.2 e.val by rw[hv];exact r.2) h2⟩
mutual
theorem Inv.readsA (I:Inv X pins σ H s):∀ {x:V} {d:PyData} {u:Value},DA H x d->C3 x u->∃ as,Reads s.heap u d as/\∀ a∈as,H a≠none
 | _,_,_,.sc h,r=>⟨[],a7v h r,λ_ z=>nomatch z⟩
 | _,_,_,.tup (a:=a) e hs,r=>by
  cases (show _=bd a from r);obtain⟨z,its,rv,o,ho,hc,n,hd⟩:=I.hok a _ e;obtain⟨as,q,hn⟩:=Inv.readsAs I hs rv;exact⟨_,.tuple ho hc hd (~~~q),hn⟩
 | _,_,_,.lst (a:=a) e hs,r=>by
  cases (show _=bd a from r);obtain⟨z,its,n,rv,ho⟩:=I.hok a _ e;obtain⟨as,q,hn⟩:=Inv.readsAs I hs rv;exact⟨_,.list ho rfl rfl (~~~q),λb hb=>(aQ.mp hb).elim (λz=>by rw[z,e];exact λh=>nomatch h) (hn b)⟩
 | _,_,_,.dct (a:=a) (kvs:=kvs) (ds:=ds) e hs,r=>by
  cases (show _=bd a from r);obtain⟨z,hd,vs,rel,o,es,ep,ho,hx,hda,hk,hp,hn⟩:=a2N I.hok e;obtain⟨h1,h2⟩:=a1T (h:=s.heap) hp rel;obtain⟨bs,q,hb⟩:=Inv.readsAs I hs h2;have hl:=hs.len;rw[aa] at hl;refine⟨_,.dict (as:=[]) (bs:=bs) ho hx.1 hda ?_ ?_,λb hb'=>?_⟩
  ·rw[gJ (by rw[aa];omega)];exact h1
  ·rw[gI (by rw[aa];omega)];exact q
  ·rcases aQ.mp hb' with z | z
   ·rw[z,e];exact λh=>nomatch h
   ·exact hb b z
theorem Inv.readsAs (I:Inv X pins σ H s):∀ {xs:List V} {ds:List PyData} {us:List Value},DAs H xs ds->C1 xs us->∃ as,ReadsAll s.heap us ds as/\∀ a∈as,H a≠none
 | _,_,_,.nil,.nil=>⟨_,.nil,λ_ z=>nomatch z⟩
 | _,_,_,.cons h t,.cons r q=>by
  obtain⟨as,h1,n1⟩:=Inv.readsA I h r;obtain⟨bs,h2,n2⟩:=Inv.readsAs I t q;exact⟨_,.cons h1 h2,λa ha=>(aj.mp ha).elim (n1 a) (n2 a)⟩
end
structure NA (k m:Nat)(d:PyData):Prop where
 sh:d.showable=true
 dp:d.depth<=k
 lv:d.leavesShort 100=true
 bk:d.bulk<=m
structure NAs (k m:Nat)(ds:List PyData):Prop where
 sh:PyData.showableAll ds=true
 dp:PyData.depthAll ds<=k
 lv:PyData.leavesShortAll 100 ds=true
 bk:PyData.bulkAll ds<=m
theorem NA.fits {k m:Nat}{d:PyData}(h:NA k m d)(hm:m<=100000):d.shown.length<=sizeLine:=by
 have h1:=iD 100 (by decide) d h.lv;have h2:=h.bk;rw[sizeLine_eq];omega
def b2N:List V->Hp->VK->Prop:=λxs H Q=>∃(x:V) (d:PyData),xs=[x]/\DA H x d/\NA 150 100000 d/\Q (.str d.shown) H
theorem a3c (hK:(X.K.lookup sysModules).isSome=true)(hg:X.A.guards=some [])(hu:X.A.units+200<cLine):N1 X (.builtin "repr") b2N:=by
 intro pins s σ H xs us Q I r h;obtain⟨x,d,rfl,hd,hn,q⟩:=h;obtain⟨u,rfl,rx⟩:=T5 r;have fin:∀ h' u tk,(∀ b o,s.heap.get? b=some o->h'.get? b=some o)->EP X pins σ Q (.str d.shown u) {s with heap:=h',toks:=tk}:=λh' u tk hk=>⟨.str d.shown,H,I.kept (t':=tk) hk,⟨u,rfl⟩,q⟩
 have fits:=hn.fits (ak _);have ref:∀ {a:Addr},x=.ref a->wpAny (model X.prog X.w) X.A (call (.builtin "repr") [u]) (EP X pins σ Q) X.xe s:=λ{a} e=>by
  subst e;cases (show u=bd a from rx);obtain⟨as,hr,hs⟩:=I.readsA hd rfl;exact PySem.repr_of_reads' hr hn.sh (λ_ hm=>hs _ hm (I.sys hK)) hg (by have:=hn.dp;omega) (λ_ _ e=>e) fin fits
 cases hd with
 | sc hs =>
  cases x with
  | non=>cases (show u=cA from rx);exact PySem.P.repr_of_none (fin s.heap _ _ λ_ _ e=>e)
  | bl b =>
   cases (show u=aU b from rx);refine PySem.P.repr_of_bool ?_;have:=fin s.heap s.toks (s.toks+1) λ_ _ e=>e
   rw[show (sD (.bl b)).shown=(if b then "True" else "False":Str) from by show (PyData.bool b).shown=_;rw[PyData.shown_bool]] at this;cases b<;>exact this
  | int i =>
   obtain⟨t,rfl⟩:=(show ∃ t,u=cu i t from rx)
   have hsh:=hn.sh;refine PySem.P.repr_of_int (by have h:=hsh;rw[show sD (.int i)=cz i from rfl,PyData.showable] at h;exact of_decide_eq_true h) ?_;have:=fin s.heap s.toks (s.toks+1) λ_ _ e=>e
   rw[show (sD (.int i)).shown=((toString i:String):Str) from PyData.shown_int i] at this;exact this
  | str y =>
   obtain⟨t,rfl⟩:=(show ∃ t,u=fL y t from rx)
   have e:(sD (.str y)).shown=reprText y:=PyData.shown_str y;rw[e] at fits;refine PySem.P.repr_of_str ?_ fits;have:=fin s.heap s.toks (s.toks+1) λ_ _ e=>e
   rw[e] at this;exact this
  | _=>cases hs
 | tup _ _=>exact ref rfl
 | lst _ _=>exact ref rfl
 | dct _ _=>exact ref rfl
end
section
variable {k m:Nat}{d:PyData}{ds:List PyData}{H:Hp}
theorem NA.mono {k' m':Nat}(h:NA k m d)(hk:k<=k')(hm:m<=m'):NA k' m' d:=⟨h.sh,aM h.dp hk,h.lv,aM h.bk hm⟩
theorem Nc.na {c:Nat}(h:Nc c k m d):NA k m d:=⟨h.sh,h.dp,h.lv,h.bk⟩
theorem NAs.nil:NAs k m []:=⟨by rw[PyData.showableAll],by rw[PyData.depthAll];exact bi _,by rw[PyData.leavesShortAll],by rw[PyData.bulkAll];exact bi _⟩
theorem NAs.cons {m':Nat}(h:NA k m d)(t:NAs k m' ds):NAs k (m+1+m') (d::ds):=by
 refine⟨?_,?_,?_,?_⟩
 ·rw[PyData.showableAll,h.sh,t.sh];rfl
 ·rw[PyData.depthAll];exact iu.mpr ⟨h.dp,t.dp⟩
 ·rw[PyData.leavesShortAll,h.lv,t.lv];rfl
 ·rw[PyData.bulkAll];have:=h.bk;have:=t.bk;omega
theorem NA.tup (h:NAs k m ds):NA (k+1) m (.tuple ds):=by
 refine⟨?_,?_,?_,?_⟩
 ·rw[PyData.showable];exact h.sh
 ·rw[PyData.depth];have:=h.dp;omega
 ·rw[PyData.leavesShort];exact h.lv
 ·rw[PyData.bulk];exact h.bk
theorem NA.lst (h:NAs k m ds):NA (k+1) m (.list ds):=by
 refine⟨?_,?_,?_,?_⟩
 ·rw[PyData.showable];exact h.sh
 ·rw[PyData.depth];have:=h.dp;omega
 ·rw[PyData.leavesShort];exact h.lv
 ·rw[PyData.bulk];exact h.bk
theorem DA.pl {v:V}{d:PyData}(h:DA H v d):∃ T,Pl H v T:=by
 cases h with
 | sc hs =>
  cases v with
  | non=>exact⟨_,.non⟩
  | bl b=>exact⟨_,.bl b⟩
  | int i=>exact⟨_,.int i⟩
  | str x=>exact⟨_,.str x⟩
  | _=>cases hs
 | tup e _=>exact⟨_,.tup e⟩
 | lst e _=>exact⟨_,.lst e⟩
 | dct e _=>exact⟨_,.dK e⟩
theorem NAs.mem:∀ {ds:List PyData},NAs k m ds->∀ d∈ds,NA k m d
 | d::r,h,x,hx=>by
  have h1:=h.sh;have h2:=h.dp;have h3:=h.lv;have h4:=h.bk;rw[PyData.showableAll,bu] at h1;rw[PyData.depthAll] at h2;rw[PyData.leavesShortAll,bu] at h3;rw[PyData.bulkAll] at h4;rcases aQ.mp hx with rfl | hx
  ·exact⟨h1.1,∅,h3.1,∅⟩
  ·exact NAs.mem ⟨h1.2,∅,h3.2,∅⟩ x hx
end
end L2
end
section
namespace L2
open PySem PySem.Spec PySem.Builtin PySem.Builtin.Str PyProof.Rows
theorem a8k {m:Nat}(hm:m<=100)(w:Str):nOf m w=.non\/∃ i:Nat,i<m/\w=tS i/\nOf m w=.int i:=by
 unfold nOf;cases h:R7 (nKv m) (.inr w) with
 | none=>exact .inl rfl
 | some v =>
  obtain⟨i,hi,e,rfl⟩:=(a6c hm).mp h;exact .inr ⟨i,hi,e,rfl⟩
theorem split_le {a b w:Str}(h:w∈Txt.split a b):w.length<=a.length:=by
 unfold Txt.split at h;split at h
 ·cases ag.mp h;exact ak _
 ·split at h
  ·cases ag.mp h;exact ak _
  ·obtain⟨p,_,rfl⟩:=bx.mp h;exact le_strSub _ _ _
end L2
end
section
namespace L2
open PySem PySem.Spec PyProof.Rows PySem.SeqAt HT
open PySem.AutoSeq1 (wpAny_loadPart')
open PySem.MeetsSeq PySem.MeetsSeq2 PySem.MeetsSeq3
def Q2 (l m:List Int):Bool:=!HT.lexLt m l
theorem a1R:Q2 [] []=true:=rfl
theorem a1j (y:Int)(ys:List Int):Q2 [] (y::ys)=true:=rfl
theorem a1k (x:Int)(xs:List Int):Q2 (x::xs) []=false:=rfl
theorem a4F (x y:Int)(xs ys:List Int):Q2 (x::xs) (y::ys)=if x=y then Q2 xs ys else decide (x<=y):=by
 unfold Q2;rw[HT.lexLt_cons];by_cases h:x=y
 ·rw[if_pos h,if_pos h.symm]
 ·rw[if_neg h,if_neg (λe=>h e.symm)];by_cases h2:y<x
  ·rw[decide_eq_true h2,decide_eq_false ∅];rfl
  ·rw[decide_eq_false h2,decide_eq_true ∅];rfl
theorem a7A (A:Around)(s:Shared)(a:Int)(t:Tok)(c:Int)(u:Tok)(prog:Program)(w:World)(E:Value->Shared->Prop)(Q:Value->Shared->Prop)(h:Q (.bool (decide (a<=c))) s) :
  wpAny (model prog w) A (richCompare .LtE (.int a t) (.int c u)) Q E s :=
 (PyProof.Rows.le_int h:wpAny (model prog w) A (compareOp .LtE (.int a t) (.int c u)) Q E s)
theorem a2f (l b:Addr)(items items2:Array Value)(n n2:Nat)(dd dd2:Option Addr)(sl sl2:Array (Option Value))(ns ms:List Int)(hi:IntsAre items.toList ns)(hj:IntsAre items2.toList ms) :
  Meets (Builtin.«tuple.__le__» ⟨[.ref l,.ref b],[]⟩)
   (λ_ R s=>s.heap.get? l=some {cls:=.type "tuple",dict:=dd,data:=.seq items n,slots:=sl}/\s.heap.get? b=some {cls:=.type "tuple",dict:=dd2,data:=.seq items2 n2,slots:=sl2} /\
    R (.ok (.ret (.bool (Q2 ns ms)))) s) :=
 .of_wp λprog w A R s h=>by
  obtain⟨hp,g,d,tk,os⟩:=s;obtain⟨hl,hb,h⟩:=h;have f2:=gT;have z1:items.size=ns.length:=by rw[<- hi.length];simp
  have z2:items2.size=ms.length:=by rw[<- hj.length];simp
  wp_walk using gf hl,gf hb,wpAny_forIn_list _ (λW4 b s'=>b.1=none/\s'=⟨hp,g,d,tk,os⟩/\∃(vs ws:List Value) (ns' ms':List Int),W4=vs.zip ws /\
   IntsAre vs ns'/\IntsAre ws ms'/\ns'.length+items2.size=ms'.length+items.size/\R (.ok (.ret (.bool (Q2 ns' ms')))) ⟨hp,g,d,tk,os⟩) _
  case turn =>
   rintro⟨y,x⟩ W4 b s' ⟨hb',rfl,vs,ws,ns',ms',hz,hvi,hwi,hlen,hR⟩;cases hvi with
   | nil=>rw[jD] at hz;cases hz
   | cons a t hvi' =>
    cases hwi with
    | nil=>rw[jw] at hz;cases hz
    | cons c u hwi' =>
     rw[cX] at hz;injection hz with hyx hrest
     injection hyx with hy hx
     subst hy hx;rw[a4F] at hR;simp only[aD] at hlen;obtain⟨e,he,hiff⟩:=eqAt_int A.in1 ⟨hp,g,d,tk,os⟩ a t c u;refine af (he prog w _ _ ?_);cases e with
     | true =>
      rw[if_pos (hiff.mp rfl)] at hR
      wp_walk
      exact⟨rfl,rfl,_,_,_,_,hrest,hvi',hwi',∅,hR⟩
     | false =>
      rw[if_neg (λq=>absurd (hiff.mpr q) aN)] at hR;have hri:=a7A A.in1 ⟨hp,g,d,tk,os⟩ a t c u prog w
      wp_walk using hri
      exact⟨_,rfl, ~~~hR⟩
  case fin =>
   rintro⟨b1,b2⟩ s' ⟨hb',rfl,vs,ws,ns',ms',hz,hvi,hwi,hlen,hR⟩;simp only at hb';subst hb';have hv:Q2 ns' ms'=decide (items.size<=items2.size):=by
    cases hvi with
    | nil =>
     cases hwi with
     | nil =>
      simp only[bF] at hlen;rw[a1R];exact (decide_eq_true ∅).symm
     | cons c u hw =>
      simp only[bF,aD] at hlen;rw[a1j];exact (decide_eq_true ∅).symm
    | cons a t hv =>
     cases hwi with
     | nil =>
      simp only[bF,aD] at hlen;rw[a1k];exact (decide_eq_false ∅).symm
     | cons c u hw =>
      rw[cX] at hz;cases hz
   rw[hv] at hR
   wp_walk
   exact⟨_,rfl,by simpa [Builtin.Tuple.tupleCompareSizes] using hR⟩
  case h =>
   exact⟨rfl,rfl,items.toList,items2.toList,ns,ms,rfl,hi,hj,∅,h⟩
section
variable {prog:Program}{w:World}{A:Around}{E:Value->Shared->Prop}{s:Shared}
theorem a5o {l b:Addr}{items items2:Array Value}{ns ms:List Int}{Q:Value->Shared->Prop}(hl:IsTup s.heap l items)(hb:IsTup s.heap b items2)(hi:IntsAre items.toList ns)(hj:IntsAre items2.toList ms)
  (hu:A.units<cLine) (h:Q (.bool (Q2 ns ms)) s):wpAny (model prog w) A (compareOp .LtE (.ref l) (.ref b)) Q E s:=by
 obtain⟨⟨cls,dd,data,sl⟩,ho,hc,n,hd⟩:=id hl;obtain⟨⟨cls2,dd2,data2,sl2⟩,ho2,hc2,n2,hd2⟩:=id hb;simp only at hc hd hc2 hd2;subst hc hd hc2 hd2;exact richCompare_meets_room (op:=.LtE) ⟨_,ho,rfl⟩ ⟨_,ho2,rfl⟩ PySem.F.slot_tuple_le PySem.F.entry_tuple_le (PySem.F.args_tuple_le_2 _ _) (a2f l b items items2 n n2 dd dd2 sl sl2 ns ms hi hj)
  ⟨ho,ho2,show aU (Q2 ns ms)≠iL/\Q (.bool (Q2 ns ms)) s from ⟨(λx=>nomatch x),h⟩⟩ hu
end
section
variable {X:Cx}
def b3D (K:ae):R2:=λx y H Q=>∃ a b ns ms,x=.ref a/\y=.ref b/\SqT K H a (ns.map V.int)/\SqT K H b (ms.map V.int)/\Q (.bl (Q2 ns ms)) H
theorem b1X (hu:X.A.units<cLine):OpR X (compareOp .LtE) (b3D X.K):=by
 intro pins s σ H x y v u Q I rx ry h;obtain⟨a,b,ns,ms,rfl,rfl,ha,hb,q⟩:=h;cases rx;cases ry;obtain⟨its,r1,p1,_⟩:=I.tuple ha;obtain⟨its2,r2,p2,_⟩:=I.tuple hb;have i1:IntsAre its.toArray.toList ns:=Q8 r1;have i2:IntsAre its2.toArray.toList ms:=Q8 r2;exact a5o p1 p2 i1 i2 hu ⟨.bl (Q2 ns ms),H,I,rfl,q⟩
theorem b4C (K:ae)(hu:X.A.units<cLine)(h:X.K=K:=by rfl):OpR X (compareOp .LtE) (b3D K):=by subst h;exact b1X hu
end
end L2
end
section
namespace L2
open PySem PySem.Spec PySem.Builtin PySem.Builtin.Str PyProof.Rows
structure Gn (m k:Nat)(x:Str):Prop where
 len:x.length<=m
 asc:∀ c∈cs x,c<128
 nl:(cs x).count 10<=k
def gnB (m k:Nat)(x:Str):Bool:=decide (x.length<=m) && ((cs x).all λc=>decide (c<128)) && decide ((cs x).count 10<=k)
theorem E9 {m k:Nat}{x:Str}(h:gnB m k x=true):Gn m k x:=by
 unfold gnB at h;simp only[bu,decide_eq_true_eq,bI] at h;exact⟨h.1.1,h.1.2,h.2⟩
theorem b0c (a b:Str):(a++b).length=a.length+b.length:=by rw[<- S1,X4,aq,S1,S1]
theorem Gn.mono {m k m' k':Nat}{x:Str}(h:Gn m k x)(hm:m<=m')(hk:k<=k'):Gn m' k' x:=⟨aM h.len hm,h.asc,aM h.nl hk⟩
theorem Gn.add {m k m' k':Nat}{x y:Str}(h:Gn m k x)(h':Gn m' k' y):Gn (m+m') (k+k') (x++y) :=
 ⟨by rw[b0c];exact b8 h.len h'.len,λc hc=>by rw[X4] at hc;exact (aj.mp hc).elim (h.asc c) (h'.asc c),by rw[X4,fu];exact b8 h.nl h'.nl⟩
theorem Gn.cut {m k:Nat}{x:Str}{lo hi:Option Int}(h:Gn m k x):Gn m k (a5x x lo hi) :=
 ⟨aM (a6q x lo hi) h.len,λc hc=>h.asc c ((a3w x lo hi).subset hc),aM (b0x x lo hi 10) h.nl⟩
theorem Gn.rep {m k n:Nat}{x:Str}(h:Gn m k x):Gn (n*m) (n*k) (a0r x n):=by
 refine⟨?_,λc hc=>?_,?_⟩
 ·rw[a4o];exact ju n h.len
 ·have hc:c∈(List.replicate n (cs x)).flatten:=hc;obtain⟨l,hl,hc⟩:=jR.mp hc;rw[(List.mem_replicate.mp hl).2] at hc;exact h.asc c hc
 ·rw[a7y];exact ju n h.nl
theorem a2K {n:Int}(h0:0<=n)(h1:n<100):Gn 2 0 (tS n):=by
 have h:(dE 100).all (λi=>gnB 2 0 (tS (i:Int)))=true:=by decide +kernel
 have:=bI.mp h n.toNat (bQ.mpr ∅);rw[aV h0] at this;exact E9 this
theorem a8w (ys:List Str):cs (jA (Str.ofString "") ys)=(ys.map cs).flatten:=by
 have go:∀(ys:List Str) (a:Array Nat),(ys.foldl (λacc p=>acc++(Str.ofString "").cps++p.cps) a).toList=a.toList++(ys.map cs).flatten:=λys=>by
  induction ys with
  | nil=>intro a;simp
  | cons y ys ih =>
   intro a;rw[df,ih,bh,bh,show (Str.ofString "").cps.toList=[] by decide +kernel];simp[cs]
 cases ys with
 | nil=>rfl
 | cons y ys=>exact go ys y.cps
structure LnR (n q:Nat)(us:List Str):Prop where
 num:us.length<=n
 sum:(us.map (·.length)).sum<=q
 each:∀ u∈us,(∀ c∈cs u,c<128)/\(cs u).count 10=0
theorem LnR.mono {n q n' q':Nat}{us:List Str}(h:LnR n q us)(hn:n<=n')(hq:q<=q'):LnR n' q' us:=⟨aM h.num hn,aM h.sum hq,h.each⟩
theorem LnR.app {n q n' q':Nat}{us vs:List Str}(h:LnR n q us)(h':LnR n' q' vs):LnR (n+n') (q+q') (us++vs) :=
 ⟨by rw[aq];exact b8 h.num h'.num,by rw[aC,jf];exact b8 h.sum h'.sum,λu hu=>(aj.mp hu).elim (h.each u) (h'.each u)⟩
theorem LnR.cut {n q:Nat}{us:List Str}(h:LnR n q us)(a b:Nat):LnR n q ((us.drop a).take b):=by
 have h1:=congrArg (λx=>(x.map λs:Str=>s.length).sum) (bq b (us.drop a));have h2:=congrArg (λx=>(x.map λs:Str=>s.length).sum) (bq a us);simp only[aC,jf] at h1 h2;refine⟨?_,aM ?_ h.sum,λu hu=>h.each u (i6 (fS hu))⟩
 ·rw[aT,dy];exact aM (Nat.min_le_right _ _) (aM (Nat.sub_le _ _) h.num)
 ·omega
theorem LnR.one {m:Nat}{x:Str}(h:Gn m 0 x):LnR 1 m [x]:=⟨ak _,h.len,λu hu=>by rw[ag.mp hu];exact⟨h.asc,Nat.le_zero.mp h.nl⟩⟩
theorem LnR.text {n q:Nat}{us:List Str}(h:LnR n q us):Gn (q+n) n (jA (Str.ofString "") (us.map λu=>u++Str.ofString "\n")):=by
 have e10:cs (Str.ofString "\n")=[10]:=by decide +kernel
 have ec:cs (jA (Str.ofString "") (us.map λu=>u++Str.ofString "\n"))=(us.map λu=>cs u++[10]).flatten:=by
  rw[a8w,bU];congr 1;exact eR λu _=>by show cs (u++_)=_;rw[X4,e10]
 refine⟨?_,λc hc=>?_,?_⟩
 ·rw[<- S1,ec,jg,bU];have e:(us.map (cQ ∘ λu=>cs u++[10])).sum=(us.map (·.length)).sum+us.length:=by
   clear h ec;induction us with
   | nil=>rfl
   | cons u r ih=>rw[ap,eJ,ih,ap,eJ,aD];show (cs u++[10]).length+_=_;rw[aq,S1];show u.length+1+_=_;omega
  have:=h.sum;have:=h.num;omega
 ·rw[ec] at hc;obtain⟨l,hl,hc⟩:=jR.mp hc;obtain⟨u,hu,rfl⟩:=bx.mp hl;rcases aj.mp hc with hc | hc
  ·exact (h.each u hu).1 c hc
  ·rw[ag.mp hc];decide
 ·rw[ec,jz,bU];have e:(us.map ((List.count 10) ∘ λu=>cs u++[10])).sum=us.length:=by
   have he:=h.each;clear h ec;induction us with
   | nil=>rfl
   | cons u r ih =>
    rw[ap,eJ,ih λv hv=>he v (aL _ hv),aD];show (cs u++[10]).count 10+_=_;rw[fu,(he u aR).2];show 0+1+_=_;omega
  rw[e];exact h.num
theorem a4E {m k:Nat}{x:Str}(h:Gn m k x):LnR (k+1) m (Txt.split x (Str.ofString "\n"))/\(Txt.split x (Str.ofString "\n")).length=(cs x).count 10+1:=by
 have hn:Str.ofString "\n"=sT [10]:=by decide +kernel
 have e:=U9 10 (Txt.split x (sT [10]));rw[fX x _] at e;have hc:=a2t x 10;rw[hn];refine⟨⟨by rw[hc];exact gU h.nl,?_,λu hu=>⟨λc hc=>?_,?_⟩⟩,hc⟩
 ·have hl:((cs x).length)=(jn 10 ((Txt.split x (sT [10])).map cs)).length:=by rw[e]
  have go:∀ ps:List (List Nat),(ps.map cQ).sum<=(jn 10 ps).length:=λps=>by
   induction ps with
   | nil=>exact ak _
   | cons p r ih =>
    cases r with
    | nil=>simp[jn]
    | cons q r=>rw[jn,aq,aD,ap,eJ];omega
  have g:=go ((Txt.split x (sT [10])).map cs);rw[bU] at g;have e2:(cQ ∘ cs)=λs:Str=>s.length:=funext S1
  rw[e2,<- hl,S1] at g;exact aM g h.len
 ·refine h.asc c ?_;rw[e];have go:∀ ps:List (List Nat),∀ p∈ps,c∈p->c∈jn 10 ps:=λps=>by
   induction ps with
   | nil=>intro p hp;cases hp
   | cons p r ih =>
    cases r with
    | nil=>intro y hy hc;rw[ag.mp hy] at hc;exact hc
    | cons q r =>
     intro y hy hc;rw[jn];rcases aQ.mp hy with rfl | hy
     ·exact fT _ hc
     ·exact bj _ (aL _ (ih y hy hc))
  exact go _ (cs u) (cP hu) hc
 ·have hf:=fW x 10 u hu;exact List.count_eq_zero.mpr hf
end L2
end
section
namespace L2
open PySem PySem.Spec PyProof.Rows
structure FnV (P:Program)(w:World)(K:ae)(mg:Str->Option Value)(base:Heap)(CX:CXT)(k:Nat)(f:Addr)(sp:Sp):Prop where
 h:∃(fd:FuncData) (ps:List Str) (x:Str) (st:Stmt),C2 P w K mg base CX k f fd ps sp/\Df K mg x st f fd ps
theorem FnV.of {P:Program}{w:World}{K:ae}{mg:Str->Option Value}{base:Heap}{CX:CXT}{k j:Nat}{f:Addr}{fd:FuncData}{ps:List Str}{x:Str}{st:Stmt}{sp sp':Sp}(G:C2 P w K mg base CX k f fd ps sp)(D:Df K mg x st f fd ps)
  (hk:k<=j) (h:∀ vs H Q E,sp' vs H Q E->sp vs H Q E):FnV P w K mg base CX j f sp':=⟨_,_,_,_,(G.mono hk).imp h,D⟩
section
variable {X:Cx}
def a6X (P:Program)(w:World)(K:ae)(mg:Str->Option Value)(base:Heap)(k i:Nat)(t:TA):TEx:=fun σ H Q E=>∃(f:Addr) (sp:Sp),σ[i]?=some (some (.ref f))/\FnV P w K mg base (CX1 P w) k f sp/\t σ H λvs H1=>sp vs H1 Q E
theorem a6t {P:Program}{w:World}{K:ae}{mg:Str->Option Value}{base:Heap}{k ix:Nat}{x:Str}{p pos:Pos}{e:Expr}{es:List Expr}{t:TA}(hr:Q5 k X.A)(hN:X.N[ix]?=some x)(hl:X.env.scope.names.lookup x=some .local)
  (ha:∀ E,PA (X.wish E) (e::es) t) (hd:(x == ("__debug__":Str))=false:=by decide) (he:starEach (e::es) X.env=(false,eval e X.env)::starEach es X.env:=by rfl) (hpl:(backTo pos (starEach es X.env)).any (·.1)=false:=by rfl) (hP:X.prog=P:=by rfl) (hw:X.w=w:=by rfl) (hK:X.K=K:=by rfl) (hm:X.mg=mg:=by rfl) (hB:X.base=base:=by rfl) :
  PEx X (.Call (.Name x p) (e::es) [] pos) (a6X P w K mg base k ix t):=by
 subst hP hw hK hm hB;intro pins s σ H Q E I ⟨f,sp,ev,V,h⟩;obtain⟨fd,ps,y,st,G,D⟩:=V.h;obtain⟨m,hn,hlk⟩:=I.loc;obtain⟨u,r,l⟩:=hlk ix x _ hN ev (.inl hl);obtain rfl:u=bd f:=r;rcases l with ⟨hk,hm⟩ | ⟨hk,_⟩
 ·refine dh (jb (jT I.ok.kind hk hn hm ?_) hd);refine iK (h₀:=X.base) I.ok.mod.kin D.F.kp (thn (ha (b2T X pins σ E) pos pins s σ H _ (I.wish _) h) λus s1 ⟨vs,H1,I1,r,q⟩=>⟨I1.unwish.kIn,?_⟩) he hpl;have I2:=I1.unwish;have hl:us.length=ps.length:=by rw[<- r.length];exact G.len _ _ _ _ q
  have hb:=D.b s1 us I2.kIn (by rw[ck];exact hl);rw[ck] at hb;refine wpAny_call (codeAny_mono (G.run X.A X.stack s1 H1 ⟨us,[]⟩ us vs Q E hr I2.env0 hb r q) λr s' hq=>?_);cases r with
  | error e=>exact⟨H1,s1,I2,hq⟩
  | ok fl =>
   cases fl with
   | ret u=>exact I2.after hq
   | next=>exact cD hq
   | brk=>exact cD hq
   | cont=>exact cD hq
 ·have hl:X.env.kindOf x=some .local:=hl;rcases hk with hk | hk<;>(rw[hl] at hk;cases hk)
end
end L2
end
section
namespace L2
open PySem PySem.Spec PyProof.Rows
section
variable {prog:Program}{w:World}{A:Around}{E:Value->Shared->Prop}
theorem a2M {it l:Addr}{items:Array Value}(hne:l≠it):∀(n i:Nat) (s:Shared) (Q:List Value->Shared->Prop),s.heap.IsListIter it l i->s.heap.IsList l items->i+n<=items.size ->
  (∀ h',h'.IsListIter it l (i+n)->dA it s.heap h'->Q ((items.toList.drop i).take n) {s with heap:=h'})->wpAny (model prog w) A (draw (.ref it) n) Q E s
 | 0,i,s,Q,hi,hl,hz,q=>aK (by rw[cI] at q;exact q s.heap hi ⟨rfl,λ_ _=>rfl⟩)
 | n+1,i,s,Q,hi,hl,hz,q=>by
  have hx:items[i]?=some (items[i]'∅):=bJ ∅;show wpAny _ _ (pyNext (.ref it) >>= _) _ _ _;refine af (fV hi hl hx λh1 hi1 sb=>?_);refine af (ce (a2M (items:=items) hne n (i+1) _ _ hi1 ?_ ∅ λh2 hi2 sb2=>aK ?_))
  ·obtain⟨o,ho,r⟩:=hl;exact⟨o,(sb.2 l hne).trans ho,r⟩
  ·have e:(items.toList.drop i).take (n+1)=items[i]'∅::(items.toList.drop (i+1)).take n:=by
    rw[dt (by rw[bz];omega),je,Array.getElem_toList]
   rw[<- e];refine q h2 (by rw[show i+(n+1)=i+1+n by omega];exact hi2) ⟨sb2.1.trans sb.1,λb hb=>(sb2.2 b hb).trans (sb.2 b hb)⟩
theorem a4W {I l:Addr}{items:Array Value}{i0:Nat}(hne:l≠I)(hh:A.handled=none)(h0:i0<=items.size) :
  WalksS prog w A I [I,l] [I] (λa b=>a=b) (items.size-i0) (λj v=>items[i0+j]?=some v) (λj s=>s.heap.IsListIter I l (i0+j)/\s.heap.IsList l items):=by
 have keep:∀ {h h':Heap},dA I h h'->h.IsList l items->h'.IsList l items:=λsb ⟨o,ho,r⟩=>⟨o,(sb.2 l hne).trans ho,r⟩
 refine⟨λb hb=>by rw[ag.mp hb];exact aR,λ_=>rfl,λ_ _ _ h h'=>h.trans h',?_,?_,?_,?_⟩
 ·rintro i s h' tk ⟨⟨o,ho,r⟩,⟨o2,ho2,r2⟩⟩ _ hk;exact⟨⟨o,hk I (by simp) o ho,r⟩,⟨o2,hk l (by simp) o2 ho2,r2⟩⟩
 ·rintro i s Q E hi ⟨h1,h2⟩ q;have hx:items[i0+i]?=some (items[i0+i]'∅):=bJ ∅;refine fV h1 h2 hx λh' hi' sb=>q _ _ hx ⟨hi',keep sb h2⟩ ⟨λb o hb e=>(sb.2 b (λe'=>hb (by rw[e'];simp))).trans e,rfl,rfl,rfl,ak _⟩
 ·rintro s Q E ⟨h1,h2⟩ q;refine jI hh h1 h2 (b7 ∅) λh' eb=>q _ ⟨λb o hb e=>eb b o (λe'=>hb (by rw[e'];simp)) e,rfl,rfl,rfl,ak _⟩
 ·rintro i s Q E ⟨h1,h2⟩ q;exact jJ h1 q
theorem a3M {s:Shared}{l:Addr}{items:Array Value}{n i:Nat}{Q:List Value->Shared->Prop}(hl:s.heap.IsList l items)(hh:A.handled=none)(hi:i<n)(hn:n<=items.size+1)(hz:items.size<=sizeLine)
  (h:∀(h':Heap) (tk:Nat),(∀ b o,s.heap.get? b=some o->h'.get? b=some o)->s.toks<=tk->Q (items.toList.take i++[.ref h'.objs.size]++items.toList.drop (items.size-(n-1-i))) {s with heap:=h'.push {cls:=.type "list",data:=.seq ((items.toList.drop i).take (items.size-(n-1))).toArray},toks:=tk}) :
  wpAny (model prog w) A (unpackItems (.ref l) n (some i)) Q E s:=by
 obtain⟨o,ho,r⟩:=id hl;have hlt:l≠s.heap.objs.size:=aY (aF ho);unfold unpackItems notIterableAtAll;refine af (af (iA hl.typeIs F.slot_list_iter.lookup (show wpAny _ _ (pure false) _ _ _ from aK ?_)));show wpAny (model prog w) A (holding [.ref l] (pyIter (.ref l)) >>= _) _ _ _;refine af (ce (jW hl ?_));have hl1:(s.heap.push {cls:=.type "list_iterator",data:=.fields #[.ref l,.int 0 0]}).IsList l items:=⟨o,ao _ ho,r⟩
 have hit:(s.heap.push {cls:=.type "list_iterator",data:=.fields #[.ref l,.int 0 0]}).IsListIter s.heap.objs.size l 0:=⟨_,aO _ rfl,rfl,rfl⟩
 show wpAny (model prog w) A (holding [.ref s.heap.objs.size] (draw (.ref s.heap.objs.size) i) >>= _) _ _ _;refine af (ce (a2M hlt i 0 _ _ hit hl1 ∅ λh1 hi1 sb1=>?_));have ef:((items.toList.drop 0).take i).length=i:=by rw[dr,aT,bz];omega
 rw[dI] at hi1;dsimp only;rw[if_neg (by rw[ef];omega)];have hl2:h1.IsList l items:=by
  obtain⟨o1,ho1,r1⟩:=hl1;exact⟨o1,(sb1.2 l hlt).trans ho1,r1⟩
 have hI1:s.heap.objs.size<h1.objs.size:=by
  obtain⟨o1,ho1,_⟩:=hi1;exact aF ho1
 have hL1:l<h1.objs.size:=dJ (aF ho) hI1;refine af (ce (wpAny_collect_iter (.inr (.inr (.inl rfl))) (a4W hlt (by exact hh) (i0:=i) ∅) ?_ ⟨hi1,hl2⟩ ?_ (by simp) (λs2 acc mv hacc=>?_) ∅))
 ·rintro j s' ⟨⟨o',ho',hc,_⟩,_⟩;exact⟨o',ho',hc⟩
 ·intro b hb;simp only[aQ,cq,or_false] at hb;rcases hb with rfl | rfl
  ·exact hI1
  ·exact hL1
 have ea:acc.toList=items.toList.drop i:=by
  refine dj λj=>?_
  rw[bp,fg,bp];rcases cf j acc.size with c | c
  ·rw[bJ c,hacc.2 j _ (bJ c)]
  ·rw[b7 c,b7 (by have:=hacc.1;omega)]
 have el:acc.toList.length=items.size-i:=by rw[bz];exact hacc.1
 rw[if_neg (by rw[el];omega),el,ea];refine af (gN ?_);refine aK ?_;have e1:items.size-i-(n-1-i)=items.size-(n-1):=∅
 have e2:(items.toList.drop i).drop (items.size-(n-1))=items.toList.drop (items.size-(n-1-i)):=by
  rw[List.drop_drop];congr 1;omega
 rw[e1,e2,dr];have ext:∀ b o',s.heap.get? b=some o'->s2.heap.get? b=some o':=λb o' e=>by
  have hb:b≠s.heap.objs.size:=aY (aF e);exact mv.heap b o' (~~~hb) ((sb1.2 b hb).trans (ao _ e))
 obtain⟨hp2,g2,d2,tk2,os2⟩:=s2;have q:=h hp2 tk2 ext mv.toks;have m1:s.gens=g2:=mv.gens;have m2:d2=s.drawn:=mv.drawn;have m3:os2=s.os:=mv.os;subst m1 m2 m3;exact q
end
section
variable {X:Cx}{pos:Pos}
def a8F (K:ae)(n i:Nat)(t:TGs):TG:=λv σ H Q=>∃ a xs,v=.ref a/\SqL K H a xs/\n<=xs.length+1 /\
 ∀ p,H p=none->t (xs.take i++[.ref p]++xs.drop (xs.length-(n-1-i))) σ (upd H p (.lst ((xs.drop i).take (xs.length-(n-1))))) Q
theorem a4r {e:Expr}{p:Pos}{es:List Expr}{t:TG}{u:TGs}(h1:PG X e t)(h2:PGs X es u)
  (hs:(assignEach (.Starred e p::es) X.env).map (·.2)=assign e X.env::(assignEach es X.env).map (·.2):=by rfl):PGs X (.Starred e p::es) (a8G t u):=by
 intro pins s σ H vs us Q I r h;obtain⟨v,vr,e1,h⟩:=h;subst e1;cases r with
 | cons r rr =>
  rw[hs];refine assignInOrder_cons (thn (h1 pins s σ H _ _ _ I r h) λ_ s1 ⟨σ1,H1,I1,q1⟩=>?_);exact h2 pins s1 σ1 H1 _ _ Q I1 rr q1
theorem a9I {es:List Expr}{k:Nat}{t:TGs}{n i:Nat}(hc:X.calm=true)(h:PGs X es t)
  (hn:(assignEach es X.env).length=n:=by rfl) (hst:(assignEach es X.env).findIdx? (·.1)=some i:=by rfl) (hi:i<n:=by decide):PG X (.Tuple es k pos) (a8F X.K n i t):=by
 intro pins s σ H v u Q I r hw;obtain⟨a,xs,e1,hq,hl,hw⟩:=hw;subst e1;cases r;obtain⟨its,rv,pl,hz⟩:=I.list hq;have hlen:=rv.length;rw[arm_assign_Tuple];unfold unpack;rw[hn,hst];refine af (dY (af (ce (a3M pl.isList (I.ok.hd hc) hi (by rw[aB];omega) (by rw[aB,<- hlen];exact hz) λh' tk ext htk=>?_))));have I1:Inv X pins σ H {s with heap:=h',toks:=tk}:=I.kept (t':=tk) λb o e=>ext b o e
 have np:H h'.objs.size=none:=I1.hok.fresh (ak _);have ez:(its.toArray.toList.drop i).take (its.toArray.size-(n-1))=(its.drop i).take (xs.length-(n-1)):=by rw[aB,<- hlen]
 have I2:Inv X pins σ (upd H h'.objs.size (.lst ((xs.drop i).take (xs.length-(n-1))))) {s with heap:=h'.push {cls:=.type "list",data:=.seq ((its.toArray.toList.drop i).take (its.toArray.size-(n-1))).toArray},toks:=tk}:=by
  refine I1.laid (t':=tk) (λb ob q=>ao _ q) (ak _) ⟨?_,_,0,(rv.drop i).take (xs.length-(n-1)),?_⟩
  ·rw[aT,dy];omega
  ·rw[ez];exact aO _ rfl
 refine h pins _ σ _ _ _ Q I2 ?_ (hw _ np);rw[show its.toArray.size=xs.length by rw[aB];exact hlen.symm];exact ((rv.take i).append (.cons (show C3 (.ref _) _ from rfl) .nil)).append (rv.drop _)
theorem a4s {es:List Expr}{k:Nat}{t:TGs}{n i:Nat}(K:ae)(hc:X.calm=true)(h:PGs X es t)
  (hn:(assignEach es X.env).length=n:=by rfl) (hst:(assignEach es X.env).findIdx? (·.1)=some i:=by rfl) (hi:i<n:=by decide) (hK:X.K=K:=by rfl):PG X (.Tuple es k pos) (a8F K n i t):=by subst hK;exact a9I hc h hn hst hi
end
end L2
end
section
set_option format.width 230
set_option pp.deepTerms true
set_option pp.maxSteps 20000
namespace K83
open PySem L2
local macro_rules | `(tactic| walk_at "rd")=>`(tactic| ((try simp only[L2.S8,st0,ap,cC,aD,bF,List.replicate,bL,cj,Nat.reduceAdd,Nat.reduceSub,iz,fD,Option.join_some]);simp only[↓b3f,↓b3w,↓b4p,↓tCA,↓b3h,↓b1m,↓b3r,↓b1k,↓tBA,↓b1r,↓b1u,↓b1x,↓b1v,↓b3n,↓b4s,↓b4t,↓b3v,↓b3e,↓b3o,↓b3P,↓b2G,↓b3S,↓b3Q,↓b4m,↓a7g,↓b1n,↓b3x,↓b4o,↓b3l,↓b3t,↓a7h,↓b1D,↓b2E,↓b3O,↓b2D,↓b2C,↓b4q,↓b4r,↓a9r,↓b1z,↓b3j,↓b1o,↓b4l,↓b3d,↓a9q,↓a9p,↓b3p,↓b1p,↓tV0,↓tV1,↓tV2,↓tV3,↓tV4,↓tV5,↓tV6,↓tV7,↓tV8,↓tV9,↓b4k,↓b4j,↓b4i,↓b4h,↓b4g,↓b4f,↓gN0,↓gN1,↓gN2,↓gN3,↓gN4,↓gN5,↓gN6,↓gN7,↓gN8,↓gN9,↓b4J,↓b4I,↓b4H,↓b4G,↓b4F,↓b4E,↓b4w,↓rIi,↓b3G,↓b3E,↓exB,↓exI,↓exR,↓b4x,↓b4v,↓b3V,rI,rI0,a3e,b1F,b0P,b0G,b0L,a2Z,a9z,a9y,rEq,rNe,b2O,b1d,a9d,a9f,a9e,b2P,a3d,rU,L2.S8,st0,ap,cC,aD,bF,List.replicate,bL,cj,ck,iz,fD,List.set_cons_zero,List.set_cons_succ,Option.some.injEq,V.int.injEq,V.bl.injEq,V.ref.injEq,List.cons.injEq,and_true,true_and,exists_eq_left',exists_eq_left,exists_eq',exists_eq,Nat.reduceAdd,Nat.reduceSub,exists_and_left,and_self,Option.join_some,a7t,decide_true,if_true,if_false,aW,eN,Bool.not_false,U3,P4,a7f,b0E,a5a,a7k,a7B,a5c,a7C,b0S,b3B,b0Q,b3F,b1e,a6X,a8F]))
section
variable {P:Program}{w:World}{K:ae}{mg:Str->Option Value}{base:Heap}
set_option hygiene false
local macro_rules | `($a <*> $b) => `(@A0 _ _ _ _ _ $a $b (by rfl))
local macro_rules | `($a <* $b) => `(@A3 _ _ _ _ _ $a $b)
local macro_rules | `($a <|> $b) => `(@E5 _ _ _ _ _ _ _ (C9 K) $a $b (λ_ _=>rfl))
local macro_rules | `($a *> $b) => `(@E5 _ _ _ _ _ _ _ (J9 K) $a $b (λ_ _=>rfl))
local macro_rules | `($a &&& $b) => `(@A7 _ _ _ _ _ _ _ _ N9 $a $b)
local macro_rules | `($a ||| $b) => `(@A7 _ _ _ _ _ _ _ _ O0 $a $b)
local macro_rules | `($a ^^^ $b) => `(@A7 _ _ _ _ _ _ _ _ S0 $a $b)
set_option hygiene true
set_option hygiene false
local macro_rules | `(tactic| walk_at "s") => `(tactic| exact⟨rfl,rfl,rfl,by decide +kernel,rfl,by decide +kernel,by decide +kernel⟩)
local macro_rules | `(tactic| walk_at "w") => `(tactic| with_unfolding_all rfl)
local macro_rules | `(tactic| walk_at "h") => `(tactic| ((repeat first | (obtain⟨rfl,h⟩:=h) | (obtain⟨_,h⟩:=h));all_goals rfl))
set_option hygiene true
theorem _root_.L2.Q5.m {j k:Nat}{A:Around}(r:Q5 k A)(h:j<=k:=by decide):Q5 j A:=r.mono h
open PyProof.Rows (boot_bool boot_int boot_isinstance boot_list boot_max boot_min boot_range boot_repr boot_sorted boot_str boot_tuple)
theorem a4l:C0 ["_law_cell","_law_k","_law_number_here"] ["_law_cell","_law_k"] (B1 (top 32)):=by walk_at "s"
theorem a8c (F:Fun K "_law_mixed" "_law_mixed" (top 32) f fd)(B:Bt mg):C2 P w K mg base CX0 1 f fd ["_law_cell","_law_k"] a3Y:=by
 refine F.ok a4l (λvs H Q E h=>?_) (λcdv A outer s H vs Q E hr h=>?_)
 ·walk_at "h"
 ·obtain⟨c,k,rfl,hk0,hk1,q⟩:=h;have nd:=a4l.nd;have hu:=L8 hr
  refine⟨_,(A3 (B6 (i:=2) nd rfl (.inl rfl) (A7 N9 (A7 O0 (A7 O0 (pv 0) (A7 W9 (A7 W9 (pv 1) (pv 1)) A4)) A4) A4))
    (A3 (B6 (i:=2) nd rfl (.inl rfl) (A7 N9 (A7 W9 (pv 2) (pv 2)) A4))
    (A3 (B6 (i:=2) nd rfl (.inl rfl) (A7 N9 (A7 W9 (A7 O0 (A7 O0 (pv 2) (A7 W9 (pv 1) A4)) A4) A4) A4))
    (A5 (B5 (A7 a3n (A7 N9 (A7 W9 (pv 2) (pv 2)) A4) A4)))))),?_⟩
  walk_at "rd";have hm:∀ x:Int,0<=x % 2305843009213693951/\x % 2305843009213693951<2305843009213693951:=λx=>⟨b9 _ (by decide),bM _ (by decide)⟩
  have small:∀ x y:Int,b0D (x % 2305843009213693951) y:=λx y=>.inl ⟨by have:=hm x;omega,by have:=hm x;omega⟩
  have pos:(0:Int)<2305843009213693951:=by decide
  exact⟨.inl ⟨∅,∅⟩,.inr ⟨by decide,by decide⟩,pos,small _ _,pos,.inl ⟨∅,∅⟩,.inr ⟨by decide,by decide⟩,pos,small _ _,pos,⟨by decide,by decide⟩,q _⟩
theorem a5S:C0 ["_law_deck_here"] ["_law_deck_here"] (B1 (top 34)):=by walk_at "s"
theorem a9P (F:Fun K "_law_next" "_law_next" (top 34) f fd)(B:Bt mg):C2 P w K mg base CX0 1 f fd ["_law_deck_here"] U0:=by
 refine F.ok a5S (λvs H Q E h=>?_) (λcdv A outer s H vs Q E hr h=>?_)
 ·walk_at "h"
 ·obtain⟨d,ns,rfl,hd,q⟩:=h;have nd:=a5S.nd;have hu:=L8 hr
  refine⟨_,(A3 (N4 (I0 a4t (B0 (Y9 K) (by rfl) B.len bG (A0 (pv 0) A1)) A4 (E8 _))
     (A5 (B5 (b1O K (pv 0))))
     E6)
    (A5 (B5 A4))),?_⟩
  walk_at "rd";refine⟨ns.map V.int,.inl (SqL.of hd),a1l (λh=>?_) λh=>?_⟩
  ·refine⟨.inl ⟨rfl,_,SqL.of hd⟩,?_⟩;have hne:ns≠[]:=λe=>by subst e;simp at h
   have h1:(ns.map V.int)[(ns.map V.int).length-1]?=some (V.int (ns.getLast hne)):=by
    rw[aa,aH,<- List.getLast?_eq_getElem?,List.getLast?_eq_some_getLast hne];rfl
   refine⟨ns.map V.int,hd,_,h1,?_⟩;rw[<- List.map_dropLast];exact q _ _ (by rw[i7];omega) (λx hx=>List.dropLast_subset _ hx) (.inr (List.getLast_mem hne))
  ·have e:upd H d (.lst (ns.map V.int))=H:=a6Z hd;have:=q 0 ns (ak _) (λ_ h=>h) (.inl rfl);rw[e] at this;exact this
def a8A (H:Hp)(a p4 p5 p6:Addr)(m:Int)(os:List Int)(i:Nat)(σ:St)(Hc:Hp):Prop:=∃(kv av:Option V) (rs ds:List Int),σ=[some (.ref a),some (.int m),some (.ref p4),some (.ref p5),some (.ref p6),kv,av]/\B2 H Hc/\Hc p4=some (.lst (os.map V.int)) /\
 Hc p5=some (.lst (rs.map V.int))/\rs.length=os.length/\Hc p6=some (.lst (ds.map V.int))/\ds.length=i/\(∀ x∈ds,0<=x/\x<1000)
theorem a5U:C0 ["_law_script","_law_many","_law_own","_law_rest","_law_deck_here","_law_k","_law_at"] ["_law_script","_law_many"] (B1 (top 33)):=by walk_at "s"
theorem a9R (F:Fun K "_law_deck" "_law_deck" (top 33) f fd)(B:Bt mg)(D1:Df K mg "_law_mixed" st1 f1 fd1 ["_law_cell","_law_k"])(G1:C2 P w K mg base CX0 1 f1 fd1 ["_law_cell","_law_k"] a3Y):C2 P w K mg base CX0 2 f fd ["_law_script","_law_many"] (a5O K):=by
 refine F.ok a5U (λvs H Q E h=>?_) (λcdv A outer s H vs Q E hr h=>?_)
 ·walk_at "h"
 ·obtain⟨a,m,ns,rfl,hS,hl,hm0,hm1,q⟩:=h;have nd:=a5U.nd;have hu:=L8 hr
  refine⟨_,(A3 (B6 (i:=2) nd rfl (.inl rfl) (A7 M6 (C6 (b3N K) (by rfl) B.list boot_list (A0 (C8 (G9 K) (pv 0) J7 (E2 A4)) A1)) (A7 b1U (K6 (A0 A4 A1)) (C6 a2R (by rfl) B.int boot_int (A0 (S6 a1e (B0 (Y9 K) (by rfl) B.len bG (A0 (pv 0) A1)) A4 (E8 _)) A1)))))
    (A3 (W8 (i:=3) (own:=["_law_cell"]) (fr:=[]) rfl nd rfl rfl (by walk_at "w") (by walk_at "w") F0 (K4 K (pv 2)) ⟨λ_ _ _ _=>⟨(A9 (i:=0) (show bR (["_law_cell"]:List Str) by decide +kernel) rfl (.inl rfl)),K7,(E5 (C9 K) (K6 (A0 A4 (A0 (pv 0) A1))) (C6 a2R (by rfl) B.int boot_int (A0 (S6 b3K (pv 0) (A7 a7Q A4 A4) (E8 _)) A1)) (λ_ _=>rfl))⟩⟩)
    (A3 (B6 (i:=4) nd rfl (.inl rfl) (K6 A1))
    (A3 (P2 br rfl (M7 (by rfl) B.range (A0 (pv 1) A1)) (A9 (i:=5) nd rfl (.inl rfl))
     (A3 (B6 (i:=6) nd rfl (.inl rfl) (A7 N9 (pv 5) (B0 (Y9 K) (by rfl) B.len bG (A0 (pv 2) A1))))
     (A5 (N4 (I0 a4t (E5 (C9 K) (pv 3) (pv 6) (λ_ _=>rfl)) A4 (E8 _))
      (A3 (N5 (N6 K (pv 4) (A0 (A7 N9 (E5 (C9 K) (pv 3) (pv 6) (λ_ _=>rfl)) A4) A1)))
      (A5 (a0F (A7 a3n (E5 (C9 K) (pv 3) (pv 6) (λ_ _=>rfl)) A4) (b1R (pv 3) (pv 6) a7q))))
      (A5 (N5 (N6 K (pv 4) (A0 (A7 N9 (B4 G1 D1 hr.m (A0 (E5 (C9 K) (pv 2) (pv 6) (λ_ _=>rfl)) (A0 (A7 O0 (pv 5) A4) A1))) A4) A1))))))))
    (A5 (B5 (a5e hr.hd (by rfl) B.list (by rfl) B.reversed (pv 4)))))))),?_⟩
  walk_at "rd";refine⟨a,ns.map V.int,rfl,hS,λp1 n1=>⟨p1,rfl,_,.inl (SqL.of A2),λl nl=>⟨by decide,λp2 n2=>?_⟩⟩⟩;have s1:=(B2.refl H).upd (o:=.lst (Z0 (ns.map V.int) none (some 60))) n1;have s2:=s1.upd (o:=.lst (Z0 (ns.map V.int) none (some 60))) (s1.free nl);have s3:=s2.upd (o:=.lst [V.int 0]) (s2.free n2);refine⟨ns.map V.int,.inl (s3.seq hS),p2,_,_,rfl,rfl,A2,?_,?_,?_,λp3 n3=>?_⟩
  ·split<;>decide
  ·split<;>decide
  ·rw[sizeLine_eq];split<;>decide
  have s4:=s3.upd (o:=.lst (List.replicate (if decide ((ns.map V.int).length=(0:Int))=true then (1:Int) else 0).toNat [V.int 0]).flatten) (s3.free n3);have hlp:l≠p2:=λe=>by subst e;rw[A2] at n2;cases n2
  have hl3:l≠p3:=λe=>by subst e;rw[A8 hlp,A2] at n3;cases n3
  obtain⟨os,eo,ho1,ho2⟩:∃ os:List Int,Z0 (ns.map V.int) none (some 60)++(List.replicate (if decide ((ns.map V.int).length=(0:Int))=true then (1:Int) else 0).toNat [V.int 0]).flatten=os.map V.int/\1<=os.length/\os.length<=64:=by
   by_cases e:ns=[]
   ·subst e;exact⟨[0],rfl,by decide,by decide⟩
   ·have hne:¬ ((ns.map V.int).length:Int)=0:=by rw[aa];have:=eS.mpr e;omega
    rw[decide_eq_false hne];refine⟨ns.take 60,?_,?_,?_⟩
    ·have h60:HT.sIx (ns.map V.int).length (ns.map V.int).length (some 60)=min 60 ns.length:=by rw[show (60:Int)=((60:Nat):Int) from rfl,HT.sIx_nat,aa]
     unfold Z0;rw[HT.sIx_none,dr,h60,Nat.sub_zero];simp only[aW,if_false,Int.toNat_zero,List.replicate,List.flatten_nil,ck];rw[<- fB];congr 1;by_cases h:60<=ns.length
     ·rw[Nat.min_eq_left h]
     ·rw[Nat.min_eq_right ∅,bV (ak _),bV ∅]
    ·have:=eS.mpr e;rw[aT];omega
    ·rw[aT];omega
  refine⟨l,p3,_,_,rfl,rfl,by rw[A8 hl3,A8 hlp,A2],A2,?_,λp4 n4=>?_⟩
  ·have:=congrArg cQ eo;have e2:(os.map V.int).length=os.length:=aa _;rw[aq] at this;rw[sizeLine_eq];omega
  rw[eo];have s5:=s4.upd (o:=.lst (os.map V.int)) (s4.free n4);generalize hH5:upd (upd (upd (upd (upd H p1 (HO.lst (Z0 (ns.map V.int) none (some 60)))) l (HO.lst (Z0 (ns.map V.int) none (some 60)))) p2 (HO.lst [V.int 0])) p3 (HO.lst (List.replicate (if decide ((ns.map V.int).length=(0:Int))=true then (1:Int) else 0).toNat [V.int 0]).flatten)) p4 (HO.lst (os.map V.int))=H5 at s5 ⊢;have h4:H5 p4=some (.lst (os.map V.int)):=by rw[<- hH5];exact A2
  refine⟨p4,rfl,⟨_,SqL.of h4⟩,λp5 n5=>S7 (K:=K) (xs:=os.map V.int) (λi τ Hc=>∃(c:Option V) (rs:List Int),τ=[c]/\B2 H5 Hc/\Hc p5=some (.lst (rs.map V.int))/\rs.length=i)
   ⟨none,[],rfl,(B2.refl H5).upd n5,A2,rfl⟩ (λi τ Hc _ ⟨_,_,_,sc,_⟩=>SqL.of (sc _ _ h4)) ?_ ?_⟩
  ·rintro i x τ Hc hx ⟨c,rs,rfl,sc,h5,hi⟩ _;have hil:i<os.length:=by have:=(au.mp hx).1;rw[aa] at this;exact this
   obtain⟨z,rfl⟩:∃ z,x=V.int z:=by
    rw[aH] at hx;cases e:os[i]? with
    | none=>rw[e] at hx;cases hx
    | some z=>rw[e] at hx;exact⟨z,(aI hx).symm⟩
   walk_at "rd";refine⟨by decide,λp n=>⟨⟨by decide,by decide,by decide⟩,?_⟩⟩;have h5':∀ o,(upd Hc p o) p5=some (.lst (rs.map V.int)):=λo=>by rw[A8 (B9 h5 n)];exact h5
   refine⟨[V.int 0,V.int z],SqL.of A2,?_⟩;generalize decide ((10:Int) ^ cU 18<=z)=b;obtain⟨y,hy⟩:∃ y:Int,atI [V.int 0,V.int z] (if b=true then 1 else 0)=some (V.int y):=by
    cases b
    ·exact⟨0,rfl⟩
    ·exact⟨z,rfl⟩
   refine⟨_,hy,_,h5' _,?_,(sc.upd (sc.free n)).upd n5,rs++[y],?_,?_⟩
   ·rw[aa];exact B8 ∅
   ·rw[A2,aC];rfl
   ·rw[aq,hi];rfl
  ·rintro τ H6 ⟨c,rs,rfl,s6,h5,hrs⟩;rw[aa] at hrs;refine⟨by decide,λp6 n6=>?_⟩;have s06:B2 H H6:=s5.trans s6;have h46:H6 p4=some (.lst (os.map V.int)):=s6 _ _ h4;have n45:p4≠p5:=B9 h4 n5;have n46:p4≠p6:=B9 h46 n6;have n56:p5≠p6:=B9 h5 n6
   refine⟨_,rfl,m,rfl,∅,∅,U7 (lo:=0) (n:=m.toNat) (a8A H a p4 p5 p6 m os)
    ⟨none,none,rs,[],rfl,s06.upd (s06.free n6),by rw[A8 n46];exact h46,by rw[A8 n56];exact h5,hrs,A2,rfl,λx hx=>(by cases hx)⟩ ?_ ?_⟩
   ·rintro i σ Hc hi ⟨kv,av,rs,ds,rfl,sc,c4,c5,hrl,c6,hdl,hdb⟩;have hoi:(0:Int)<(os.map V.int).length:=by rw[aa];omega
    have hat:∃ j:Nat,j<os.length/\(0+(i:Int)) % ((os.map V.int).length:Int)=(j:Int):=by
     have h1:=b9 (0+(i:Int)) (b:=((os.map V.int).length:Int)) ∅;have h2:=bM (0+(i:Int)) hoi;refine⟨((0+(i:Int)) % ((os.map V.int).length:Int)).toNat,?_,∅⟩;rw[aa] at h2 ⊢;omega
    obtain⟨j,hj,ej⟩:=hat;have atR:∀(l:List Int),l.length=os.length->∃ z,atI (l.map V.int) (j:Int)=some (V.int z):=λl e=>by
     have hjl:j<l.length:=∅
     exact⟨l[j],U2 (by rw[aH,aA hjl];rfl)⟩
    obtain⟨z,hz⟩:=atR rs hrl;obtain⟨z',hz'⟩:=atR os rfl;have n65:p6≠p5:=n56.symm;have hdb2:∀ y:Int,∀ x∈ds++[y % 1000],0<=x/\x<1000:=λy x hx=>by
     rcases aj.mp hx with hx | hx
     ·exact hdb x hx
     ·rw[ag.mp hx];omega
    have n64:p6≠p4:=n46.symm;have hdl2:(ds.map V.int).length<sizeLine:=by rw[aa];exact B8 ∅
    have c5':∀ o,(upd Hc p6 o) p5=some (.lst (rs.map V.int)):=λo=>by rw[A8 n56];exact c5
    have hm6:H p6=none:=s06.free n6;have hm5:H p5=none:=(s5.free n5)
    walk_at "rd";refine⟨_,.inl (SqL.of c4),hoi,_,SqL.of c5,?_⟩;rw[ej];refine⟨_,hz,z,rfl,a1l (λ_=>?_) λ_=>?_⟩
    ·refine⟨.inl ⟨rfl,_,SqL.of c6⟩,_,SqL.of c5,_,hz,z,rfl,by decide,_,c6,hdl2,_,SqL.of (c5' _),_,hz,z,rfl,⟨by decide,by decide⟩,?_⟩;have hix:ixN (rs.map V.int).length (j:Int)=some j:=by
      unfold ixN;rw[aa,if_pos ∅,if_pos ∅];simp
     refine⟨_,c5' _,j,hix,?_⟩;refine⟨_,_,rs.set j (z / 1000),ds++[z % 1000],rfl,(sc.upd hm6).upd hm5,by rw[A8 n45,A8 n46];exact c4,by rw[A2,List.map_set],by rw[dM];exact hrl,?_,by rw[aq,hdl];rfl,hdb2 z⟩;rw[A8 n65,A2,aC];rfl
    ·refine⟨.inl ⟨rfl,_,SqL.of c6⟩,_,SqL.of c4,_,hz',z',_,rfl,∅,∅,λy=>?_⟩;walk_at "rd";refine⟨by decide,_,c6,hdl2,?_⟩;refine⟨_,_,rs,ds++[y % 1000],rfl,sc.upd hm6,by rw[A8 n46];exact c4,by rw[A8 n56];exact c5,hrl,by rw[A2,aC];rfl,by rw[aq,hdl];rfl,hdb2 y⟩
   ·rintro σ Hc ⟨kv,av,rs,ds,rfl,sc,c4,c5,hrl,c6,hdl,hdb⟩;walk_at "rd";refine⟨_,c6,λp7 n7=>?_⟩;rw[<- List.map_reverse];exact q p7 ds.reverse _ ⟨by rw[fY];omega,λx hx=>hdb x (List.mem_reverse.mp hx)⟩ (sc.upd (sc.free n7)) (sc.free n7) A2
def a6G (H:Hp)(d p:Addr)(i:Nat)(τ:St)(Hc:Hp):Prop:=∃(c:Option V) (ps:List (Addr×List Int)),τ=[c,some (.ref d)]/\Kp d H Hc/\Q3 Hc d/\Hc p=some (.lst (ps.map λx=>V.ref x.1)) /\
 (∀ x∈ps,Hc x.1=some (.tup (x.2.map V.int))/\∃ z k,x.2=[z,k])/\ps.length=i/\ps.map (λx=>x.2.getD 1 0)=B7 0 i
def a6F (H:Hp)(p:Addr)(ps:List (Addr×List Int))(i:Nat)(τ:St)(Hc:Hp):Prop:=∃(c k:Option V),τ=[c,k]/\B2 H Hc/\Hc p=some (.lst (((ps.map λx=>x.2.getD 1 0).take i).map V.int))
theorem a5P:C0 ["_law_deck_here","_law_many"] ["_law_deck_here","_law_many"] (B1 (top 35)):=by walk_at "s"
theorem a9M (F:Fun K "_law_turn" "_law_turn" (top 35) f fd)(B:Bt mg)(D1:Df K mg "_law_next" st1 f1 fd1 ["_law_deck_here"])(G1:C2 P w K mg base CX0 1 f1 fd1 ["_law_deck_here"] U0):C2 P w K mg base CX0 2 f fd ["_law_deck_here","_law_many"] a1m:=by
 refine F.ok a5P (λvs H Q E h=>?_) (λcdv A outer s H vs Q E hr h=>?_)
 ·walk_at "h"
 ·obtain⟨d,n,rfl,hd,hn0,hn1,q⟩:=h;have nd:=a5P.nd;have hu:=L8 hr;refine⟨_,(A5 (B5 (C6 (V8 K) (by rfl) B.tuple dw (A0 (N7 (own:=["_law_cell","_law_at"]) (fr:=[]) rfl (by walk_at "w") F0 (K4 K (B0 (a1A K) (by rfl) B.sorted eu (A0 (N7 (own:=["_law_at"]) (fr:=[("_law_deck_here",0)]) rfl (by walk_at "w") (U6 rfl rfl F0) (M7 (by rfl) B.range (A0 (pv 1) A1)) ⟨λ_ _ _ _=>⟨(A9 (i:=0) (show bR (["_law_at","_law_deck_here"]:List Str) by decide +kernel) rfl (.inl rfl)),K7,(K5 (A0 (B4 G1 D1 hr.m (A0 (pv 1) A1)) (A0 (pv 0) A1)))⟩⟩) A1))) ⟨λ_ _ _ _=>⟨(R9 K (n:=2) rfl (E1 (A9 (i:=0) (show bR (["_law_cell","_law_at"]:List Str) by decide +kernel) rfl (.inl rfl)) (E1 (A9 (i:=1) (show bR (["_law_cell","_law_at"]:List Str) by decide +kernel) rfl (.inl rfl)) Q0))),K7,(pv 1)⟩⟩) A1)))),?_⟩;walk_at "rd";refine⟨∅,∅,λp n=>X0 (a6G H d p) ⟨none,[],rfl,(Kp.refl d H).new n,hd.new (hd.ne n),A2,(λx hx=>by cases hx),rfl,rfl⟩ ?_ ?_⟩
  ·rintro i τ Hc hi ⟨c,ps,rfl,k,dk,hp,hall,hl,hm⟩;walk_at "rd";refine T7 dk λz H1 k1 dk1 e1=>⟨by decide,λq1 nq=>?_⟩
   have hp1:H1 p=some (.lst (ps.map λx=>V.ref x.1)):=by rw[e1 p (hd.ne n)];exact hp
   have k2:=k.trans k1;have nH:H q1=none:=k2.free dk1 nq;refine⟨_,P3 hp1 nq,by rw[aa,hl];exact B8 ∅,?_⟩;refine⟨_,ps++[(q1,[z,0+(i:Int)])],rfl,(k2.new nH).new n,(dk1.new (dk1.ne nq)).new (hd.ne n),by rw[A2,aC];rfl,?_,by rw[aq,hl];rfl,by rw[aC,hm,a5d];rfl⟩;intro x hx;rcases aj.mp hx with hx | hx
   ·obtain⟨h1,h2⟩:=hall x hx;have h3:=k1.tp dk _ _ h1;exact⟨by rw[A8 (b0U h3 hp1)];exact P3 h3 nq,h2⟩
   ·cases ag.mp hx;exact⟨by rw[A8 (B9 hp1 nq).symm,A2];rfl,z,_,rfl⟩
  ·rintro τ H1 ⟨c,ps,rfl,k,dk,hp,hall,hl,hm⟩;refine⟨ps,⟨.inl (SqL.of hp),λx hx=>⟨(hall x hx).1,by obtain⟨_,z,k,e⟩:=hall x hx;rw[e];simp⟩⟩,λps' l pm _ nl=>⟨⟨_,SqL.of A2⟩,λp2 n2=>?_⟩⟩;have nl':H l=none:=k.free dk nl;have s1:B2 H1 (upd H1 l (.lst (ps'.map λx=>V.ref x.1))):=(B2.refl H1).upd nl;have n2':H1 p2=none:=s1.free n2;generalize hH2:upd H1 l (.lst (ps'.map λx=>V.ref x.1))=H2 at s1 n2 ⊢;have hl2:H2 l=some (.lst (ps'.map λx=>V.ref x.1)):=by rw[<- hH2];exact A2
   refine S7 (K:=K) (xs:=ps'.map λx=>V.ref x.1) (a6F H2 p2 ps') ?_ ?_ ?_ ?_
   ·exact⟨none,none,rfl,(B2.refl H2).upd n2,A2⟩
   ·rintro i τ Hc _ ⟨_,_,rfl,sc,_⟩;exact SqL.of (sc _ _ hl2)
   ·rintro i v τ Hc hx ⟨c,k',rfl,sc,h2⟩ _;rw[aH] at hx;cases hy:ps'[i]? with
    | none=>rw[hy] at hx;cases hx
    | some y =>
    rw[hy] at hx;cases aI hx;have hym:=aE hy;obtain⟨h3,z,m,e⟩:=hall y (pm.mem_iff.mp hym);have h4:=sc _ _ (s1 _ _ h3);rw[e] at h4;walk_at "rd";have hil:i<ps'.length:=(au.mp hy).1;refine⟨_,SqT.of h4,rfl,_,_,rfl,_,_,rfl,rfl,_,h2,?_,?_⟩
    ·rw[aa,aT];refine B8 (aM (Nat.min_le_left _ _) ?_);have:=pm.length_eq;omega
    ·refine⟨_,_,rfl,sc.upd n2,?_⟩;rw[A2,bZ,aH,hy,aC];show _=some (HO.lst (_++[V.int (y.2.getD 1 0)]));rw[e];rfl
   ·rintro τ Hc ⟨c,k',rfl,sc,h2⟩;refine⟨_,.inl ⟨SqL.of h2,λl3 n3=>?_⟩⟩;rw[aa,bV (by rw[aa];exact ak _)];have s3:B2 H1 Hc:=s1.trans sc;have nH3:H l3=none:=k.free dk (s3.free n3);refine q l3 _ _ ((k.trans s3.kp).new nH3) ((dk.same s3).new (hd.ne nH3)) nH3 A2 ?_;rw[<- hm];exact pm.map _
theorem a9h {k c form:Int}(hk:1<=k)(hf0:0<=form)(hf1:form<8):∃ x:Int,atI [V.int (k-1),V.int 0,V.int (c % k),V.int (if k-1-c % 3>0 then k-1-c % 3 else 0),V.int (k-1),V.int (if k-2>0 then k-2 else 0),V.int ((k-1) / 2),V.int (c % k)] form=some (V.int x)/\0<=x/\x<k:=by
 have h1:=b9 c (b:=k) ∅;have h2:=bM c (b:=k) ∅;have hf:form=0\/form=1\/form=2\/form=3\/form=4\/form=5\/form=6\/form=7:=∅
 rcases hf with rfl | rfl | rfl | rfl | rfl | rfl | rfl | rfl
 ·exact⟨_,rfl,∅,∅⟩
 ·exact⟨_,rfl,∅,∅⟩
 ·exact⟨_,rfl,∅,∅⟩
 ·refine⟨_,rfl,?_,?_⟩<;>split<;>omega
 ·exact⟨_,rfl,∅,∅⟩
 ·refine⟨_,rfl,?_,?_⟩<;>split<;>omega
 ·exact⟨_,rfl,∅,∅⟩
 ·exact⟨_,rfl,∅,∅⟩
def Fd (n:Int)(fs:⋯)(i:Int):Prop:=fs.Nodup/\(∀ t∈fs,0<=t.1/\t.1<t.2/\t.2<n)/\∀ k:Int,1<=k->k<=i->∃ a,0<=a/\a<k/\(a,k)∈fs
theorem Fd.add {n i:Int}{fs:⋯}{t:Int×Int}(h:Fd n fs i)(ht:0<=t.1/\t.1<t.2/\t.2<n):Fd n (a2p fs t) i:=by
 refine⟨a9T h.1,λu hu=>?_,λk k0 k1=>?_⟩
 ·rcases a1P.mp hu with hu | rfl
  ·exact h.2.1 u hu
  ·exact ht
 ·obtain⟨a,a0,a1,hm⟩:=h.2.2 k k0 k1;exact⟨a,a0,a1,a1P.mpr (.inl hm)⟩
theorem Fd.next {n i:Int}{fs:⋯}{a:Int}(h:Fd n fs i)(a0:0<=a)(a1:a<i+1)(hn:i+1<n):Fd n (a2p fs (a,i+1)) (i+1):=by
 have h':=h.add (t:=(a,i+1)) ⟨a0,a1,hn⟩;refine⟨h'.1,h'.2.1,λk k0 k1=>?_⟩;by_cases e:k=i+1
 ·subst e;exact⟨a,a0,a1,a1P.mpr (.inr rfl)⟩
 ·exact h'.2.2 k k0 ∅
def a8y (H:Hp)(d p:Addr)(lo hi n form:Int)(i:Nat)(σ:St)(Hc:Hp):Prop:=∃(kv cv av:Option V) (fs:⋯),σ=[some (.ref d),some (.int lo),some (.int hi),some (.int n),some (.int form),some (.ref p),kv,cv,av,none,none,none,none,none,none] /\
 Kp d H Hc/\Q3 Hc d/\Hc p=some (.dT (kvT fs))/\fs.length<=i/\Fd n fs i
def a4I (H:Hp)(d p:Addr)(lo hi n form more:Int)(i:Nat)(σ:St)(Hc:Hp):Prop:=∃(kv cv av tv ov uv:Option V) (fs:⋯),σ=[some (.ref d),some (.int lo),some (.int hi),some (.int n),some (.int form),some (.ref p),kv,cv,av,some (.int more),tv,ov,uv,none,none] /\
 Kp d H Hc/\Q3 Hc d/\Hc p=some (.dT (kvT fs))/\fs.length<=200/\Fd n fs (n-1)
def a8x (H:Hp)(p pn:Addr)(gs:⋯)(ks:List Int)(i:Nat)(τ:St)(Hc:Hp):Prop:=∃(ov uv:Option V) (ps:List (Addr×List Int)),τ=[ov,uv,some (.ref pn)]/\B2 H Hc/\Hc p=some (.lst (ps.map λx=>V.ref x.1))/\M9 Hc ps ((gs.take i).map (ren ks))
theorem a7u:C0 ["_law_deck_here","_law_least","_law_most","_law_places","_law_form","_law_found","_law_k","_law_cell","_law_ahead","_law_more","_law_turn_here","_law_one","_law_other","_law_names","_law_ties"] ["_law_deck_here","_law_least","_law_most"] (B1 (top 36)):=by walk_at "s"
theorem b1Y (F:Fun K "_law_web" "_law_web" (top 36) f fd)(B:Bt mg)(D1:Df K mg "_law_next" st1 f1 fd1 ["_law_deck_here"])(G1:C2 P w K mg base CX0 1 f1 fd1 ["_law_deck_here"] U0)(D2:Df K mg "_law_turn" st2 f2 fd2 ["_law_deck_here","_law_many"])(G2:C2 P w K mg base CX0 2 f2 fd2 ["_law_deck_here","_law_many"] a1m):C2 P w K mg base CX0 3 f fd ["_law_deck_here","_law_least","_law_most"] a7o:=by
 refine F.ok a7u (λvs H Q E h=>?_) (λcdv A outer s H vs Q E hr h=>?_)
 ·walk_at "h"
 ·obtain⟨d,lo,hi,rfl,hd,h3,hlh,h60,q⟩:=h;have nd:=a7u.nd;have hu:=L8 hr
  refine⟨_,(A3 (B6 (i:=3) nd rfl (.inl rfl) (A7 O0 (pv 1) (A7 N9 (B4 G1 D1 hr.m (A0 (pv 0) A1)) (A7 O0 (A7 S0 (pv 2) (pv 1)) A4))))
    (A3 (B6 (i:=4) nd rfl (.inl rfl) (A7 N9 (B4 G1 D1 hr.m (A0 (pv 0) A1)) A4))
    (A3 (B6 (i:=5) nd rfl (.inl rfl) a7K)
    (A3 (P2 br rfl (a2C (by rfl) B.range (A0 A4 (A0 (pv 3) A1))) (A9 (i:=6) nd rfl (.inl rfl))
     (A3 (B6 (i:=7) nd rfl (.inl rfl) (B4 G1 D1 hr.m (A0 (pv 0) A1)))
     (A3 (B6 (i:=8) nd rfl (.inl rfl) (E5 (C9 K) (K6 (A0 (A7 S0 (pv 6) A4) (A0 A4 (A0 (A7 N9 (pv 7) (pv 6)) (A0 (B0 (U8 rfl) (by rfl) B.max jt (A0 A4 (A0 (A7 S0 (A7 S0 (pv 6) A4) (A7 N9 (pv 7) A4)) A1))) (A0 (A7 S0 (pv 6) A4) (A0 (B0 (U8 rfl) (by rfl) B.max jt (A0 A4 (A0 (A7 S0 (pv 6) A4) A1))) (A0 (A7 a3n (A7 S0 (pv 6) A4) A4) (A0 (A7 N9 (pv 7) (pv 6)) A1))))))))) (pv 4) (λ_ _=>rfl)))
     (A5 (a0u hu (pv 5) (K5 (A0 (pv 8) (A0 (pv 6) A1))) Q4 rfl)))))
    (A3 (N4 (I0 a1e (pv 4) A4 (E8 _))
     (A5 (a0u hu (pv 5) (K5 (A0 A4 (A0 (A7 S0 (pv 3) A4) A1))) Q4 rfl))
     E6)
    (A3 (B6 (i:=9) nd rfl (.inl rfl) (E5 (C9 K) (K6 (A0 A4 (A0 A4 (A0 A4 (A0 (pv 3) (A0 (A7 W9 A4 (pv 3)) (A0 A4 A1))))))) (A7 N9 (B4 G1 D1 hr.m (A0 (pv 0) A1)) A4) (λ_ _=>rfl)))
    (A3 (P2 br rfl (M7 (by rfl) B.range (A0 (pv 9) A1)) (A9 (i:=10) nd rfl (.inl rfl))
     (A3 (B6 (i:=11) nd rfl (.inl rfl) (A7 N9 (B4 G1 D1 hr.m (A0 (pv 0) A1)) (pv 3)))
     (A3 (B6 (i:=12) nd rfl (.inl rfl) (A7 N9 (B4 G1 D1 hr.m (A0 (pv 0) A1)) (pv 3)))
     (A5 (N4 (PW.pt (a3f (I0 a1I (pv 11) (pv 12) (E8 _)) (a1n (I0 a6a (B0 a5z (by rfl) B.len bG (A0 (pv 5) A1)) A4 (E8 _)))))
      (A5 (a0u hu (pv 5) (K5 (A0 (B0 (a0O rfl) (by rfl) B.min boot_min (A0 (pv 11) (A0 (pv 12) A1))) (A0 (B0 (U8 rfl) (by rfl) B.max jt (A0 (pv 11) (A0 (pv 12) A1))) A1))) Q4 rfl))
      E6)))))
    (A3 (B6 (i:=13) nd rfl (.inr rfl) (B4 G2 D2 hr.m (A0 (pv 0) (A0 (pv 3) A1))))
    (A3 (W8 (i:=14) (own:=["_law_one","_law_other"]) (fr:=[("_law_names",13)]) rfl nd rfl rfl (by walk_at "w") (by walk_at "w") (U6 rfl rfl F0) (K4 K (B0 (a3A hr.hd) (by rfl) B.sorted eu (A0 (pv 5) A1))) ⟨λ_ _ _ _=>⟨(R9 K (n:=2) rfl (E1 (A9 (i:=0) (show bR (["_law_one","_law_other","_law_names"]:List Str) by decide +kernel) rfl (.inl rfl)) (E1 (A9 (i:=1) (show bR (["_law_one","_law_other","_law_names"]:List Str) by decide +kernel) rfl (.inl rfl)) Q0))),K7,(K5 (A0 (B0 (a0O rfl) (by rfl) B.min boot_min (A0 (E5 (J9 K) (pv 2) (pv 0) (λ_ _=>rfl)) (A0 (E5 (J9 K) (pv 2) (pv 1) (λ_ _=>rfl)) A1))) (A0 (B0 (U8 rfl) (by rfl) B.max jt (A0 (E5 (J9 K) (pv 2) (pv 0) (λ_ _=>rfl)) (A0 (E5 (J9 K) (pv 2) (pv 1) (λ_ _=>rfl)) A1))) A1)))⟩⟩)
    (A5 (B5 (K5 (A0 (pv 3) (A0 (C6 (V8 K) (by rfl) B.tuple dw (A0 (B0 (a1A K) (by rfl) B.sorted eu (A0 (pv 14) A1)) A1)) A1)))))))))))))),?_⟩
  walk_at "rd";refine T7 hd λz1 H1 k1 dk1 e1=>?_
  have r1:=b9 z1 (b:=hi-lo+1) ∅;have r2:=bM z1 (b:=hi-lo+1) ∅;refine⟨z1,rfl,∅,T7 dk1 λz2 H2 k2 dk2 e2=>⟨z2,rfl,by decide,λp np=>?_⟩⟩;obtain⟨n,hn⟩:∃ n:Int,n=lo+z1 % (hi-lo+1):=⟨_,rfl⟩
  obtain⟨form,hfo⟩:∃ m:Int,m=z2 % 8:=⟨_,rfl⟩
  rw[<- hn,<- hfo];have k02:=k1.trans k2;have nHp:H p=none:=k02.free dk2 np;have pd:p≠d:=hd.ne nHp;refine⟨_,rfl,1,n,rfl,⟨by decide,by decide,∅,∅⟩,U7 (lo:=1) (n:=(n-1).toNat) (a8y H d p lo hi n form) ?_ ?_ ?_⟩
  ·exact⟨none,none,none,[],rfl,k02.new nHp,dk2.new pd,A2,ak _,by simp,by simp,λk k0 k1=>∅⟩
  ·rintro i σ Hc hin ⟨kv,cv,av,fs,rfl,kc,dc,hp,hfl,hF⟩;walk_at "rd";refine T7 dc λz3 H3 k3 dk3 e3=>?_
   obtain⟨x,hx,x0,x1⟩:=a9h (k:=1+(i:Int)) (c:=z3) (form:=form) ∅ ∅ ∅;have hp3:H3 p=some (.dT (kvT fs)):=by rw[e3 p pd];exact hp
   have kk:=kc.trans k3;refine⟨z3,rfl,∅,z3,rfl,by decide,0,_,⟨rfl,rfl⟩,0,_,⟨rfl,rfl⟩,⟨∅,∅⟩,z3,rfl,∅,by decide,λpl nl=>⟨_,SqL.of A2,_,hx,by decide,λpt nt=>?_⟩⟩;have nHl:H pl=none:=kk.free dk3 nl;have nHt:H pt=none:=kk.free dk3 (P7 nt);refine⟨_,X7.t (k:=[bE x,bE (1+(i:Int))]) (P3 (P3 hp3 nl) nt) A2 (by rw[a6g];exact B8 ∅),?_⟩;rw[a3g];refine⟨_,_,_,_,rfl,((kk.new nHl).new nHt).new nHp,((dk3.new (hd.ne nHl)).new (hd.ne nHt)).new pd,A2,?_,?_⟩
   ·have:=a1S (fs:=fs) (t:=(x,1+(i:Int)));omega
   ·have:=hF.next x0 ∅ ∅;rw[show (1:Int)+i=(i:Int)+1 by omega,show (((i+1:Nat)):Int)=(i:Int)+1 by omega];exact this
  ·rintro σ Hc ⟨kv,cv,av,fs,rfl,kc,dc,hp,hfl,hF⟩;rw[show ((n-1).toNat:Int)=n-1 by omega] at hF;dsimp only
   refine a7r (fun σ Hc=>∃(kv cv av:Option V) (fs:⋯),σ=[some (.ref d),some (.int lo),some (.int hi),some (.int n),some (.int form),some (.ref p),kv,cv,av,none,none,none,none,none,none] /\
     Kp d H Hc/\Q3 Hc d/\Hc p=some (.dT (kvT fs))/\fs.length<=60/\Fd n fs (n-1)) (λR hR=>?_) ?_
   ·walk_at "rd";refine a1l (λ_=>?_) λ_=>hR _ _ ⟨kv,cv,av,fs,rfl,kc,dc,hp,∅,hF⟩
    refine⟨by decide,λpt nt=>⟨_,X7.t (k:=[bE 0,bE (n-1)]) (P3 hp nt) A2 (a1g ∅),?_⟩⟩;have nHt:H pt=none:=kc.free dc nt;rw[a3g];refine hR _ _ ⟨_,_,_,_,rfl,(kc.new nHt).new nHp,(dc.new (hd.ne nHt)).new pd,A2,?_,hF.add ⟨Int.le_refl 0,show (0:Int)<n-1 by omega,show n-1<n by omega⟩⟩;have:=a1S (fs:=fs) (t:=(0,n-1));omega
   ·rintro σ Hc ⟨kv,cv,av,fs,rfl,kc,dc,hp,hfl,hF⟩;walk_at "rd";refine⟨.inl ⟨∅,∅⟩,by decide,λpl nl=>?_⟩;have nHl:H pl=none:=kc.free dc nl;refine T7 (dc.new (hd.ne nHl)) λz3 H3 k3 dk3 e3=>⟨z3,rfl,by decide,?_⟩
    have hpl:H3 pl=some (.lst [V.int 0,V.int 1,V.int 3,V.int n,V.int (2*n),V.int 0]):=by rw[e3 pl (hd.ne nHl)];exact A2
    have hp3:H3 p=some (.dT (kvT fs)):=by rw[e3 p pd];exact P3 hp nl
    obtain⟨more,hmo,m0,m1⟩:∃ m:Int,atI [V.int 0,V.int 1,V.int 3,V.int n,V.int (2*n),V.int 0] (z3 % 6)=some (V.int m)/\0<=m/\m<=120:=by
     have hf:z3 % 6=0\/z3 % 6=1\/z3 % 6=2\/z3 % 6=3\/z3 % 6=4\/z3 % 6=5:=∅
     rcases hf with e | e | e | e | e | e<;>rw[e]
     ·exact⟨_,rfl,∅,∅⟩
     ·exact⟨_,rfl,∅,∅⟩
     ·exact⟨_,rfl,∅,∅⟩
     ·exact⟨_,rfl,∅,∅⟩
     ·exact⟨_,rfl,∅,∅⟩
     ·exact⟨_,rfl,∅,∅⟩
    refine⟨_,SqL.of hpl,_,hmo,?_⟩;refine⟨_,rfl,more,rfl,∅,∅,U7 (lo:=0) (n:=more.toNat) (a4I H d p lo hi n form more) ?_ ?_ ?_⟩
    ·exact⟨_,_,_,none,none,none,fs,rfl,(kc.new nHl).trans k3,dk3,hp3,∅,hF⟩
    ·rintro i σ Hc hin ⟨kv,cv,av,tv,ov,uv,fs,rfl,kc,dc,hp,hfl,hF⟩;walk_at "rd";refine T7 dc λz4 H4 k4 dk4 e4=>⟨z4,rfl,∅,T7 dk4 λz5 H5 k5 dk5 e5=>⟨z5,rfl,∅,?_⟩⟩
     have hp5:H5 p=some (.dT (kvT fs)):=by rw[e5 p pd,e4 p pd];exact hp
     have kk:=(kc.trans k4).trans k5;have s0:=b9 z4 (b:=n) ∅;have s1:=bM z4 (b:=n) ∅;have t0:=b9 z5 (b:=n) ∅;have t1:=bM z5 (b:=n) ∅;have same:a4I H d p lo hi n form more (i+1) [some (.ref d),some (.int lo),some (.int hi),some (.int n),some (.int form),some (.ref p),kv,cv,av,some (.int more),some (.int (0+(i:Int))),some (.int (z4 % n)),some (.int (z5 % n)),none,none] H5 :=
      ⟨_,_,_,_,_,_,fs,rfl,kk,dk5,hp5,hfl,hF⟩
     refine a1l (λh1=>⟨_,hp5,a1l (λh2=>?_) λ_=>same⟩) λ_=>same
     have h1':z4 % n≠z5 % n:= ~~~h1
     have h2':fs.length<200:=by rw[a6g] at h2;have:=of_decide_eq_true h2;omega
     refine⟨_,_,⟨rfl,rfl⟩,_,_,⟨rfl,rfl⟩,by decide,λpt nt=>?_⟩;have nHt:H pt=none:=kk.free dk5 nt;refine⟨_,X7.t (k:=[bE (if z5 % n<z4 % n then z5 % n else z4 % n),bE (if z5 % n>z4 % n then z5 % n else z4 % n)]) (P3 hp5 nt) A2 (a1g ∅),?_⟩;rw[a3g];refine⟨_,_,_,_,_,_,_,rfl,(kk.new nHt).new nHp,(dk5.new (hd.ne nHt)).new pd,A2,?_,hF.add ?_⟩
     ·have:=a1S (fs:=fs) (t:=(if z5 % n<z4 % n then z5 % n else z4 % n,if z5 % n>z4 % n then z5 % n else z4 % n));omega
     ·dsimp only;split<;>split<;>omega
    ·rintro σ Hc ⟨kv,cv,av,tv,ov,uv,fs,rfl,kc,dc,hp,hfl,hF⟩;walk_at "rd";refine a3N dc ∅ ∅ λpn ks H4 k4 dk4 nn hpn hperm=>?_
     have hp4:H4 p=some (.dT (kvT fs)):=k4 _ _ pd hp;refine⟨_,hp4,fs.map tl,a8u fs,(λl hl=>by obtain⟨t,_,rfl⟩:=bx.mp hl;simp[tl]),λps l pm hto _ nl=>?_⟩;obtain⟨gs,pgs,hgs⟩:=M9.of_perm hto pm;have s1:B2 H4 (upd H4 l (.lst (ps.map λx=>V.ref x.1))):=(B2.refl H4).upd nl;refine⟨⟨_,SqL.of A2⟩,λp2 n2=>?_⟩;generalize hH2:upd H4 l (.lst (ps.map λx=>V.ref x.1))=H5 at s1 n2 ⊢;have hl5:H5 l=some (.lst (ps.map λx=>V.ref x.1)):=by rw[<- hH2];exact A2
     have hgs5:=hgs.tp s1.tp;have gr:∀ t∈gs,0<=t.1/\t.1<t.2/\t.2<n:=λt ht=>hF.2.1 t (pgs.mem_iff.mp ht)
     have gl:gs.length<=200:=by rw[pgs.length_eq];exact hfl
     have kk:=kc.trans k4;refine S7 (K:=K) (xs:=ps.map λx=>V.ref x.1) (a8x H5 p2 pn gs ks) ?_ ?_ ?_ ?_
     ·exact⟨none,none,[],rfl,(B2.refl H5).upd n2,A2,(λx hx=>by cases hx),rfl⟩
     ·rintro i τ Hc _ ⟨_,_,_,rfl,sc,_⟩;exact SqL.of (sc _ _ hl5)
     ·rintro i v τ Hc hx ⟨ov,uv,ps2,rfl,sc,h2,hps2⟩ _;obtain⟨a,t,rfl,hti,hta⟩:=hgs5.get hx;have htm:=aE hti;obtain⟨g0,g1,g2⟩:=gr t htm;have hil:i<gs.length:=(au.mp hti).1;have hpn5:Hc pn=some (.tup (ks.map V.int)):=sc _ _ (s1 _ _ hpn);have a1:atI (ks.map V.int) t.1=some (V.int (nm ks t.1)):=by
       rw[<- aV g0];refine U2 ?_;rw[aH,a1K hperm g0 ∅];rw[aV g0];rfl
      have a2:atI (ks.map V.int) t.2=some (V.int (nm ks t.2)):=by
       rw[<- aV (show 0<=t.2 by omega)];refine U2 ?_;rw[aH,a1K hperm ∅ g2];rw[aV (show 0<=t.2 by omega)];rfl
      walk_at "rd";refine⟨_,SqT.of (sc _ _ hta),rfl,_,_,rfl,_,_,rfl,rfl,_,_,rfl,SqT.of hpn5,_,a1,_,_,rfl,SqT.of hpn5,_,a2,_,_,⟨rfl,rfl⟩,_,_,rfl,SqT.of hpn5,_,a1,_,_,rfl,SqT.of hpn5,_,a2,_,_,⟨rfl,rfl⟩,by decide,λpq nq=>?_⟩;have hlen2:ps2.length<=200:=by have:=hps2.len;rw[aa,aT] at this;omega
      refine⟨_,P3 h2 nq,by rw[aa];exact B8 ∅,_,_,ps2++[(pq,tl (ren ks t))],rfl,(sc.upd (sc.free nq)).upd n2,by rw[A2,aC];rfl,?_⟩;rw[bZ,hti,aC];refine M9.snoc (hps2.tp ((Tp.nw nq).trans (Tp.lst (P3 h2 nq)))) ?_;rw[A8 (B9 h2 nq).symm,A2];rfl
     ·rintro τ Hc ⟨ov,uv,ps2,rfl,sc,h2,hps2⟩;rw[aa,hgs.len,bH] at hps2;refine⟨ps2,hps2.src h2,λps3 l3 pm3 hs3 nl3=>⟨_,.inl ⟨SqL.of A2,λl4 nl4=>⟨by decide,λp5 n5=>?_⟩⟩⟩⟩;obtain⟨ts,pts,hts⟩:=hps2.perm pm3;have sc4:B2 H4 Hc:=s1.trans sc;have n4a:=sc4.free nl3;have n4b:=sc4.free (P7 nl4);have n4c:=sc4.free (P7 (P7 n5));have nHa:=kk.free dk4 n4a;have nHb:=kk.free dk4 n4b;have nHc:=kk.free dk4 n4c;refine q p5 n ts _ ((((kk.trans sc4.kp).new nHa).new nHb).new nHc) ((((dk4.same sc4).new (hd.ne nHa)).new (hd.ne nHb)).new (hd.ne nHc)) ∅ ∅ ?_ ?_
      ·exact a9m ∅ ∅ hF.1 hF.2.1 hfl (λk k0 k1=>hF.2.2 k k0 ∅) hperm (pts.trans (pgs.map _)) (hts.srt hs3)
      ·refine⟨l4,A2,ps3,P3 A2 n5,hts.tp ?_⟩;exact (((Tp.refl Hc).new nl3).new (P7 nl4)).new (P7 (P7 n5))
def a6I (H:Hp)(w0 q0 p:Addr)(n:Int)(ts:⋯)(i:Nat)(σ:St)(Hc:Hp):Prop:=∃(av bv:Option V) (as:List Addr),σ=[some (.ref w0),some (.int n),some (.ref q0),some (.ref p),av,bv]/\a5C H Hc p as (N3 n (ts.take i))
theorem a4j:C0 ["web","places","ties","rows","a","b"] ["web"] (B1 (top 22)):=by walk_at "s"
theorem a8a (F:Fun K "neighbour_rows" "neighbour_rows" (top 22) f fd)(B:Bt mg):C2 P w K mg base CX0 1 f fd ["web"] a3W:=by
 refine F.ok a4j (λvs H Q E h=>?_) (λcdv A outer s H vs Q E hr h=>?_)
 ·walk_at "h"
 ·obtain⟨w0,n,ts,rfl,hw,hn0,hn1,htl,hok,q⟩:=h;have nd:=a4j.nd;have hu:=L8 hr
  refine⟨_,(A3 (a0F (pv 0) (R9 K (n:=2) rfl (E1 (A9 (i:=1) nd rfl (.inl rfl)) (E1 (A9 (i:=2) nd rfl (.inl rfl)) Q0))))
    (A3 (W8 (i:=3) (own:=["place"]) (fr:=[]) rfl nd rfl rfl (by walk_at "w") (by walk_at "w") F0 (M7 (by rfl) B.range (A0 (pv 1) A1)) ⟨λ_ _ _ _=>⟨(A9 (i:=0) (show bR (["place"]:List Str) by decide +kernel) rfl (.inl rfl)),K7,(K6 A1)⟩⟩)
    (A3 (P2 br rfl (V2 K (pv 2)) (R9 K (n:=2) rfl (E1 (A9 (i:=4) nd rfl (.inl rfl)) (E1 (A9 (i:=5) nd rfl (.inl rfl)) Q0)))
     (A3 (N5 (N6 K (E5 (C9 K) (pv 3) (pv 4) (λ_ _=>rfl)) (A0 (pv 5) A1)))
     (A5 (N5 (N6 K (E5 (C9 K) (pv 3) (pv 5) (λ_ _=>rfl)) (A0 (pv 4) A1))))))
    (A5 (B5 (pv 3)))))),?_⟩
  walk_at "rd";obtain⟨q0,hw0,ht⟩:=hw;obtain⟨xs,hx0,hxl,hxs⟩:=ht.get;refine⟨_,SqT.of hw0,rfl,_,_,rfl,_,_,rfl,rfl,n,rfl,∅,∅,λp np=>X0 (a0M H p) ?_ ?_ ?_⟩
  ·exact⟨none,[],rfl,(B2.refl H).upd np,np,(λa ha=>by cases ha),E4.nil A2⟩
  ·rintro i τ Hc hi ⟨c,as,rfl,fr⟩;walk_at "rd";refine⟨by decide,λpq nq=>⟨_,P3 fr.rows.top nq,?_,?_⟩⟩
   ·rw[aa,fr.rows.len,eg];exact B8 ∅
   ·have:=fr.rows.snoc nq (r:=[]);refine⟨_,as++[pq],rfl,(fr.same.upd (fr.same.free nq)).upd np,np,λa ha=>?_,?_⟩
    ·rcases aj.mp ha with ha | ha
     ·exact fr.na a ha
     ·cases ag.mp ha;exact fr.same.free nq
    ·rw[aC] at this;rw[fR];exact this
  ·rintro τ H2 ⟨c,as,rfl,fr⟩;rw[<- Z7] at fr;refine⟨_,rfl,_,rfl,⟨_,SqT.of (fr.same _ _ hx0)⟩,Y5 (xs:=xs) (a6I H w0 q0 p n ts) ⟨none,none,as,rfl,by rw[cI];exact fr⟩ ?_ ?_ ?_⟩
   ·rintro i σ Hc _ ⟨_,_,_,rfl,fr⟩;exact SqT.of (fr.same _ _ hx0)
   ·rintro i v σ Hc hv ⟨av,bv,as,rfl,fr⟩;obtain⟨a,t,rfl,hti,hta⟩:=hxs i v hv;obtain⟨t0,t1,t2⟩:=hok t (aE hti);obtain⟨a1,a2,i1,c1,tp1,i2,c2,fr2⟩:=fr.step t0 t1 t2;have l1:∀ v,((nb (ts.take i) v).map V.int).length<sizeLine:=λv=>by
     rw[aa];have:=a5k (ts:=ts.take i) v;rw[aT] at this;exact B8 ∅
    walk_at "rd";refine⟨_,SqT.of (fr.same _ _ hta),rfl,_,_,rfl,_,_,rfl,rfl,_,_,rfl,SqL.of fr.rows.top,_,i1,.inl ⟨rfl,_,SqL.of c1⟩,_,rfl,_,c1,l1 _,_,_,rfl,SqL.of tp1,_,i2,.inl ⟨rfl,_,SqL.of c2⟩,_,rfl,_,c2,l1 _,_,_,as,rfl,?_⟩;rw[bZ,hti];exact fr2
   ·rintro σ Hc ⟨av,bv,as,rfl,fr⟩;rw[hxl,bH] at fr;exact⟨_,rfl,q p as Hc fr.same fr.np fr.na fr.rows⟩
def a4J (H:Hp)(w0 p:Addr)(n:Int)(ts:⋯)(i:Nat)(σ:St)(Hc:Hp):Prop:=∃(av bv:Option V) (as:List Addr),σ=[some (.ref w0),some (.ref p),av,bv]/\a5C H Hc p as (N3 n (ts.take i))
def a2J (H:Hp)(p:Addr)(n:Int)(ts:⋯)(i:Nat)(τ:St)(Hc:Hp):Prop:=∃(c:Option V) (as:List Addr),τ=[c]/\a5C H Hc p as ((N3 n ts).take i)
theorem a5T:C0 ["_law_web_here","_law_near_here","_law_one","_law_other"] ["_law_web_here"] (B1 (top 37)):=by walk_at "s"
theorem a9Q (F:Fun K "_law_near" "_law_near" (top 37) f fd)(B:Bt mg):C2 P w K mg base CX0 1 f fd ["_law_web_here"] a9s:=by
 refine F.ok a5T (λvs H Q E h=>?_) (λcdv A outer s H vs Q E hr h=>?_)
 ·walk_at "h"
 ·obtain⟨w0,n,ts,rfl,hw,hn0,hn1,htl,hok,hsr,q⟩:=h;have nd:=a5T.nd;have hu:=L8 hr
  refine⟨_,(A3 (W8 (i:=1) (own:=["_law_place"]) (fr:=[]) rfl nd rfl rfl (by walk_at "w") (by walk_at "w") F0 (M7 (by rfl) B.range (A0 (E5 (J9 K) (pv 0) A4 (λ_ _=>rfl)) A1)) ⟨λ_ _ _ _=>⟨(A9 (i:=0) (show bR (["_law_place"]:List Str) by decide +kernel) rfl (.inl rfl)),K7,(K6 A1)⟩⟩)
    (A3 (P2 br rfl (V2 K (E5 (J9 K) (pv 0) A4 (λ_ _=>rfl))) (R9 K (n:=2) rfl (E1 (A9 (i:=2) nd rfl (.inl rfl)) (E1 (A9 (i:=3) nd rfl (.inl rfl)) Q0)))
     (A3 (N5 (N6 K (E5 (C9 K) (pv 1) (pv 2) (λ_ _=>rfl)) (A0 (pv 3) A1)))
     (A5 (N5 (N6 K (E5 (C9 K) (pv 1) (pv 3) (λ_ _=>rfl)) (A0 (pv 2) A1))))))
    (A5 (B5 (N7 (own:=["_law_row"]) (fr:=[]) rfl (by walk_at "w") F0 (K4 K (pv 1)) ⟨λ_ _ _ _=>⟨(A9 (i:=0) (show bR (["_law_row"]:List Str) by decide +kernel) rfl (.inl rfl)),K7,(B0 (a0k K hr.hd) (by rfl) B.sorted eu (A0 (pv 0) A1))⟩⟩))))),?_⟩
  walk_at "rd";obtain⟨q0,hw0,ht⟩:=hw;obtain⟨xs,hx0,hxl,hxs⟩:=ht.get;refine⟨_,SqT.of hw0,_,rfl,n,rfl,∅,∅,λp np=>X0 (a0M H p) ?_ ?_ ?_⟩
  ·exact⟨none,[],rfl,(B2.refl H).upd np,np,(λa ha=>by cases ha),E4.nil A2⟩
  ·rintro i τ Hc hi ⟨c,as,rfl,fr⟩;walk_at "rd";refine⟨by decide,λpq nq=>⟨_,P3 fr.rows.top nq,?_,?_⟩⟩
   ·rw[aa,fr.rows.len,eg];exact B8 ∅
   ·have:=fr.rows.snoc nq (r:=[]);refine⟨_,as++[pq],rfl,(fr.same.upd (fr.same.free nq)).upd np,np,λa ha=>?_,?_⟩
    ·rcases aj.mp ha with ha | ha
     ·exact fr.na a ha
     ·cases ag.mp ha;exact fr.same.free nq
    ·rw[aC] at this;rw[fR];exact this
  ·rintro τ H2 ⟨c,as,rfl,fr⟩;rw[<- Z7] at fr;refine⟨_,rfl,_,_,1,_,rfl,rfl,SqT.of (fr.same _ _ hw0),rfl,_,rfl,⟨_,SqT.of (fr.same _ _ hx0)⟩,Y5 (xs:=xs) (a4J H w0 p n ts) ⟨none,none,as,rfl,by rw[cI];exact fr⟩ ?_ ?_ ?_⟩
   ·rintro i σ Hc _ ⟨_,_,_,rfl,fr⟩;exact SqT.of (fr.same _ _ hx0)
   ·rintro i v σ Hc hv ⟨av,bv,as,rfl,fr⟩;obtain⟨a,t,rfl,hti,hta⟩:=hxs i v hv;obtain⟨t0,t1,t2⟩:=hok t (aE hti);obtain⟨a1,a2,i1,c1,tp1,i2,c2,fr2⟩:=fr.step t0 t1 t2;have l1:∀ v,((nb (ts.take i) v).map V.int).length<sizeLine:=λv=>by
     rw[aa];have:=a5k (ts:=ts.take i) v;rw[aT] at this;exact B8 ∅
    walk_at "rd";refine⟨_,SqT.of (fr.same _ _ hta),rfl,_,_,rfl,_,_,rfl,rfl,_,_,rfl,SqL.of fr.rows.top,_,i1,.inl ⟨rfl,_,SqL.of c1⟩,_,rfl,_,c1,l1 _,_,_,rfl,SqL.of tp1,_,i2,.inl ⟨rfl,_,SqL.of c2⟩,_,rfl,_,c2,l1 _,_,_,as,rfl,?_⟩;rw[bZ,hti];exact fr2
   ·rintro σ Hc ⟨av,bv,as,rfl,fr⟩;rw[hxl,bH] at fr;walk_at "rd";refine⟨⟨_,SqL.of fr.rows.top⟩,λp2 n2=>S7 (K:=K) (xs:=as.map V.ref) (a2J Hc p2 n ts) ?_ ?_ ?_ ?_⟩
    ·exact⟨none,[],rfl,(B2.refl Hc).upd n2,n2,(λa ha=>by cases ha),E4.nil A2⟩
    ·rintro i τ H4 _ ⟨_,_,rfl,fr4⟩;exact SqL.of (fr4.same _ _ fr.rows.top)
    ·rintro i v τ H4 hv ⟨c,bs,rfl,fr4⟩ _;have hil:i<n.toNat:=by
      have:=(au.mp hv).1;rw[aa,fr.rows.len,P6] at this;exact this
     have hri:=Q6 (n:=n) (ts:=ts) (v:=(i:Int)) ∅ ∅;rw[cN] at hri;rw[aH] at hv;cases ha:as[i]? with
     | none=>rw[ha] at hv;cases hv
     | some a =>
     rw[ha] at hv;cases aI hv;have hra:=fr4.same _ _ (fr.rows.row i a _ ha hri);walk_at "rd";refine⟨_,.inl (SqL.of hra),λns' l pm hs nl=>?_⟩;have e:ns'=nb ts (i:Int):=a0X pm hs (b0X hok hsr _);subst e;refine⟨_,P3 fr4.rows.top nl,?_,_,bs++[l],rfl,(fr4.same.upd (fr4.same.free nl)).upd n2,n2,λb hb=>?_,?_⟩
     ·rw[aa,fr4.rows.len,aT,P6];exact B8 ∅
     ·rcases aj.mp hb with hb | hb
      ·exact fr4.na b hb
      ·cases ag.mp hb;exact fr4.same.free nl
     ·have:=fr4.rows.snoc nl (r:=nb ts (i:Int));rw[aC] at this;rw[bZ,hri];exact this
    ·rintro τ H4 ⟨c,bs,rfl,fr4⟩;rw[aa,fr.rows.len,bH] at fr4;exact q p2 bs H4 (fr.same.trans fr4.same) (fr.same.free n2) (λb hb=>fr.same.free (fr4.na b hb)) fr4.rows
def a3X:Sp:=λvs H Q _=>∃(w:Addr) (n:Int) (ts:⋯),vs=[.ref w]/\(∃ q,H w=some (.tup [.int n,.ref q])/\LPs H q ts)/\0<=n/\n<=1000/\ts.length<=1000/\P5 n ts/\ts.Pairwise Lex /\
 ∀(p:Addr) (as:List Addr) (H':Hp),B2 H H'->H p=none->(∀ a∈as,H a=none)->E4 H' p as (N3 n ts)->Q (.ref p) H'
theorem a4k:C0 ["_law_web_here","_law_near_here","_law_one","_law_other"] ["_law_web_here"] (B1 (top 37)):=by walk_at "s"
theorem a8b (F:Fun K "_law_near" "_law_near" (top 37) f fd)(B:Bt mg):C2 P w K mg base CX0 1 f fd ["_law_web_here"] a3X:=by
 refine F.ok a4k (λvs H Q E h=>?_) (λcdv A outer s H vs Q E hr h=>?_)
 ·walk_at "h"
 ·obtain⟨w0,n,ts,rfl,hw,hn0,hn1,htl,hok,hsr,q⟩:=h;have nd:=a4k.nd;have hu:=L8 hr
  refine⟨_,(A3 (W8 (i:=1) (own:=["_law_place"]) (fr:=[]) rfl nd rfl rfl (by walk_at "w") (by walk_at "w") F0 (M7 (by rfl) B.range (A0 (E5 (J9 K) (pv 0) A4 (λ_ _=>rfl)) A1)) ⟨λ_ _ _ _=>⟨(A9 (i:=0) (show bR (["_law_place"]:List Str) by decide +kernel) rfl (.inl rfl)),K7,(K6 A1)⟩⟩)
    (A3 (P2 br rfl (K4 K (E5 (J9 K) (pv 0) A4 (λ_ _=>rfl))) (R9 K (n:=2) rfl (E1 (A9 (i:=2) nd rfl (.inl rfl)) (E1 (A9 (i:=3) nd rfl (.inl rfl)) Q0)))
     (A3 (N5 (N6 K (E5 (C9 K) (pv 1) (pv 2) (λ_ _=>rfl)) (A0 (pv 3) A1)))
     (A5 (N5 (N6 K (E5 (C9 K) (pv 1) (pv 3) (λ_ _=>rfl)) (A0 (pv 2) A1))))))
    (A5 (B5 (N7 (own:=["_law_row"]) (fr:=[]) rfl (by walk_at "w") F0 (K4 K (pv 1)) ⟨λ_ _ _ _=>⟨(A9 (i:=0) (show bR (["_law_row"]:List Str) by decide +kernel) rfl (.inl rfl)),K7,(B0 (a0k K hr.hd) (by rfl) B.sorted eu (A0 (pv 0) A1))⟩⟩))))),?_⟩
  walk_at "rd";obtain⟨q0,hw0,ps,hx0,hps⟩:=hw;obtain⟨xs,hxe⟩:∃ xs,xs=ps.map λx=>V.ref x.1:=⟨_,rfl⟩
  have hxl:xs.length=ts.length:=by rw[hxe,aa];exact hps.len
  have hxs:∀(i:Nat) v,xs[i]?=some v->∃ a t,v=V.ref a/\ts[i]?=some t/\H a=some (.tup [.int t.1,.int t.2]):=λi v hv=>hps.get (by rw[<- hxe];exact hv)
  rw[<- hxe] at hx0;refine⟨_,SqT.of hw0,_,rfl,n,rfl,∅,∅,λp np=>X0 (a0M H p) ?_ ?_ ?_⟩
  ·exact⟨none,[],rfl,(B2.refl H).upd np,np,(λa ha=>by cases ha),E4.nil A2⟩
  ·rintro i τ Hc hi ⟨c,as,rfl,fr⟩;walk_at "rd";refine⟨by decide,λpq nq=>⟨_,P3 fr.rows.top nq,?_,?_⟩⟩
   ·rw[aa,fr.rows.len,eg];exact B8 ∅
   ·have:=fr.rows.snoc nq (r:=[]);refine⟨_,as++[pq],rfl,(fr.same.upd (fr.same.free nq)).upd np,np,λa ha=>?_,?_⟩
    ·rcases aj.mp ha with ha | ha
     ·exact fr.na a ha
     ·cases ag.mp ha;exact fr.same.free nq
    ·rw[aC] at this;rw[fR];exact this
  ·rintro τ H2 ⟨c,as,rfl,fr⟩;rw[<- Z7] at fr;refine⟨_,rfl,_,_,1,_,rfl,rfl,SqT.of (fr.same _ _ hw0),rfl,_,rfl,⟨_,SqL.of (fr.same _ _ hx0)⟩,T8 (xs:=xs) (a4J H w0 p n ts) ⟨none,none,as,rfl,by rw[cI];exact fr⟩ ?_ ?_ ?_⟩
   ·rintro i σ Hc _ ⟨_,_,_,rfl,fr⟩;exact SqL.of (fr.same _ _ hx0)
   ·rintro i v σ Hc hv ⟨av,bv,as,rfl,fr⟩;obtain⟨a,t,rfl,hti,hta⟩:=hxs i v hv;obtain⟨t0,t1,t2⟩:=hok t (aE hti);obtain⟨a1,a2,i1,c1,tp1,i2,c2,fr2⟩:=fr.step t0 t1 t2;have l1:∀ v,((nb (ts.take i) v).map V.int).length<sizeLine:=λv=>by
     rw[aa];have:=a5k (ts:=ts.take i) v;rw[aT] at this;exact B8 ∅
    walk_at "rd";refine⟨_,SqT.of (fr.same _ _ hta),rfl,_,_,rfl,_,_,rfl,rfl,_,_,rfl,SqL.of fr.rows.top,_,i1,.inl ⟨rfl,_,SqL.of c1⟩,_,rfl,_,c1,l1 _,_,_,rfl,SqL.of tp1,_,i2,.inl ⟨rfl,_,SqL.of c2⟩,_,rfl,_,c2,l1 _,_,_,as,rfl,?_⟩;rw[bZ,hti];exact fr2
   ·rintro σ Hc ⟨av,bv,as,rfl,fr⟩;rw[hxl,bH] at fr;walk_at "rd";refine⟨⟨_,SqL.of fr.rows.top⟩,λp2 n2=>S7 (K:=K) (xs:=as.map V.ref) (a2J Hc p2 n ts) ?_ ?_ ?_ ?_⟩
    ·exact⟨none,[],rfl,(B2.refl Hc).upd n2,n2,(λa ha=>by cases ha),E4.nil A2⟩
    ·rintro i τ H4 _ ⟨_,_,rfl,fr4⟩;exact SqL.of (fr4.same _ _ fr.rows.top)
    ·rintro i v τ H4 hv ⟨c,bs,rfl,fr4⟩ _;have hil:i<n.toNat:=by
      have:=(au.mp hv).1;rw[aa,fr.rows.len,P6] at this;exact this
     have hri:=Q6 (n:=n) (ts:=ts) (v:=(i:Int)) ∅ ∅;rw[cN] at hri;rw[aH] at hv;cases ha:as[i]? with
     | none=>rw[ha] at hv;cases hv
     | some a =>
     rw[ha] at hv;cases aI hv;have hra:=fr4.same _ _ (fr.rows.row i a _ ha hri);walk_at "rd";refine⟨_,.inl (SqL.of hra),λns' l pm hs nl=>?_⟩;have e:ns'=nb ts (i:Int):=a0X pm hs (b0X hok hsr _);subst e;refine⟨_,P3 fr4.rows.top nl,?_,_,bs++[l],rfl,(fr4.same.upd (fr4.same.free nl)).upd n2,n2,λb hb=>?_,?_⟩
     ·rw[aa,fr4.rows.len,aT,P6];exact B8 ∅
     ·rcases aj.mp hb with hb | hb
      ·exact fr4.na b hb
      ·cases ag.mp hb;exact fr4.same.free nl
     ·have:=fr4.rows.snoc nl (r:=nb ts (i:Int));rw[aC] at this;rw[bZ,hri];exact this
    ·rintro τ H4 ⟨c,bs,rfl,fr4⟩;rw[aa,fr.rows.len,bH] at fr4;exact q p2 bs H4 (fr.same.trans fr4.same) (fr.same.free n2) (λb hb=>fr.same.free (fr4.na b hb)) fr4.rows
def b2q (H:Hp)(rp al me wl:Addr)(n:Int)(ts:⋯)(ls:List Int)(u:Int)(σ:St)(Hc:Hp):Prop:=∃(ov:Option V) (fs ws:List Int),σ=[some (.ref rp),some (.int u),some (.ref al),some (.ref me),some (.ref wl),ov]/\X6 H Hc me wl fs ws/\a2b n ts (·∈ls) u fs ws/\2*(n.toNat-fs.length)+ws.length<=2*n.toNat
def b0h (H:Hp)(rp al me wl:Addr)(n:Int)(ts:⋯)(ls:List Int)(u v:Int)(m0:Nat)(j:Nat)(σ:St)(Hc:Hp):Prop:=∃(ov:Option V) (fs ws:List Int),σ=[some (.ref rp),some (.int u),some (.ref al),some (.ref me),some (.ref wl),ov]/\X6 H Hc me wl fs ws/\X5 n ts (·∈ls) u fs ws v j/\2*(n.toNat-fs.length)+ws.length<m0
theorem a4c:C0 ["_law_near_here","_law_start","_law_allowed","_law_found","_law_waiting","_law_other"] ["_law_near_here","_law_start","_law_allowed"] (B1 (top 38)):=by walk_at "s"
theorem a7T (F:Fun K "_law_reach" "_law_reach" (top 38) f fd)(B:Bt mg):C2 P w K mg base CX0 1 f fd ["_law_near_here","_law_start","_law_allowed"] (a3R K):=by
 refine F.ok a4c (λvs H Q E h=>?_) (λcdv A outer s H vs Q E hr h=>?_)
 ·walk_at "h"
 ·obtain⟨rp,as,n,ts,al,ls,u,rfl,hR,hok,hn1,htl,hal,u0,u1,q⟩:=h;have nd:=a4c.nd;have hu:=L8 hr
  refine⟨_,(A3 (B6 (i:=3) nd rfl (.inl rfl) (a3m (a1G (pv 1) Q4 a3k) rfl rfl (by simp) (by decide)))
    (A3 (B6 (i:=4) nd rfl (.inl rfl) (K6 (A0 (pv 1) A1)))
    (A3 (a4q br (I0 (b3M K hr.units) (pv 4) (K6 A1) (E8 _))
     (A5 (P2 br rfl (K4 K (E5 (C9 K) (pv 0) (b1O K (pv 4)) (λ_ _=>rfl))) (A9 (i:=5) nd rfl (.inl rfl))
      (A5 (N4 (PW.pt (a3f (I0 (b0n K) (pv 5) (pv 2) (by walk_at "w")) (a1n (a0E (a2E hu (pv 5) (pv 3))))))
       (A3 (a0u hu (pv 3) (pv 5) Q4 rfl)
       (A5 (N5 (N6 K (pv 4) (A0 (pv 5) A1)))))
       E6)))))
    (A5 (B5 (B0 (a0k K hr.hd) (by rfl) B.sorted eu (A0 (pv 3) A1))))))),?_⟩
  walk_at "rd";refine λme nme=>⟨A2,[(bE u,V.bl true)],rfl,i5 rfl,?_⟩
  rw[b1c];refine A6 nme λH1 s1 e1=>⟨by decide,λwl nwl=>A6 nwl λH2 s2 e2=>?_⟩
  have nw:H wl=none:=s1.free nwl;refine a3I (b2q H rp al me wl n ts ls u) (λ_ Hc=>srM n me wl Hc) ⟨none,[u],[u],rfl,⟨s1.trans s2,s2 _ _ e1,e2⟩,a2b.init u0 u1,by simp;omega⟩ ?_ (fun σ H Q Q' h ⟨x,e,z,q⟩=>⟨x,e,z,λp n=>let ⟨d1,d2,x1,x2,x3,x4,k,e2,q2⟩:=q p n;⟨d1,d2,x1,x2,x3,x4,k,e2,h _ _ q2⟩⟩);rintro σ Hc ⟨ov,fs,ws,rfl,sr,sh,hb⟩;refine⟨_,rfl,bi _,λpe ne=>A6 ne λHe se ee=>b4y (ns:=ws) (ms:=[]) (SqL.of (se _ _ sr.wait)) (SqL.of ee) ⟨_,rfl,a1l (λhne=>?_) λhe=>?_⟩⟩
  ·have hw0:ws≠[]:= ~~~hne
   obtain⟨ws',v,rfl⟩:=a6f hw0;have sre:=sr.mono se;obtain⟨hl1,sr1⟩:=sre.pop nw;have sh1:=sh.pop;have hm0:2*(n.toNat-fs.length)+ws'.length<srM n me wl Hc:=by rw[sr.mu,aq,cb];omega
   have hmb:srM n me wl Hc<=2*n.toNat:=by rw[sr.mu];exact hb
   obtain⟨v0,v1⟩:=sh1.rng v sh1.vin;obtain⟨a,a1,a2,a3,a4⟩:=hR.get v0 (Q6 v0 v1);have top2:=sr1.same _ _ hR.top;refine⟨_,rfl,_,rfl,.inl ⟨rfl,_,SqL.of sre.wait⟩,wl,_,_,rfl,rfl,sre.wait,hl1,_,_,_,_,rfl,rfl,SqL.of top2,a2,_,rfl,⟨_,SqL.of (sr1.same _ _ a3)⟩,T8 (K:=K) (xs:=(nb ts v).map V.int) (b0h H rp al me wl n ts ls u v (srM n me wl Hc)) ⟨_,fs,ws',rfl,sr1,sh1,hm0⟩ ?_ ?_ ?_⟩
   ·rintro j σ Hd _ ⟨_,_,_,rfl,sr2,_⟩;exact SqL.of (sr2.same _ _ a3)
   ·rintro j w σ Hd hv ⟨ov,fs,ws,rfl,sr2,sh2,hm2⟩;rw[aH] at hv;cases hy0:(nb ts v)[j]? with
    | none=>rw[hy0] at hv;cases hv
    | some y =>
    rw[hy0] at hv;cases aI hv;have hfl:=a1M sh2.nd sh2.rng;walk_at "rd";have hal2:SqL K Hd al (ls.map V.int)\/SqT K Hd al (ls.map V.int):=hal.elim (λz=>.inl (sr2.same.seq z)) λz=>.inr (sr2.same.seqT z)
    refine b2A hal2 ⟨_,rfl,a1l (λhA=>⟨_,X8.k (k:=bE y) sr2.met,?_⟩) λhA=>⟨_,fs,ws,rfl,sr2,sh2.skip hy0 (.inl (~~~hA)),hm2⟩⟩;rw[a0e];refine a1l (λhB=>?_) λhB=>⟨_,fs,ws,rfl,sr2,sh2.skip hy0 (.inr (~~~hB)),hm2⟩
    have hyl:y∈ls:= ~~~hA
    have hyf:y∉fs:= ~~~hB
    have sh3:=sh2.add hok hy0 hyl hyf;have hfl3:=a1M sh3.nd sh3.rng;rw[aq,cb] at hfl3;refine⟨_,X7.k (k:=bE y) sr2.met (a0K ∅),?_⟩;rw[a3h];have hwt:(upd Hd me (.dK (kvI (a0P fs y)))) wl=some (.lst (ws.map V.int)):=by rw[A8 sr2.ne.symm];exact sr2.wait
    have hwl:ws.length<=3000:=∅
    refine⟨.inl ⟨rfl,_,SqL.of hwt⟩,_,hwt,by rw[aa];exact B8 ∅,_,fs++[y],ws++[y],rfl,sr2.add nme nw hyf,sh3,?_⟩;rw[aq,aq,cb];omega
   ·rintro σ Hd ⟨ov,fs,ws,rfl,sr2,sh2,hm2⟩;rw[aa] at sh2;exact⟨⟨_,fs,ws,rfl,sr2,sh2.done (ak _),∅⟩,by rw[sr2.mu];exact hm2⟩
  ·have hw0:ws=[]:= ~~~he
   subst hw0;walk_at "rd";refine⟨fs,.inr (.inr ⟨_,se _ _ sr.met,a4G fs⟩),λns l pm hs nl=>A6 nl λH4 s4 e4=>?_⟩;have s3:=sr.same.trans se;refine q l ns H4 (s3.trans s4) (s3.free nl) e4 (Z1 pm hs sh.nd) λx=>?_
   rw[pm.mem_iff];exact sh.fin x
def a2w (K:ae):Sp:=λvs H Q _=>∃(np:Addr) (as:List Addr) (n:Int) (ts:⋯) (pl:Addr) (us:List Int),vs=[.ref np,.ref pl]/\E4 H np as (N3 n ts)/\P5 n ts/\n<=60/\ts.length<=1000/\H pl=some (.lst (us.map V.int))/\us.Nodup/\(∀ x∈us,0<=x/\x<n)/\∀(b:Bool) (H':Hp),B2 H H'->(b=true↔Hng ts us)->Q (.bl b) H'
theorem a2z:C0 ["_law_near_here","_law_places"] ["_law_near_here","_law_places"] (B1 (top 39)):=by walk_at "s"
theorem a6x (F:Fun K "_law_hang" "_law_hang" (top 39) f fd)(B:Bt mg)(D1:Df K mg "_law_reach" st1 f1 fd1 ["_law_near_here","_law_start","_law_allowed"])(G1:C2 P w K mg base CX0 1 f1 fd1 ["_law_near_here","_law_start","_law_allowed"] (a3R K)):C2 P w K mg base CX0 2 f fd ["_law_near_here","_law_places"] (a2w K):=by
 refine F.ok a2z (λvs H Q E h=>?_) (λcdv A outer s H vs Q E hr h=>?_)
 ·walk_at "h"
 ·obtain⟨np,as,n,ts,pl,us,rfl,hR,hok,h60,hl,hpl,hnd,hus,q⟩:=h;have nd:=a2z.nd;have hu:=L8 hr;refine⟨_,(A5 (B5 (Z9 (S6 a4t (B0 (Y9 K) (by rfl) B.len bG (A0 (pv 1) A1)) A4 (E8 _)) (a0H (S6 a1e (B0 (Y9 K) (by rfl) B.len bG (A0 (B4 G1 D1 hr.m (A0 (pv 0) (A0 (E5 (C9 K) (pv 1) A4 (λ_ _=>rfl)) (A0 (pv 1) A1)))) A1)) (B0 (Y9 K) (by rfl) B.len bG (A0 (pv 1) A1)) (E8 _)))))),?_⟩;walk_at "rd";have hul:=a1M hnd hus;refine⟨_,.inl (SqL.of hpl),?_⟩;cases us with
  | nil =>
   rw[if_neg (by simp)];exact q false H (B2.refl H) ⟨λh=>(by cases h),λh=>absurd rfl h.1⟩
  | cons u r =>
   rw[if_pos (by simp)];obtain⟨u0,u1⟩:=hus u (by simp);have hat:atI ((u::r).map V.int) 0=some (.int u):=by show atI (V.int u::r.map V.int) 0=_;unfold atI ixN;simp
   refine⟨_,SqL.of hpl,_,hat,np,as,n,ts,pl,u::r,u,rfl,hR,hok,∅,∅,.inl (SqL.of hpl),u0,u1,λlt zs H5 s5 n5 e5 zsr hzs=>?_⟩;refine⟨lt,rfl,_,.inl (SqL.of e5),_,.inl (SqL.of (s5 _ _ hpl)),q _ H5 s5 ?_⟩;have hsub:zs ⊆ u::r:=λx hx=>((hzs x).mp hx).mem (by simp)
   rw[decide_eq_true_iff,aa,aa];constructor
   ·intro e;have:=b2b (Y2 zsr) hsub ∅ hnd;exact a5s hok (by simp) λy hy=>(hzs y).mp (this y hy)
   ·intro h;have h1:=a1L (Y2 zsr) hsub;have h2:=a1L hnd (l:=zs) λx hx=>(hzs x).mpr (h.2 u (by simp) x hx)
    omega
theorem a5R:C0 ["thing"] ["thing"] (B1 (top 11)):=by walk_at "s"
theorem a9O (F:Fun K "is_int" "is_int" (top 11) f fd)(B:Bt mg)(C:Bt2 mg):C2 P w K mg base CX0 1 f fd ["thing"] a5N:=by
 refine F.ok a5R (λvs H Q E h=>?_) (λcdv A outer s H vs Q E hr h=>?_)
 ·walk_at "h"
 ·obtain⟨x,T,rfl,hx,q⟩:=h;have nd:=a5R.nd;have hu:=L8 hr;refine⟨_,(A5 (B5 (Z9 (B0 (a6E K) (by rfl) C.isinstance cG (A0 (pv 0) (A0 (a1H (by rfl) B.int boot_int) A1))) (a0H (a7J (B0 (a6E K) (by rfl) C.isinstance cG (A0 (pv 0) (A0 (a1H (by rfl) C.bool boot_bool) A1)))))))),?_⟩;walk_at "rd";refine⟨_,_,⟨rfl,rfl⟩,_,hx.ty,_,Y4 hx (.inl rfl),?_⟩;have e:=b2n hx;cases h1:a5q T "int" with
  | true =>
   rw[if_pos rfl];rw[h1,gk] at e;refine⟨_,_,⟨rfl,rfl⟩,_,hx.ty,_,Y4 hx (.inr (.inl rfl)),?_⟩;rw[e];exact q
  | false =>
   rw[if_neg (by decide)];rw[h1,fk] at e;rw[<- e] at q;exact q
theorem a4g:C0 ["thing","least","most"] ["thing","least","most"] (B1 (top 12)):=by walk_at "s"
theorem a7X (F:Fun K "is_between" "is_between" (top 12) f fd)(B:Bt mg)(D1:Df K mg "is_int" st1 f1 fd1 ["thing"])(G1:C2 P w K mg base CX0 1 f1 fd1 ["thing"] a5N):C2 P w K mg base CX0 2 f fd ["thing","least","most"] a1z:=by
 refine F.ok a4g (λvs H Q E h=>?_) (λcdv A outer s H vs Q E hr h=>?_)
 ·walk_at "h"
 ·obtain⟨x,T,lo,hi,rfl,hx,q⟩:=h;have nd:=a4g.nd;have hu:=L8 hr;refine⟨_,(A5 (B5 (Z9 (B4 G1 D1 hr.m (A0 (pv 0) A1)) (Z9 (S6 a7R (pv 1) (pv 0) (E8 _)) (a0H (S6 a7R (pv 0) (pv 2) (E8 _))))))),?_⟩;walk_at "rd";refine⟨x,T,rfl,hx,_,rfl,?_⟩;cases h1:isI x with
  | true =>
   rw[if_pos rfl];obtain⟨i,rfl⟩:=b0e h1;refine⟨i,rfl,?_⟩;unfold a0y at q;dsimp only at q;by_cases h2:lo<=i
   ·rw[if_pos (~~~h2)];rw[decide_eq_true h2,gk] at q;exact⟨i,rfl,q⟩
   ·rw[if_neg (~~~h2)];rw[decide_eq_false h2,fk] at q;exact q
  | false =>
   rw[if_neg (by decide)];rw[b0y h1] at q;exact q
theorem a4e:C0 ["thing"] ["thing"] (B1 (top 17)):=by walk_at "s"
theorem a7V (F:Fun K "is_pair" "is_pair" (top 17) f fd)(B:Bt mg)(C:Bt2 mg):C2 P w K mg base CX0 1 f fd ["thing"] a1y:=by
 refine F.ok a4e (λvs H Q E h=>?_) (λcdv A outer s H vs Q E hr h=>?_)
 ·walk_at "h"
 ·obtain⟨x,T,rfl,hx,q⟩:=h;have nd:=a4e.nd;have hu:=L8 hr;refine⟨_,(A5 (B5 (Z9 (B0 (a6E K) (by rfl) C.isinstance cG (A0 (pv 0) (A0 (a1H (by rfl) B.tuple dw) A1))) (a0H (S6 a1e (B0 (Y9 K) (by rfl) B.len bG (A0 (pv 0) A1)) A4 (E8 _)))))),?_⟩;walk_at "rd";refine⟨_,_,⟨rfl,rfl⟩,_,hx.ty,_,Y4 hx (.inr (.inr rfl)),?_⟩;cases h1:a5q T "tuple" with
  | true =>
   rw[if_pos rfl];cases hx with
   | tup e =>
    rw[a5B e] at q;refine⟨_,rfl,_,.inr (SqT.of e),?_⟩;refine Eq.mp (congrArg (λb=>Q (V.bl b) H) ?_) q;rw[eV];simp;omega
   | _=>cases h1
  | false =>
   rw[if_neg (by decide)];rw[a6T hx h1] at q;exact q
theorem a5Q:C0 ["thing","places","a","b"] ["thing","places"] (B1 (top 18)):=by walk_at "s"
theorem a9N (F:Fun K "is_tie" "is_tie" (top 18) f fd)(B:Bt mg)(D1:Df K mg "is_pair" st1 f1 fd1 ["thing"])(G1:C2 P w K mg base CX0 1 f1 fd1 ["thing"] a1y)(D2:Df K mg "is_between" st2 f2 fd2 ["thing","least","most"])(G2:C2 P w K mg base CX0 2 f2 fd2 ["thing","least","most"] a1z):C2 P w K mg base CX0 3 f fd ["thing","places"] a5M:=by
 refine F.ok a5Q (λvs H Q E h=>?_) (λcdv A outer s H vs Q E hr h=>?_)
 ·walk_at "h"
 ·obtain⟨x,T,n,rfl,hx,hyz,q⟩:=h;have nd:=a5Q.nd;have hu:=L8 hr
  refine⟨_,(A3 (N4 (Q7 (R8 (B4 G1 D1 hr.m (A0 (pv 0) A1))))
     (A5 (B5 Q4))
     E6)
    (A3 (a0F (pv 0) (R9 K (n:=2) rfl (E1 (A9 (i:=2) nd rfl (.inl rfl)) (E1 (A9 (i:=3) nd rfl (.inl rfl)) Q0))))
    (A5 (B5 (Z9 (B4 G2 D2 hr.m (A0 (pv 2) (A0 A4 (A0 (A7 S0 (pv 1) A4) A1)))) (a0H (B4 G2 D2 hr.m (A0 (pv 3) (A0 (A7 O0 (pv 2) A4) (A0 (A7 S0 (pv 1) A4) A1)))))))))),?_⟩
  walk_at "rd";refine⟨x,T,rfl,hx,?_⟩;cases hp:P9 H x with
  | none =>
   unfold a2g at q;rw[hp] at q;refine⟨_,rfl,?_⟩;rw[if_pos (by rfl)];exact q
  | some yz =>
   obtain⟨y,z⟩:=yz;obtain⟨a,rfl,ha⟩:=Y8 hp;obtain⟨⟨Ty,hy⟩,Tz,hz⟩:=hyz y z hp;unfold a2g at q;rw[hp] at q;dsimp only at q;refine⟨_,rfl,?_⟩;rw[if_neg (by simp)];refine⟨a,rfl,_,SqT.of ha,rfl,y,_,rfl,z,_,rfl,rfl,y,Ty,0,n-1,rfl,hy,_,rfl,?_⟩;cases hb:a0y y 0 (n-1) with
   | true =>
    rw[hb,gk] at q;rw[if_pos rfl];obtain⟨i,rfl⟩:∃ i,y=.int i:=by
     cases y<;>first | exact⟨_,rfl⟩ | cases hb
    exact⟨i,rfl,z,Tz,i+1,n-1,rfl,hz,q⟩
   | false =>
    rw[hb,fk] at q;rw[if_neg (by decide)];exact q
def a0T (K:ae):Sp:=λvs H Q _=>∃(n:Nat),vs=[.int n]/\n<=100/\∀ p H',B2 H H'->H p=none->H' p=some (.dK (nKv n))->Q (.ref p) H'
def b2v (Hb:Hp)(p:Addr)(i:Nat)(τ:St)(Hc:Hp):Prop:=∃ c:Option V,τ=[c]/\B2 Hb Hc/\Hc p=some (.dK (nKv i))
theorem a0Z:C0 ["many"] ["many"] (B1 (top 27)):=by walk_at "s"
theorem a4v (F:Fun K "numbers_below" "numbers_below" (top 27) f fd)(B:Bt mg)(C5:Bt5 mg):C2 P w K mg base CX0 1 f fd ["many"] (a0T K):=by
 refine F.ok a0Z (λvs H Q E h=>?_) (λcdv A outer s H vs Q E hr h=>?_)
 ·walk_at "h"
 ·obtain⟨n,rfl,hn,q⟩:=h;have nd:=a0Z.nd;have hu:=L8 hr;refine⟨_,(A5 (B5 (a7N (own:=["number"]) (fr:=[]) false hu rfl (by walk_at "w") F0 (M7 (by rfl) B.range (A0 (pv 0) A1)) ⟨λ_ _ _ _=>⟨(A9 (i:=0) (show bR (["number"]:List Str) by decide +kernel) rfl (.inl rfl)),K7,(C6 M8 (by rfl) C5.str fA (A0 (pv 0) A1)),(pv 0)⟩⟩))),?_⟩;walk_at "rd";refine⟨∅,∅,λp np=>a8T (b2v H p) ⟨none,rfl,(B2.refl H).upd np,A2⟩ ?_ ?_⟩
  ·rintro i τ Hc hi ⟨c,rfl,sc,hc⟩;walk_at "rd";have l:=a6b i;refine⟨?_,_,.inl ⟨nKv i,.inr (tS (0+i)),hc,rfl,B8 ∅,rfl⟩,_,rfl,sc.upd np,?_⟩
   ·have:(0+(i:Int)).natAbs<100:=∅
    have h2:=jv (n:=(0+(i:Int)).natAbs) (k:=1920);by_cases h0:(0+(i:Int)).natAbs=0
    ·rw[h0];decide
    ·exact (h2 h0).mpr (dJ this (aZ (by decide:100<2 ^ 7) (jd (by decide) (by decide))))
   ·rw[A2,i8];rfl
  ·rintro τ Hc ⟨c,rfl,sc,hc⟩;rw[cN] at hc;exact q p Hc sc np hc
def a3V (K:ae):Sp:=λvs H Q _=>∃(w d:Addr) (ws:List Str) (m:Nat),vs=[.ref w,.ref d]/\SqL K H w (ws.map V.str)/\H d=some (.dK (nKv m))/\ws.length<=100000 /\
 ∀ p H',B2 H H'->H p=none->H' p=some (.tup (ws.map (nOf m)))->Q (.ref p) H'
def b2u (Hb:Hp)(l d:Addr)(m:Nat)(ws:List Str)(i:Nat)(τ:St)(Hc:Hp):Prop:=∃ c:Option V,τ=[c,some (.ref d)]/\B2 Hb Hc/\Hc l=some (.lst ((ws.take i).map (nOf m)))
theorem a4i:C0 ["words","numbers"] ["words","numbers"] (B1 (top 28)):=by walk_at "s"
theorem a7Z (F:Fun K "numbers_in" "numbers_in" (top 28) f fd)(B:Bt mg):C2 P w K mg base CX0 1 f fd ["words","numbers"] (a3V K):=by
 refine F.ok a4i (λvs H Q E h=>?_) (λcdv A outer s H vs Q E hr h=>?_)
 ·walk_at "h"
 ·obtain⟨w,d,ws,m,rfl,hw,hd,hl,q⟩:=h;have nd:=a4i.nd;have hu:=L8 hr;refine⟨_,(A5 (B5 (C6 (V8 K) (by rfl) B.tuple dw (A0 (N7 (own:=["word"]) (fr:=[("numbers",1)]) rfl (by walk_at "w") (U6 rfl rfl F0) (K4 K (pv 0)) ⟨λ_ _ _ _=>⟨(A9 (i:=0) (show bR (["word","numbers"]:List Str) by decide +kernel) rfl (.inl rfl)),K7,(a7M hu (pv 1) (pv 0) ⟨rfl,rfl,rfl,rfl⟩)⟩⟩) A1)))),?_⟩;walk_at "rd";refine⟨⟨_,hw⟩,λl nl=>S7 (K:=K) (xs:=ws.map V.str) (b2u H l d m ws) ⟨none,rfl,(B2.refl H).upd nl,A2⟩ ?_ ?_ ?_⟩
  ·rintro i τ Hc _ ⟨_,rfl,sc,_⟩;exact sc.seq hw
  ·rintro i v τ Hc hv ⟨c,rfl,sc,hc⟩ _;rw[aH] at hv;obtain⟨x,hx,rfl⟩:=dP.mp hv;walk_at "rd";have hdc:=sc _ _ hd;refine⟨.inl ⟨_,.inl hdc⟩,_,X8.k (k:=.inr x) hdc,_,hc,by rw[aa,aT];exact B8 ∅,_,rfl,sc.upd nl,?_⟩;rw[A2,di,hx,aC];rfl
  ·rintro τ Hc ⟨c,rfl,sc,hc⟩;rw[aa,bH] at hc;exact⟨_,.inl ⟨SqL.of hc,λp np=>A6 np λH2 s2 e2=>q p H2 (sc.trans s2) (sc.free np) e2⟩⟩
def nxB (ts:⋯)(i:Nat):Bool:=HT.lexLt (tl (ts.getD i (0,0))) (tl (ts.getD (i+1) (0,0)))
def a7x (ts:⋯):Bool:=(dE (ts.length-1)).all (nxB ts)
theorem a9v {ts:⋯}(h:ts.Pairwise Lex):a7x ts=true:=by
 refine bI.mpr λi hi=>?_
 have hi':=bQ.mp hi;have:=cJ.mp h i (i+1) ∅ ∅ ∅;unfold nxB;rw[show ts.getD i (0,0)=ts[i] by simp[List.getD,show i<ts.length by omega],show ts.getD (i+1) (0,0)=ts[i+1] by simp[List.getD,show i+1<ts.length by omega]];exact a1q.mpr this
def a0S:Sp:=λvs H Q _=>∃(p:Addr) (ps:List (Addr×List Int)) (ts:⋯),vs=[.ref p]/\H p=some (.tup (ps.map λx=>V.ref x.1))/\M9 H ps ts/\ts.length<=100000/\Q (.bl (a7x ts)) H
def b0g (H:Hp)(p:Addr)(ts:⋯)(i:Nat)(σ:St)(Hc:Hp):Prop:=∃ a:Option V,σ=[some (.ref p),a]/\Hc=H/\∀ j,j<i->nxB ts j=true
theorem a0Y:C0 ["items","at"] ["items"] (B1 (top 19)):=by walk_at "s"
theorem a4u (F:Fun K "is_rising" "is_rising" (top 19) f fd)(B:Bt mg):C2 P w K mg base CX0 1 f fd ["items"] a0S:=by
 refine F.ok a0Y (λvs H Q E h=>?_) (λcdv A outer s H vs Q E hr h=>?_)
 ·walk_at "h"
 ·obtain⟨p,ps,ts,rfl,hp,hps,hz,q⟩:=h;have nd:=a0Y.nd;have hu:=L8 hr
  refine⟨_,(A3 (P2 br rfl (a2C (by rfl) B.range (A0 A4 (A0 (B0 (Y9 K) (by rfl) B.len bG (A0 (pv 0) A1)) A1))) (A9 (i:=1) nd rfl (.inl rfl))
     (A5 (N4 (Q7 (I0 (b4B K hr.units0) (E5 (J9 K) (pv 0) (A7 S0 (pv 1) A4) (λ_ _=>rfl)) (E5 (J9 K) (pv 0) (pv 1) (λ_ _=>rfl)) (E8 _)))
      (A5 (B5 Q4))
      E6)))
    (A5 (B5 Q4))),?_⟩
  walk_at "rd";have hpl:=hps.len;have hlm:(ps.map λx=>V.ref x.1).length=ts.length:=by rw[aa];exact hpl
  refine⟨_,rfl,p,_,rfl,.inr (SqT.of hp),1,_,rfl,⟨by decide,by decide,∅,∅⟩,U7 (lo:=1) (n:=(((ps.map λx=>V.ref x.1).length:Int)-1).toNat) (b0g H p ts) ⟨none,rfl,rfl,λj hj=>absurd hj (Nat.not_lt_zero _)⟩ ?_ ?_⟩
  ·rintro i σ Hc hi ⟨a,rfl,rfl,hb⟩;have hil:i+1<ts.length:=∅
   have at':∀ k (hk:k<ts.length),∃ b,atI (ps.map λx=>V.ref x.1) (k:Int)=some (.ref b)/\Hc b=some (.tup ([(ts.getD k (0,0)).1,(ts.getD k (0,0)).2].map V.int)):=λk hk=>by
    have hk2:k<(ps.map λx=>V.ref x.1).length:=∅
    obtain⟨b,t,e1,e2,e3⟩:=hps.get (i:=k) (aA hk2);refine⟨b,U2 (by rw[aA hk2,e1]),?_⟩;have:ts.getD k (0,0)=t:=by rw[fc,e2];rfl
    rw[this];exact e3
   obtain⟨b1,f1,g1⟩:=at' i ∅;obtain⟨b2,f2,g2⟩:=at' (i+1) hil;walk_at "rd";refine⟨_,SqT.of hp,_,?_,_,SqT.of hp,_,?_,b1,b2,_,_,rfl,rfl,SqT.of g1,SqT.of g2,_,rfl,?_⟩
   ·rw[show (1:Int)+(i:Int)-1=(i:Int) by omega];exact f1
   ·rw[show (1:Int)+(i:Int)=((i+1:Nat):Int) by omega];exact f2
   ·show (if (!nxB ts i)=true then _ else _);cases hx:nxB ts i with
    | true =>
     rw[if_neg (by decide)];refine⟨_,rfl,rfl,λj hj=>?_⟩;rcases cf j i with h | h
     ·exact hb j h
     ·have:j=i:=∅
      rw[this];exact hx
    | false =>
     rw[if_pos (by rfl)];have:a7x ts=false:=by
      rw[<- Bool.not_eq_true];intro h;have:=bI.mp h i (bQ.mpr ∅);rw[hx] at this;cases this
     rw[this] at q;exact q
  ·rintro σ Hc ⟨a,rfl,rfl,hb⟩;have:a7x ts=true:=bI.mpr λj hj=>hb j (by have:=bQ.mp hj;omega)
   rw[this] at q;exact q
theorem a9u {ts:⋯}(h:a7x ts=true):ts.Pairwise Lex:=by
 have h1:∀ i (h:i+1<ts.length),Lex ts[i] ts[i+1]:=λi hi=>by
  have:=bI.mp h i (bQ.mpr ∅);unfold nxB at this;rw[show ts.getD i (0,0)=ts[i] by simp[List.getD,show i<ts.length by omega],show ts.getD (i+1) (0,0)=ts[i+1] by simp[List.getD,hi]] at this;exact a1q.mp this
 have key:∀ d i (h:i+d+1<ts.length),Lex ts[i] ts[i+d+1]:=by
  intro d;induction d with
  | zero=>exact λi hi=>h1 i hi
  | succ d ih =>
   intro i hi;have a:=ih i ∅;have b:=h1 (i+d+1) ∅;change Lex ts[i] (ts[i+d+1+1]'∅);unfold Lex at a b ⊢;omega
 refine List.pairwise_iff_getElem.mpr λi j hi hj hij=>?_
 have:=key (j-i-1) i ∅;simpa [show i+(j-i-1)+1=j by omega] using this
theorem a7w {H:Hp}{n:Int}{a:Addr}{xs:List V}(e:H a=some (.tup xs)){us:⋯}(h:a9l H n (.ref a) us):∀ x∈xs,a2g H x n=true:=by
 obtain⟨b,eb,⟨ps,h1,h2⟩,h3,_⟩:=h;cases eb;rw[e] at h1;cases h1;exact a9o h2 h3
def a3S:Sp:=λvs H Q _=>∃(x:V) (T:String) (n:Int),vs=[x,.int n]/\Pl H x T/\PlD H 2 x/\(∀ a xs,x=.ref a->H a=some (.tup xs)->xs.length<=100000)/\∀ b:Bool,(b=true↔∃ us,a9l H n x us)->Q (.bl b) H
def b0i (H:Hp)(p:Addr)(n:Int)(xs:List V)(i:Nat)(σ:St)(Hc:Hp):Prop:=∃ a:Option V,σ=[some (.ref p),some (.int n),a]/\Hc=H/\∀ x∈xs.take i,a2g H x n=true
theorem a4d:C0 ["thing","places","item"] ["thing","places"] (B1 (top 20)):=by walk_at "s"
theorem a7U (F:Fun K "is_tie_row" "is_tie_row" (top 20) f fd)(B:Bt mg)(D1:Df K mg "is_tie" st1 f1 fd1 ["thing","places"])(G1:C2 P w K mg base CX0 3 f1 fd1 ["thing","places"] a5M)(D2:Df K mg "is_rising" st2 f2 fd2 ["items"])(G2:C2 P w K mg base CX0 1 f2 fd2 ["items"] a0S)(C:Bt2 mg):C2 P w K mg base CX0 4 f fd ["thing","places"] a3S:=by
 refine F.ok a4d (λvs H Q E h=>?_) (λcdv A outer s H vs Q E hr h=>?_)
 ·walk_at "h"
 ·obtain⟨x,T,n,rfl,hx,hd,hlen,q⟩:=h;have nd:=a4d.nd;have hu:=L8 hr
  refine⟨_,(A3 (N4 (Q7 (R8 (B0 (a6E K) (by rfl) C.isinstance cG (A0 (pv 0) (A0 (a1H (by rfl) B.tuple dw) A1)))))
     (A5 (B5 Q4))
     E6)
    (A3 (P2 br rfl (V2 K (pv 0)) (A9 (i:=2) nd rfl (.inl rfl))
     (A5 (N4 (Q7 (R8 (B4 G1 D1 hr.m (A0 (pv 2) (A0 (pv 1) A1)))))
      (A5 (B5 Q4))
      E6)))
    (A5 (B5 (B4 G2 D2 hr.m (A0 (pv 0) A1)))))),?_⟩
  walk_at "rd";refine⟨_,_,⟨rfl,rfl⟩,_,hx.ty,_,Y4 hx (.inr (.inr rfl)),?_⟩;cases h1:a5q T "tuple" with
  | false =>
   rw[if_pos (by rfl)];refine q false ⟨λh=>(by cases h),λ⟨us,a,e,⟨ps,h2,_⟩,_⟩=>?_⟩;subst e;cases hx with
   | lst e=>rw[e] at h2;cases h2
   | tup e=>cases h1
   | dK e=>rw[e] at h2;cases h2
   | dT e=>rw[e] at h2;cases h2
  | true =>
   rw[if_neg (by decide)];cases hx with
   | @tup p xs hp =>
    have hl:=hlen p xs rfl hp;refine⟨_,rfl,p,rfl,⟨_,SqT.of hp⟩,Y5 (K:=K) (xs:=xs) (b0i H p n xs) ⟨none,rfl,rfl,λx hx=>(by rw[cI] at hx;cases hx)⟩ ?_ ?_ ?_⟩
    ·rintro i σ Hc _ ⟨_,rfl,rfl,_⟩;exact SqT.of hp
    ·rintro i v σ Hc hv ⟨a,rfl,rfl,hs⟩;have hm:=aE hv;have hdv:=hd.2 p xs rfl hp v hm;obtain⟨Tv,hTv⟩:=hdv.pl;walk_at "rd";refine⟨v,Tv,n,rfl,hTv,λy z e=>?_,?_⟩
     ·obtain⟨a',rfl,ea'⟩:=Y8 e;exact⟨(hdv.2 a' _ rfl ea' y (by simp)).pl,(hdv.2 a' _ rfl ea' z (by simp)).pl⟩
     ·refine⟨_,rfl,?_⟩;cases hb:a2g Hc v n with
      | false =>
       rw[if_pos (by rfl)];refine q false ⟨λh=>(by cases h),λ⟨us,hr⟩=>?_⟩;have:=a7w hp hr v hm;rw[hb] at this;cases this
      | true =>
       rw[if_neg (by decide)];refine⟨_,rfl,rfl,λx hx=>?_⟩;rw[a0C hv] at hx;rcases aj.mp hx with hx | hx
       ·exact hs x hx
       ·rw[ag.mp hx];exact hb
    ·rintro σ Hc ⟨a,rfl,rfl,hs⟩;rw[bH] at hs;obtain⟨ps,us,rfl,hps,hok⟩:=a5F hs;have hul:us.length<=100000:=by rw[<- hps.len];rw[aa] at hl;exact hl
     walk_at "rd";refine⟨p,ps,us,rfl,hp,hps,hul,q _ ⟨λh=>⟨us,p,rfl,⟨ps,hp,hps⟩,hok,a9u h⟩,λ⟨us',a',e',ht',_,hx'⟩=>?_⟩⟩;cases e';cases ht'.inj ⟨ps,hp,hps⟩;exact a9v hx'
   | _=>cases h1
def b2s (H:Hp)(rp am me wl:Addr)(n:Int)(ts:⋯)(ls:List Int)(u:Int)(σ:St)(Hc:Hp):Prop:=∃(pv ov:Option V) (fs ws:List Int),σ=[some (.ref rp),some (.ref am),some (.int u),some (.ref me),some (.ref wl),pv,ov]/\X6 H Hc me wl fs ws/\a2b n ts (·∈ls) u fs ws/\2*(n.toNat-fs.length)+ws.length<=2*n.toNat
def b0j (H:Hp)(rp am me wl:Addr)(n:Int)(ts:⋯)(ls:List Int)(u v:Int)(m0:Nat)(j:Nat)(σ:St)(Hc:Hp):Prop:=∃(ov:Option V) (fs ws:List Int),σ=[some (.ref rp),some (.ref am),some (.int u),some (.ref me),some (.ref wl),some (.int v),ov]/\X6 H Hc me wl fs ws/\X5 n ts (·∈ls) u fs ws v j/\2*(n.toNat-fs.length)+ws.length<m0
theorem a4f:C0 ["rows","among","start","met","waiting","place","other"] ["rows","among","start"] (B1 (top 23)):=by walk_at "s"
theorem a7W (F:Fun K "piece_from" "piece_from" (top 23) f fd)(B:Bt mg):C2 P w K mg base CX0 1 f fd ["rows","among","start"] a3T:=by
 refine F.ok a4f (λvs H Q E h=>?_) (λcdv A outer s H vs Q E hr h=>?_)
 ·walk_at "h"
 ·obtain⟨rp,as,n,ts,am,ls,u,rfl,hR,hok,hn1,htl,ham,u0,u1,q⟩:=h;have nd:=a4f.nd;have hu:=L8 hr
  refine⟨_,(A3 (B6 (i:=3) nd rfl (.inl rfl) (a3m (a1G (pv 2) Q4 a3k) rfl rfl (by simp) (by decide)))
    (A3 (B6 (i:=4) nd rfl (.inl rfl) (K6 (A0 (pv 2) A1)))
    (A3 (a4q br (a7d K (pv 4) (λ_=>rfl))
     (A3 (B6 (i:=5) nd rfl (.inl rfl) (b1O K (pv 4)))
     (A5 (P2 br rfl (K4 K (E5 (C9 K) (pv 0) (pv 5) (λ_ _=>rfl))) (A9 (i:=6) nd rfl (.inl rfl))
      (A5 (N4 (PW.pt (a3f (a0E (a7P hu (pv 6) (pv 1))) (a1n (a0E (a2E hu (pv 6) (pv 3))))))
       (A3 (a0u hu (pv 3) (pv 6) Q4 rfl)
       (A5 (N5 (N6 K (pv 4) (A0 (pv 6) A1)))))
       E6))))))
    (A5 (B5 (C6 (V8 K) (by rfl) B.tuple dw (A0 (B0 (a0k K hr.hd) (by rfl) B.sorted eu (A0 (pv 3) A1)) A1))))))),?_⟩
  walk_at "rd";refine λme nme=>⟨A2,[(bE u,V.bl true)],rfl,i5 rfl,?_⟩
  rw[b1c];refine A6 nme λH1 s1 e1=>⟨by decide,λwl nwl=>A6 nwl λH2 s2 e2=>?_⟩
  have nw:H wl=none:=s1.free nwl;refine a3I (b2s H rp am me wl n ts ls u) (λ_ Hc=>srM n me wl Hc) ⟨none,none,[u],[u],rfl,⟨s1.trans s2,s2 _ _ e1,e2⟩,a2b.init u0 u1,by simp;omega⟩ ?_ (fun σ H Q Q' h ⟨x,e,k,t,q⟩=>⟨x,e,k,t,h _ _ q⟩);rintro σ Hc ⟨pv,ov,fs,ws,rfl,sr,sh,hb⟩;refine⟨_,rfl,_,.inl ⟨_,SqL.of sr.wait,rfl⟩,a1l (λhne=>?_) λhe=>?_⟩
  ·have hw0:ws≠[]:=λe=>by subst e;simp at hne
   obtain⟨ws',v,rfl⟩:=a6f hw0;obtain⟨hl1,sr1⟩:=sr.pop nw;have sh1:=sh.pop;have hm0:2*(n.toNat-fs.length)+ws'.length<srM n me wl Hc:=by rw[sr.mu,aq,cb];omega
   have hmb:srM n me wl Hc<=2*n.toNat:=by rw[sr.mu];exact hb
   obtain⟨v0,v1⟩:=sh1.rng v sh1.vin;walk_at "rd";refine⟨.inl ⟨rfl,_,SqL.of sr.wait⟩,_,sr.wait,_,hl1,?_⟩;obtain⟨a,a1,a2,a3,a4⟩:=hR.get v0 (Q6 v0 v1);have top2:=sr1.same _ _ hR.top;refine⟨_,rfl,_,rfl,_,_,_,_,rfl,rfl,SqL.of top2,a2,_,rfl,⟨_,SqL.of (sr1.same _ _ a3)⟩,T8 (K:=K) (xs:=(nb ts v).map V.int) (b0j H rp am me wl n ts ls u v (srM n me wl Hc)) ⟨_,fs,ws',rfl,sr1,sh1,hm0⟩ ?_ ?_ ?_⟩
   ·rintro j σ Hd _ ⟨_,_,_,rfl,sr2,_⟩;exact SqL.of (sr2.same _ _ a3)
   ·rintro j w σ Hd hv ⟨ov,fs,ws,rfl,sr2,sh2,hm2⟩;rw[aH] at hv;cases hy0:(nb ts v)[j]? with
    | none=>rw[hy0] at hv;cases hv
    | some y =>
    rw[hy0] at hv;cases aI hv;have hfl:=a1M sh2.nd sh2.rng;walk_at "rd";refine⟨_,X8.k (k:=bE y) (sr2.same _ _ ham),?_⟩;rw[a0e];refine a1l (λhA=>⟨_,X8.k (k:=bE y) sr2.met,?_⟩) λhA=>⟨_,fs,ws,rfl,sr2,sh2.skip hy0 (.inl (~~~hA)),hm2⟩
    rw[a0e];refine a1l (λhB=>?_) λhB=>⟨_,fs,ws,rfl,sr2,sh2.skip hy0 (.inr (~~~hB)),hm2⟩
    have hyl:y∈ls:= ~~~hA
    have hyf:y∉fs:= ~~~hB
    have sh3:=sh2.add hok hy0 hyl hyf;have hfl3:=a1M sh3.nd sh3.rng;rw[aq,cb] at hfl3;refine⟨_,X7.k (k:=bE y) sr2.met (a0K ∅),?_⟩;rw[a3h];have hwt:(upd Hd me (.dK (kvI (a0P fs y)))) wl=some (.lst (ws.map V.int)):=by rw[A8 sr2.ne.symm];exact sr2.wait
    have hwl:ws.length<=3000:=∅
    refine⟨.inl ⟨rfl,_,SqL.of hwt⟩,_,hwt,by rw[aa];exact B8 ∅,_,fs++[y],ws++[y],rfl,sr2.add nme nw hyf,sh3,?_⟩;rw[aq,aq,cb];omega
   ·rintro σ Hd ⟨ov,fs,ws,rfl,sr2,sh2,hm2⟩;rw[aa] at sh2;exact⟨⟨_,_,fs,ws,rfl,sr2,sh2.done (ak _),∅⟩,by rw[sr2.mu];exact hm2⟩
  ·have hw0:ws=[]:= ~~~he
   subst hw0;walk_at "rd";refine⟨fs,.inr (.inr ⟨_,sr.met,a4G fs⟩),λns l pm hs nl=>A6 nl λH4 s4 e4=>⟨_,.inl ⟨SqL.of e4,λl2 n2=>A6 n2 λH5 s5 e5=>?_⟩⟩⟩;have s3:=(sr.same.trans s4)
   refine q l2 ns H5 (s3.trans s5) (s3.free n2) e5 (Z1 pm hs sh.nd) λx=>?_
   rw[pm.mem_iff];exact sh.fin x
def a2u:Sp:=λvs H Q _=>∃(w:Addr) (n:Int) (ts:⋯) (pl:Addr) (us:List Int),vs=[.ref w,.ref pl]/\S2 H w n ts/\P5 n ts/\0<=n/\n<=1000/\ts.length<=1000/\H pl=some (.tup (us.map V.int))/\us.length<=1000/\(∀ x∈us,0<=x/\x<n) /\
 ∀(p:Addr) (H':Hp),B2 H H'->H p=none->a9k H' p (T2 n ts us us)->Q (.ref p) H'
def b2t (Hb:Hp)(w0 pl rp le lo:Addr)(n:Int)(ts:⋯)(us:List Int)(i:Nat)(σ:St)(Hc:Hp):Prop:=∃(pv tv ov:Option V) (ls:List Int) (ps:List (Addr×List Int)),σ=[some (.ref w0),some (.ref pl),some (.ref rp),pv,some (.ref le),some (.ref lo),tv,ov] /\
 B2 Hb Hc/\Hc le=some (.dK (kvI ls))/\a4T Hc lo ps/\ps.map (·.2)=T2 n ts us (us.take i)/\ls.Nodup/\∀ x,x∈ls↔x∈us/\¬ T1 (T2 n ts us (us.take i)) x
def b0k (Hb:Hp)(w0 pl rp le lo lt:Addr)(u:Int)(ls zs:List Int)(ps:List (Addr×List Int))(j:Nat)(σ:St)(Hc:Hp):Prop:=∃(ov:Option V),σ=[some (.ref w0),some (.ref pl),some (.ref rp),some (.int u),some (.ref le),some (.ref lo),some (.ref lt),ov] /\
 B2 Hb Hc/\Hc le=some (.dK (kvI (ls.filter λx=>!decide (x∈zs.take j))))/\a4T Hc lo ps/\Hc lt=some (.tup (zs.map V.int))
theorem a2x:C0 ["web","places","rows","place","left","lots","lot","other"] ["web","places"] (B1 (top 24)):=by walk_at "s"
theorem a6v (F:Fun K "pieces" "pieces" (top 24) f fd)(B:Bt mg)(D1:Df K mg "neighbour_rows" st1 f1 fd1 ["web"])(G1:C2 P w K mg base CX0 1 f1 fd1 ["web"] a3W)(D2:Df K mg "piece_from" st2 f2 fd2 ["rows","among","start"])(G2:C2 P w K mg base CX0 1 f2 fd2 ["rows","among","start"] a3T):C2 P w K mg base CX0 2 f fd ["web","places"] a2u:=by
 refine F.ok a2x (λvs H Q E h=>?_) (λcdv A outer s H vs Q E hr h=>?_)
 ·walk_at "h"
 ·obtain⟨w0,n,ts,pl,us,rfl,hw,hok,hn0,hn1,htl,hpl,hul,hus,q⟩:=h;have nd:=a2x.nd;have hu:=L8 hr
  refine⟨_,(A3 (B6 (i:=2) nd rfl (.inl rfl) (B4 G1 D1 hr.m (A0 (pv 0) A1)))
    (A3 (a7G (i:=4) (own:=["place"]) (fr:=[]) false hu rfl nd rfl rfl (by walk_at "w") (by walk_at "w") F0 (V2 K (pv 1)) ⟨λ_ _ _ _=>⟨(A9 (i:=0) (show bR (["place"]:List Str) by decide +kernel) rfl (.inl rfl)),K7,(pv 0),Q4⟩⟩)
    (A3 (B6 (i:=5) nd rfl (.inl rfl) (K6 A1))
    (A3 (P2 br rfl (V2 K (pv 1)) (A9 (i:=3) nd rfl (.inl rfl))
     (A5 (N4 (a0E (a7P hu (pv 3) (pv 4)))
      (A3 (B6 (i:=6) nd rfl (.inl rfl) (B4 G2 D2 hr.m (A0 (pv 2) (A0 (pv 4) (A0 (pv 3) A1)))))
      (A3 (N5 (N6 K (pv 5) (A0 (pv 6) A1)))
      (A5 (P2 br rfl (V2 K (pv 6)) (A9 (i:=7) nd rfl (.inl rfl))
       (A5 (a9F (pv 4) (pv 7)))))))
      E6)))
    (A5 (B5 (C6 (V8 K) (by rfl) B.tuple dw (A0 (pv 5) A1)))))))),?_⟩
  walk_at "rd";refine⟨w0,n,ts,rfl,hw,∅,∅,∅,hok,λrp as H1 s1 np na hR=>?_⟩;refine⟨⟨_,SqT.of (s1 _ _ hpl)⟩,λle nle=>b2J (K:=K) (xs:=us.map V.int) (b2x H1 le us) ⟨none,[],rfl,(B2.refl H1).upd nle,A2,ak _,by simp,by simp⟩ ?_ ?_ ?_⟩
  ·rintro i τ Hc _ ⟨_,_,rfl,sc,_⟩;exact SqT.of (sc _ _ (s1 _ _ hpl))
  ·rintro i v τ Hc hv ⟨c,fs,rfl,sc,ha,hfl,hnd,hm⟩;rw[aH] at hv;cases hu0:us[i]? with
   | none=>rw[hu0] at hv;cases hv
   | some u =>
   rw[hu0] at hv;cases aI hv;have hil:=(au.mp hu0).1;walk_at "rd";refine⟨_,X7.k (k:=bE u) ha (a0K ∅),?_⟩;rw[a3h];refine⟨_,_,rfl,sc.upd nle,A2,?_,a9U hnd,λx=>?_⟩
   ·have:=a8p (us:=fs) (x:=u);omega
   ·rw[a8m,hm,bZ,hu0];simp
  ·rintro τ H2 ⟨c,fs,rfl,sc,ha,hfl,hfnd,hm⟩;rw[aa,bH] at hm;refine⟨by decide,λlo nlo=>A6 nlo λH3 s3 e3=>?_⟩;have nlo1:H1 lo=none:=sc.free nlo;have nele:lo≠le:=(B9 ha nlo).symm;refine⟨_,rfl,_,rfl,⟨_,SqT.of (s3 _ _ (sc _ _ (s1 _ _ hpl)))⟩,Y5 (K:=K) (xs:=us.map V.int) (b2t H1 w0 pl rp le lo n ts us) ⟨none,none,none,fs,[],rfl,sc.trans s3,s3 _ _ ha,⟨e3,λx hx=>by cases hx⟩,rfl,hfnd,λx=>?_⟩ ?_ ?_ ?_⟩
   ·rw[hm];exact⟨λh=>⟨h,λ⟨l,hl,_⟩=>by cases hl⟩,λh=>h.1⟩
   ·rintro i σ Hc _ ⟨_,_,_,_,_,rfl,sd,_⟩;exact SqT.of (sd _ _ (s1 _ _ hpl))
   ·rintro i v σ Hc hv ⟨pv,tv,ov,ls,ps,rfl,sd,hle,hlo,hps,lnd,hls⟩;rw[aH] at hv;cases hu0:us[i]? with
    | none=>rw[hu0] at hv;cases hv
    | some u =>
    rw[hu0] at hv;cases aI hv;have hum:=aE hu0;obtain⟨u0,u1⟩:=hus u hum;have hil:=(au.mp hu0).1;have hsn:T2 n ts us (us.take (i+1))=E3 (S9 n ts us) (T2 n ts us (us.take i)) u:=by
     rw[bZ,hu0];exact a6z _ _
    have hpl2:ps.length<=1000:=by
     have h1:=congrArg cQ hps;rw[aa] at h1;have h2:=a8n (n:=n) (ts:=ts) (us:=us) (us.take i);rw[aT] at h2;omega
    walk_at "rd";refine⟨_,X8.k (k:=bE u) hle,?_⟩;rw[a0e];refine a1l (λh=>?_) λh=>?_
    ·have hul:u∈ls:= ~~~h
     have hnu:¬ T1 (T2 n ts us (us.take i)) u:=((hls u).mp hul).2;have hsn2:T2 n ts us (us.take (i+1))=T2 n ts us (us.take i)++[S9 n ts us u]:=by
      rw[hsn];unfold E3;rw[if_neg (λq=>hnu ((a1u _ _).mp q))]
     refine⟨rp,as,n,ts,le,ls,u,rfl,hR.same sd,hok,∅,∅,hle,u0,u1,λlt zs H5 s5 n5 e5 zsr hzs=>?_⟩;have hzs2:∀ x,x∈zs↔Rch ts (·∈us) u x:=λx=>by
      rw[hzs];exact a7z hok hus (vs:=us.take i) (λv hv=>fS hv) hls hul
     have hzp:zs=S9 n ts us u:=a1D zsr a5Z λx=>by rw[hzs2,a0J hok u0 u1]
     have hzl:∀ x∈zs,x∈ls:=λx hx=>((hzs x).mp hx).mem hul
     have hlo5:=s5 _ _ hlo.top;have L5:=(hlo.tp s5.tp hlo5).snoc e5;have hle6:(upd H5 lo (.lst ((ps.map λx=>V.ref x.1)++[V.ref lt]))) le=some (.dK (kvI ls)):=by rw[A8 nele.symm];exact s5 _ _ hle
     have hlt6:(upd H5 lo (.lst ((ps.map λx=>V.ref x.1)++[V.ref lt]))) lt=some (.tup (zs.map V.int)):=Tp.lst hlo5 _ _ e5;refine⟨.inl ⟨rfl,_,SqL.of hlo5⟩,_,hlo5,by rw[aa];exact B8 ∅,?_⟩;refine⟨_,rfl,_,rfl,⟨_,SqT.of hlt6⟩,Y5 (K:=K) (xs:=zs.map V.int) (b0k H1 w0 pl rp le lo lt u ls zs (ps++[(lt,zs)])) ⟨_,rfl,(sd.trans s5).upd nlo1,?_,L5,hlt6⟩ ?_ ?_ ?_⟩
     ·rw[hle6,cI,ji.mpr (by simp)]
     ·rintro j σ Hd _ ⟨_,rfl,_,_,_,h⟩;exact SqT.of h
     ·rintro j w σ Hd hv ⟨ov,rfl,se,hle7,L7,hlt7⟩;rw[aH] at hv;cases hy0:zs[j]? with
      | none=>rw[hy0] at hv;cases hv
      | some y =>
      rw[hy0] at hv;cases aI hv;have hym:=aE hy0;have hyj:y∉zs.take j:=λhq=>by
       obtain⟨k,hk,e⟩:=eT hq;rw[aT] at hk;have h1:zs[k]?=some y:=by
        have:(zs.take j)[k]?=some y:=by rw[aA (by rw[aT];exact hk),e]
        rwa [dF ∅] at this
       have:=(gz (l:=zs) ∅ (Y2 zsr)).mp (h1.trans hy0.symm);omega
      have hin:y∈ls.filter λx=>!decide (x∈zs.take j):=jV.mpr ⟨hzl y hym, ~~~hyj⟩
      walk_at "rd";refine⟨_,rfl,_,rfl,le,_,bE y,rfl,hle7,rfl,by rw[a0e];simpa using hin,?_⟩;rw[a8P];refine⟨_,rfl,se.upd nle,?_,L7.tp (Tp.dK hle7) (by rw[A8 nele];exact L7.top),Tp.dK hle7 _ _ hlt7⟩;rw[A2,List.filter_filter];congr 4;funext x;rw[bZ,hy0];by_cases e1:x=y<;>by_cases e2:x∈zs.take j<;>simp[e1,e2]
     ·rintro σ Hd ⟨ov,rfl,se,hle7,L7,hlt7⟩;rw[aa,bH] at hle7;refine⟨_,_,_,_,_,rfl,se,hle7,L7,?_,lnd.filter _,λx=>?_⟩
      ·rw[aC,hps,hsn2,<- hzp];rfl
      ·rw[List.mem_filter,hls,hsn2,a0d,<- hzp];constructor
       ·rintro⟨⟨a,b⟩,c⟩;exact⟨a,λq=>q.elim b (~~~c)⟩
       ·rintro⟨a,b⟩;exact⟨⟨a,λq=>b (.inl q)⟩,by simpa using λq=>b (.inr q)⟩
    ·have hul:u∉ls:= ~~~h
     have hin:T1 (T2 n ts us (us.take i)) u:=dg λq=>hul ((hls u).mpr ⟨hum,q⟩)
     have hsn2:T2 n ts us (us.take (i+1))=T2 n ts us (us.take i):=by
      rw[hsn];unfold E3;rw[if_pos ((a1u _ _).mpr hin)]
     exact⟨_,_,_,ls,ps,rfl,sd,hle,hlo,by rw[hsn2];exact hps,lnd,by rw[hsn2];exact hls⟩
   ·rintro σ Hc ⟨pv,tv,ov,ls,ps,rfl,sd,hle,hlo,hps,lnd,hls⟩;rw[aa,bH] at hps;walk_at "rd";refine⟨_,.inl ⟨SqL.of hlo.top,λl nl=>A6 nl λH6 s6 e6=>?_⟩⟩;have s06:=s1.trans sd;exact q l H6 (s06.trans s6) (s06.free nl) ⟨ps,e6,λx hx=>s6 _ _ (hlo.row x hx),hps⟩
def a3U:Sp:=λvs H Q _=>∃(w:Addr) (n:Int) (us:⋯),vs=[.ref w]/\S2 H w n us/\3<=n/\n<=60/\P5 n us/\us.Pairwise Lex/\us.length<=200/\∀(b:Bool) (H':Hp),B2 H H'->(b=true↔Hng us (B7 0 n.toNat))->Q (.bl b) H'
theorem a4h:C0 ["web"] ["web"] (B1 (top 25)):=by walk_at "s"
theorem a7Y (F:Fun K "in_one_piece" "in_one_piece" (top 25) f fd)(B:Bt mg)(D1:Df K mg "pieces" st1 f1 fd1 ["web","places"])(G1:C2 P w K mg base CX0 2 f1 fd1 ["web","places"] a2u):C2 P w K mg base CX0 3 f fd ["web"] a3U:=by
 refine F.ok a4h (λvs H Q E h=>?_) (λcdv A outer s H vs Q E hr h=>?_)
 ·walk_at "h"
 ·obtain⟨w0,n,us,rfl,hw,h3,h60,hok,hsr,hl,q⟩:=h;have nd:=a4h.nd;have hu:=L8 hr;refine⟨_,(A5 (B5 (S6 a1e (B0 (Y9 K) (by rfl) B.len bG (A0 (B4 G1 D1 hr.m (A0 (pv 0) (A0 (C6 (a2a hr.hd) (by rfl) B.tuple dw (A0 (C6 a2Q (by rfl) B.range jc (A0 (E5 (J9 K) (pv 0) A4 (λ_ _=>rfl)) A1)) A1)) A1))) A1)) A4 (E8 _)))),?_⟩;walk_at "rd";obtain⟨q0,hw0,ht⟩:=id hw;refine⟨_,SqT.of hw0,_,rfl,n,rfl,λpr npr=>A6 npr λH1 s1 e1=>⟨0,n,e1,⟨by decide,by decide,∅,∅⟩,∅,λpl npl=>A6 npl λH2 s2 e2=>?_⟩⟩;rw[Int.sub_zero] at e2;have s02:=s1.trans s2;refine⟨w0,n,us,pl,B7 0 n.toNat,rfl,hw.tp s02.tp,hok,∅,∅,∅,e2,by rw[N8];omega,λx hx=>by have:=M4.mp hx;omega,λp3 H3 s3 n3 L3=>?_⟩;obtain⟨ps,hp3,_,hps3⟩:=L3;refine⟨p3,rfl,_,.inr (SqT.of hp3),q _ H3 (s02.trans s3) ?_⟩;rw[<- a9L h3 h60 hok hsr hl,<- hps3,aa,aa,decide_eq_true_iff];constructor
  ·intro e;omega
  ·intro e;rw[e];rfl
def a6V (H:Hp)(v:V):Prop:=∃ w n ts,v=.ref w/\S2 H w n ts/\S3 n ts
def WbF (H:Hp)(v:V):Prop:=∀ w y z xs,v=.ref w->H w=some (.tup [y,.ref z])->H z=some (.tup xs)->xs.length<=1000
def a2v:Sp:=λvs H Q _=>∃(v:V) (T:String),vs=[v]/\Pl H v T/\PlD H 3 v/\WbF H v/\∀(b:Bool) (H':Hp),B2 H H'->(b=true↔a6V H v)->Q (.bl b) H'
theorem a2X {n:Int}{us:⋯}(h3:3<=n)(h60:n<=60)(hok:P5 n us)(hsr:us.Pairwise Lex)(hl:us.length<=200):S3 n us↔Hng us (B7 0 n.toNat):=by
 constructor
 ·intro hW;refine a5s hok (u:=0) (M4.mpr ⟨∅,∅⟩) λy hy=>?_
  have:=M4.mp hy;exact hW.reach ∅ ∅ ∅ ∅
 ·intro hh;exact⟨h3,h60,hok,hsr,hl,a4L hok hh⟩
theorem a2y:C0 ["thing","places","ties"] ["thing"] (B1 (top 21)):=by walk_at "s"
theorem a6w (F:Fun K "is_web" "is_web" (top 21) f fd)(B:Bt mg)(D1:Df K mg "is_pair" st1 f1 fd1 ["thing"])(G1:C2 P w K mg base CX0 1 f1 fd1 ["thing"] a1y)(D2:Df K mg "is_between" st2 f2 fd2 ["thing","least","most"])(G2:C2 P w K mg base CX0 2 f2 fd2 ["thing","least","most"] a1z)(D3:Df K mg "is_tie_row" st3 f3 fd3 ["thing","places"])(G3:C2 P w K mg base CX0 4 f3 fd3 ["thing","places"] a3S)(D4:Df K mg "in_one_piece" st4 f4 fd4 ["web"])(G4:C2 P w K mg base CX0 3 f4 fd4 ["web"] a3U){k1 k2 k3:Tok}(M1:mg "LEAST_PLACES"=some (.int 3 k1))(M2:mg "MOST_PLACES"=some (.int 60 k2))(M3:mg "MOST_TIES"=some (.int 200 k3)):C2 P w K mg base CX0 5 f fd ["thing"] a2v:=by
 refine F.ok a2y (λvs H Q E h=>?_) (λcdv A outer s H vs Q E hr h=>?_)
 ·walk_at "h"
 ·obtain⟨v,T,rfl,hv,hd,hlen,q⟩:=h;have nd:=a2y.nd;have hu:=L8 hr
  refine⟨_,(A3 (N4 (Q7 (R8 (B4 G1 D1 hr.m (A0 (pv 0) A1))))
     (A5 (B5 Q4))
     E6)
    (A3 (a0F (pv 0) (R9 K (n:=2) rfl (E1 (A9 (i:=1) nd rfl (.inl rfl)) (E1 (A9 (i:=2) nd rfl (.inl rfl)) Q0))))
    (A3 (N4 (Q7 (R8 (B4 G2 D2 hr.m (A0 (pv 1) (A0 (Q1 rfl M1 (show C3 (V.int 3) _ from ⟨_,rfl⟩)) (A0 (Q1 rfl M2 (show C3 (V.int 60) _ from ⟨_,rfl⟩)) A1))))))
     (A5 (B5 Q4))
     E6)
    (A3 (N4 (PW.pt (W7 (Q7 (R8 (B4 G3 D3 hr.m (A0 (pv 2) (A0 (pv 1) A1))))) (W6 (I0 a4t (B0 (Y9 K) (by rfl) B.len bG (A0 (pv 2) A1)) (Q1 rfl M3 (show C3 (V.int 200) _ from ⟨_,rfl⟩)) (E8 _)))))
     (A5 (B5 Q4))
     E6)
    (A5 (B5 (B4 G4 D4 hr.m (A0 (pv 0) A1)))))))),?_⟩
  walk_at "rd";have no:∀ {H'},B2 H H'->¬ a6V H v->Q (.bl false) H':=λs h=>q false _ s ⟨λh=>(by cases h),λh'=>absurd h' h⟩
  refine⟨v,T,rfl,hv,_,rfl,?_⟩;cases hp:P9 H v with
  | none =>
   rw[if_pos (by rfl)];refine no (B2.refl H) λ⟨w,n,ts,e,⟨q0,hw0,_⟩,_⟩=>?_
   subst e;unfold P9 at hp;dsimp only at hp;rw[hw0] at hp;cases hp
  | some yz =>
   obtain⟨y,z⟩:=yz;obtain⟨a,rfl,ea⟩:=Y8 hp;rw[if_neg (by simp)];have hd1:=hd.2 a _ rfl ea;obtain⟨Ty,hTy⟩:=(hd1 y (by simp)).pl;have hdz:=hd1 z (by simp);obtain⟨Tz,hTz⟩:=hdz.pl;have hW:a6V H (.ref a)->∃ n us,y=.int n/\a9l H n z us/\S3 n us:=λ⟨w,n,ts,e,⟨q0,hw0,ht⟩,hI⟩=>by
    cases e;rw[ea] at hw0;cases hw0;exact⟨n,ts,rfl,⟨q0,rfl,ht,hI.rng,hI.srt⟩,hI⟩
   refine⟨_,rfl,_,SqT.of ea,rfl,_,_,rfl,_,_,rfl,rfl,y,Ty,3,60,rfl,hTy,_,rfl,?_⟩;cases hb:a0y y 3 60 with
   | false =>
    rw[if_pos (by rfl)];refine no (B2.refl H) λh=>?_
    obtain⟨n,us,rfl,_,hI⟩:=hW h;have h3:=hI.n3;have h60:=hI.n60;rw[show a0y (.int n) 3 60=true by unfold a0y;simp;omega] at hb;cases hb
   | true =>
    rw[if_neg (by decide)];obtain⟨n,rfl⟩:∃ n,y=.int n:=by
     cases y<;>first | exact⟨_,rfl⟩ | cases hb
    have hn:3<=n/\n<=60:=by unfold a0y at hb;simpa using hb
    refine⟨z,Tz,n,rfl,hTz,hdz,λc xs e e2=>?_,λb hb2=>⟨b,rfl,?_⟩⟩
    ·subst e;exact aM (hlen a _ c xs rfl ea e2) (by decide)
    cases b with
    | false =>
     rw[if_pos (by rfl)];refine no (B2.refl H) λh=>?_
     obtain⟨n',us,e,hr,_⟩:=hW h;cases e;cases hb2.mpr ⟨us,hr⟩
    | true =>
     rw[if_neg (by decide)];obtain⟨us,q0,rfl,ht,hok,hsr⟩:=hb2.mp rfl;obtain⟨ps,hp0,hps⟩:=id ht;refine⟨q0,rfl,_,.inr (SqT.of hp0),?_⟩;have hWu:a6V H (.ref a)->S3 n us:=λh=>by
      obtain⟨n',us',e,⟨q1,e1,ht',_⟩,hI⟩:=hW h;cases e;cases e1;cases ht.inj ht';exact hI
     by_cases hl:us.length<=200
     ·rw[if_neg (by rw[aa,hps.len];simp;omega)];refine⟨a,n,us,rfl,⟨q0,ea,ht⟩,hn.1,hn.2,hok,hsr,hl,λb H' s hb3=>q b H' s (hb3.trans ?_)⟩;rw[<- a2X hn.1 hn.2 hok hsr hl];exact⟨λh=>⟨a,n,us,rfl,⟨q0,ea,ht⟩,h⟩,hWu⟩
     ·rw[if_pos (by rw[aa,hps.len];simp;omega)];exact no (B2.refl H) λh=>hl (hWu h).len
def nbV (m:Nat)(w a:Str):List V:=if (Txt.split a (Str.ofString " ")).head?=some w then (Txt.split a (Str.ofString " ")).tail.map (nOf m) else [V.non]
def a0i (K:ae):Sp:=λvs H Q _=>∃(w a:Str) (d:Addr) (m:Nat),vs=[.str w,.str a,.ref d]/\H d=some (.dK (nKv m))/\a.length<=90000 /\
 ∀ p H',B2 H H'->H p=none->H' p=some (.tup (nbV m w a))->Q (.ref p) H'
theorem a6s (a b:Str):Txt.split a b≠[]:=λe=>by
 have:=gG a b;rw[e] at this;exact absurd this (by decide)
theorem a0R (a b:Str):∃ x r,Txt.split a b=x::r:=by
 cases h:Txt.split a b with
 | nil=>exact absurd h (a6s a b)
 | cons x r=>exact⟨x,r,rfl⟩
theorem a0p:C0 ["word","line","numbers","first","rest"] ["word","line","numbers"] (B1 (top 29)):=by walk_at "s"
theorem a3q (F:Fun K "numbers_behind" "numbers_behind" (top 29) f fd)(B:Bt mg)(D1:Df K mg "numbers_in" st1 f1 fd1 ["words","numbers"])(G1:C2 P w K mg base CX0 1 f1 fd1 ["words","numbers"] (a3V K)):C2 P w K mg base CX0 2 f fd ["word","line","numbers"] (a0i K):=by
 refine F.ok a0p (λvs H Q E h=>?_) (λcdv A outer s H vs Q E hr h=>?_)
 ·walk_at "h"
 ·obtain⟨w,a,d,m,rfl,hd,hl,q⟩:=h;have nd:=a0p.nd;have hu:=L8 hr
  refine⟨_,(A3 (a0F (Y1 K (pv 1) (A0 B3 A1)) (a4s K (n:=2) (i:=1) rfl (E1 (A9 (i:=3) nd rfl (.inl rfl)) (a4r (A9 (i:=4) nd rfl (.inl rfl)) Q0))))
    (A3 (N4 (I0 a1I (pv 3) (pv 0) (E8 _))
     (A5 (B5 (K5 (A0 V3 A1))))
     E6)
    (A5 (B5 (B4 G1 D1 hr.m (A0 (pv 4) (A0 (pv 2) A1))))))),?_⟩
  walk_at "rd";have sl:(Txt.split a (Str.ofString " ")).length<=a.length+2:=cO a _;obtain⟨x,r,e⟩:=a0R a (Str.ofString " ");refine⟨by first | exact rfl | exact trivial | constructor,a,rfl,Str.ofString " ",rfl,by decide,B8 ∅,λp np=>?_⟩;unfold nbV at q;rw[e] at q sl ⊢;rw[aD] at sl;refine A6 np λH1 s1 e1=>⟨_,SqL.of e1,by rw[aa,aD];omega,λp1 n1=>A6 n1 λH2 s2 e2=>⟨.str x,[.ref p1],by simp,.ref p1,[],rfl,rfl,by rfl,?_⟩⟩
  have s12:=s1.trans s2;have hr:List.take ((iw V.str (x::r)).length-1) (List.drop 1 (iw V.str (x::r)))=r.map V.str:=by simp[bV]
  rw[hr] at e2;by_cases h:x=w
  ·subst h;rw[if_neg (by simp)];refine⟨p1,d,r,m,rfl,SqL.of e2,s12 _ _ hd,∅,λp2 H3 s3 n2 e3=>q p2 H3 (s12.trans s3) (s12.free n2) ?_⟩;rw[e3,if_pos (show (x::r).head?=some x from rfl)];rfl
  ·rw[if_pos (~~~h)];refine⟨by decide,λp2 n2=>A6 n2 λH3 s3 e3=>q p2 H3 (s12.trans s3) (s12.free n2) ?_⟩;rw[e3,if_neg (~~~h)]
def RwB (H:Hp)(as:List Addr)(ls:List Str):Prop:=as.length=ls.length/\∀(j:Nat) b w,as[j]?=some b->ls[j]?=some w->H b=some (.tup (nbV 61 (Str.ofString "tie") w))
def b3X (H:Hp)(p:Addr)(h:Str)(ls:List Str):Prop:=∃(tp:Addr) (as:List Addr),H p=some (.tup (nbV 61 (Str.ofString "places") h++[.ref tp]))/\H tp=some (.tup (as.map V.ref))/\RwB H as ls
def Z4 (K:ae)(C:Addr):Sp:=λvs H Q E=>∃(v:V),vs=[v] /\
  ((∃ a:Str,v=.str a/\a.length<=9500/\(Txt.split a (Str.ofString "\n")).length<=1000 /\
      (Txt.endswith a (Str.ofString "\n")=false->E (.ref C) none H) /\
      ∀(h:Str) (ls:List Str) (l:Str),Txt.endswith a (Str.ofString "\n")=true->Txt.split a (Str.ofString "\n")=h::(ls++[l])->∀(p:Addr) H' H2,B2 H H'->B2 H' H2->b3X H' p h ls->(a6V H' (.ref p)->Q (.ref p) H2)/\(¬ a6V H' (.ref p)->E (.ref C) none H2)) \/
   ((∃ t,V7 K H v t/\PySem.W.kitOne K t (.type "str")=some false)/\E (.ref C) none H))
theorem RwB.mono {H H':Hp}{as:List Addr}{ws:List Str}(h:RwB H as ws)(s:∀ b o,b∈as->H b=some o->H' b=some o):RwB H' as ws:=⟨h.1,λj b w h1 h2=>s _ _ (aE h1) (h.2 j b w h1 h2)⟩
theorem RwB.get {H:Hp}{as:List Addr}{ws:List Str}(h:RwB H as ws){b:Addr}(hb:b∈as):∃ w,w∈ws/\H b=some (.tup (nbV 61 (Str.ofString "tie") w)):=by
 obtain⟨j,hj⟩:=bY.mp hb;have hl:j<ws.length:=by rw[<- h.1];exact (au.mp hj).1
 exact⟨ws[j],gK hl,h.2 j b _ hj (aA hl)⟩
theorem RwB.snoc {H:Hp}{as:List Addr}{ws:List Str}(h:RwB H as ws){b:Addr}{w:Str}(e:H b=some (.tup (nbV 61 (Str.ofString "tie") w))):RwB H (as++[b]) (ws++[w]):=by
 refine⟨by rw[aq,aq,h.1];rfl,λj c x h1 h2=>?_⟩;rcases cf j as.length with hj | hj
 ·rw[bK hj] at h1;rw[bK (by rw[<- h.1];exact hj)] at h2;exact h.2 j c x h1 h2
 ·rw[bA hj] at h1;rw[bA (by rw[<- h.1];exact hj)] at h2;rw[<- h.1] at h2;cases hk:j-as.length with
  | zero=>rw[hk] at h1 h2;cases h1;cases h2;exact e
  | succ k=>rw[hk] at h1;cases h1
theorem a4A {m:Nat}(hm:m<=100){w a:Str}{H:Hp}{k:Nat}:∀ v∈nbV m w a,PlD H k v:=by
 have fl:∀ {v:V} {T:String},Pl H v T->(∀ b,v≠.ref b)->PlD H k v:=λ{v T} hp hn=>by
  cases k with
  | zero=>exact⟨_,hp⟩
  | succ k=>exact⟨⟨_,hp⟩,λb ys e=>absurd e (hn b)⟩
 intro v hv;unfold nbV at hv;split at hv
 ·obtain⟨y,_,rfl⟩:=bx.mp hv;rcases a8k hm y with e | ⟨i,_,_,e⟩
  ·rw[e];exact fl .non λb h=>by cases h
  ·rw[e];exact fl (.int _) λb h=>by cases h
 ·rw[ag.mp hv];exact fl .non λb h=>by cases h
theorem a9W (m:Nat)(w a:Str):(nbV m w a).length<=a.length+2:=by
 have:=cO a (Str.ofString " ");unfold nbV;split
 ·rw[aa,List.length_tail];omega
 ·show 1<=_;omega
def b2p (Hb:Hp)(l d:Addr)(ls:List Str)(i:Nat)(τ:St)(Hc:Hp):Prop:=∃(c:Option V) (as:List Addr),τ=[c,some (.ref d)]/\B2 Hb Hc/\Hc l=some (.lst (as.map V.ref))/\RwB Hc as (ls.take i)
theorem a8N {a:Str}(h:Txt.endswith a (Str.ofString "\n")=true):∃ h ls l,Txt.split a (Str.ofString "\n")=h::(ls++[l]):=by
 have hn:Str.ofString "\n"=sT [10]:=by decide +kernel
 have h2:2<=(Txt.split a (Str.ofString "\n")).length:=by
  rw[hn] at h ⊢;rw[a2t];have:10∈cs a:=by
   unfold Txt.endswith Builtin.Str.subAt at h;rw[bu] at h;have e:=eq_of_beq h.2;have hm:10∈(a.cps.extract (a.length-(sT [10]).length) (a.length-(sT [10]).length+(sT [10]).length)).toList:=by rw[e];exact ag.mpr rfl
   rw[bS,bD] at hm;exact i6 (fS hm)
  have:=List.count_pos_iff.mpr this;omega
 match e:Txt.split a (Str.ofString "\n"),h2 with
 | x::y::r,_=>exact⟨x,(y::r).dropLast,(y::r).getLast (by simp),by rw[eM]⟩
theorem a1B:C0 ["thing","numbers","head","lines","last","ties","web"] ["thing"] (B1 (top 30)):=by walk_at "s"
theorem a5f (F:Fun K "read_web" "read_web" (top 30) f fd)(B:Bt mg){cNoText:Addr}(ZNoText:U4 K mg "NoText" cNoText)(D1:Df K mg "numbers_below" st1 f1 fd1 ["many"])(G1:C2 P w K mg base CX0 1 f1 fd1 ["many"] (a0T K))(D2:Df K mg "numbers_behind" st2 f2 fd2 ["word","line","numbers"])(G2:C2 P w K mg base CX0 2 f2 fd2 ["word","line","numbers"] (a0i K))(D3:Df K mg "is_web" st3 f3 fd3 ["thing"])(G3:C2 P w K mg base CX0 5 f3 fd3 ["thing"] a2v)(C:Bt2 mg)(C5:Bt5 mg){k2:Tok}(M2:mg "MOST_PLACES"=some (.int 60 k2)):C2 P w K mg base (CX1 P w) 6 f fd ["thing"] (Z4 K cNoText):=by
 refine F.ok1 a1B (λvs H Q E h=>?_) (λcdv A outer s H vs Q E hr h=>?_)
 ·walk_at "h"
 ·obtain⟨v,rfl,h⟩:=h;have nd:=a1B.nd;have hu:=L8 hr
  refine⟨_,(A3 (N4 (PW.pt (W7 (Q7 (R8 (B0 (a6E K) (by rfl) C.isinstance cG (A0 (pv 0) (A0 (a1H (by rfl) C5.str fA) A1))))) (W6 (Q7 (a7d K (a5v K (pv 0) (A0 B3 A1)) (λ_=>rfl))))))
     (A5 (a2B ZNoText))
     E6)
    (A3 (B6 (i:=1) nd rfl (.inr rfl) (B4 G1 D1 hr.m (A0 (A7 O0 (Q1 rfl M2 (show C3 (V.int 60) _ from ⟨_,rfl⟩)) A4) A1)))
    (A3 (a0F (Y1 K (pv 0) (A0 B3 A1)) (a4s K (n:=3) (i:=1) rfl (E1 (A9 (i:=2) nd rfl (.inl rfl)) (a4r (A9 (i:=3) nd rfl (.inl rfl)) (E1 (A9 (i:=4) nd rfl (.inl rfl)) Q0)))))
    (A3 (B6 (i:=5) nd rfl (.inl rfl) (C6 (V8 K) (by rfl) B.tuple dw (A0 (N7 (own:=["line"]) (fr:=[("numbers",1)]) rfl (by walk_at "w") (U6 rfl rfl F0) (K4 K (pv 3)) ⟨λ_ _ _ _=>⟨(A9 (i:=0) (show bR (["line","numbers"]:List Str) by decide +kernel) rfl (.inl rfl)),K7,(B4 G2 D2 hr.m (A0 B3 (A0 (pv 0) (A0 (pv 1) A1))))⟩⟩) A1)))
    (A3 (B6 (i:=6) nd rfl (.inl rfl) (A7 (b3U K) (B4 G2 D2 hr.m (A0 B3 (A0 (pv 2) (A0 (pv 1) A1)))) (K5 (A0 (pv 5) A1))))
    (A3 (N4 (Q7 (R8 (B4 G3 D3 hr.m (A0 (pv 6) A1))))
     (A5 (a2B ZNoText))
     E6)
    (A5 (B5 (pv 6))))))))),?_⟩
  simp only[L2.S8,st0,ap,cC,aD,bF,List.replicate,bL,cj,Nat.reduceAdd,Nat.reduceSub];walk_at "rd";rcases h with ⟨a,rfl,hl,hL,q1,q2⟩ | ⟨⟨t,ty,k⟩,q⟩
  rotate_left
  ·exact⟨_, "str",⟨rfl,rfl⟩,t,ty,false,k,q⟩
  refine⟨_, "str",⟨rfl,rfl⟩,_,.str a,true,by rfl,?_⟩;rw[if_neg (by decide)];refine⟨by first | exact rfl | exact trivial | constructor,a,rfl,_,rfl,_,rfl,?_⟩;cases he:Txt.endswith a (Str.ofString "\n") with
  | false=>rw[if_pos (by rfl)];exact q1 he
  | true =>
   rw[if_neg (by decide)];obtain⟨h,ls,l,e⟩:=a8N he;have q2:=q2 h ls l he e;have hlen:∀ x∈Txt.split a (Str.ofString "\n"),x.length<=9500:=λx hx=>aM (split_le hx) hl
   have hh:=hlen h (by rw[e];simp);refine⟨61,rfl,by decide,λd H1 s1 n1 e1=>⟨by first | exact rfl | exact trivial | constructor,a,rfl,Str.ofString "\n",rfl,by decide,B8 ∅,λp np=>?_⟩⟩;rw[e] at hL hlen ⊢;rw[aD,aq,cb] at hL;have x1:(iw V.str (h::(ls++[l]))).length=ls.length+2:=by simp
   have x2:List.drop (ls.length+1) (iw V.str (h::(ls++[l])))=[V.str l]:=by
    rw[ap,fZ,aC,gL (by rw[aa];exact ak _),iH (by rw[aa];exact ak _)];rfl
   have x3:List.take ls.length (List.drop 1 (iw V.str (h::(ls++[l]))))=ls.map V.str:=by
    rw[ap,fZ,dr,aC,gH (by rw[aa];exact ak _),bV (by rw[aa];exact ak _)]
   refine A6 np λH2 s2 e2=>⟨_,SqL.of e2,by rw[x1];omega,λp1 n1'=>?_⟩
   rw[x1,show ls.length+2-1=ls.length+1 from rfl,x2,show ls.length+2-2=ls.length from rfl,x3];refine A6 n1' λH3 s3 e3=>⟨.str h,[.ref p1,.str l],rfl,.ref p1,[.str l],rfl,.str l,[],rfl,rfl,p1,rfl,⟨_,SqL.of e3⟩,λp2 n2=>?_⟩
   have s03:=(s1.trans s2).trans s3;have ed:=(s2.trans s3) _ _ e1;clear e2 n1' np n1;refine S7 (K:=K) (xs:=ls.map V.str) (b2p H3 p2 d ls) ⟨none,[],rfl,(B2.refl H3).upd n2,A2,rfl,λj b w h=>by cases h⟩ ?_ ?_ ?_
   ·rintro i τ Hc _ ⟨_,_,rfl,sc,_⟩;exact sc.seq (SqL.of e3)
   ·rintro i v τ Hc hv ⟨c,as,rfl,sc,hc,hr⟩ _;rw[aH] at hv;obtain⟨x,hx,rfl⟩:=dP.mp hv;have xl:=hlen x (by have:=aE hx;simp[this]);walk_at "rd";refine⟨_,x,d,61,rfl,sc _ _ ed,∅,λu H5 s5 f5 e5=>?_⟩;have tl:=List.length_take_le i ls;have hcl:=s5 _ _ hc;refine⟨as.map V.ref,hcl,by rw[aa,hr.1];exact B8 (by rw[aT];omega),_,as++[u],rfl,(sc.trans s5).upd n2,by rw[A2,aC];rfl,?_⟩;rw[di,hx];refine RwB.snoc (hr.mono λb o hb eb=>?_) ?_
    ·have hbl:b≠p2:=by
      rintro rfl;obtain⟨w',_,ew⟩:=hr.get hb;rw[hc] at ew;cases ew
     rw[A8 hbl];exact s5 _ _ eb
    ·have hul:u≠p2:=by
      rintro rfl;rw[hcl] at e5;cases e5
     rw[A8 hul];exact e5
   ·rintro τ Hc ⟨c,as,rfl,sc,hc,hr⟩;rw[aa,bH] at hr;refine⟨as.map V.ref,.inl ⟨SqL.of hc,λtp nt=>A6 nt λH5 s5 e5=>⟨_,h,d,61,rfl,s5 _ _ (sc _ _ ed),∅,λpw H6 s6 n6 e6=>⟨by decide,λp7 n7=>A6 n7 λH7 s7 e7=>?_⟩⟩⟩⟩;have nl:=a9W 61 (Str.ofString "places") h;refine a8Z (s7 _ _ e6) e7 (by show _+1<=_;omega) λpf H8 s8 e8=>?_
    have s58:=(s6.trans s7).trans s8;have et:=s58 _ _ e5;have r8:=hr.mono λb o _ eb=>(s5.trans s58) _ _ eb
    have hP:PlD H8 3 (.ref pf):=by
     refine⟨⟨_,.tup e8⟩,λb ys eb ey v hv=>?_⟩;cases eb;rw[e8] at ey;cases ey;rcases aj.mp hv with hv | hv
     ·exact a4A (by decide) v hv
     ·rw[ag.mp hv];refine⟨⟨_,.tup et⟩,λb ys eb ey v hv=>?_⟩;cases eb;rw[et] at ey;cases ey;obtain⟨x,hx,rfl⟩:=bx.mp hv;obtain⟨w',_,ew⟩:=r8.get hx;refine⟨⟨_,.tup ew⟩,λb ys eb ey v hv=>?_⟩;cases eb;rw[ew] at ey;cases ey;exact a4A (by decide) v hv
    refine⟨.ref pf, "tuple",rfl,.tup e8,hP,λw y z xs ew hw hz=>?_,λb H9 s9 hb=>⟨b,rfl,?_⟩⟩
    ·cases ew;rw[e8] at hw;injection hw with hw
     injection hw with hw
     have:z=tp:=by
      have:=congrArg List.getLast? hw;rw[List.getLast?_append,List.getLast?_singleton] at this;simp at this;exact this.symm
     rw[this,et] at hz;cases hz;rw[aa,hr.1];omega
    ·have q:=q2 pf H8 H9 (((s03.trans sc).trans s5).trans s58) s9 ⟨tp,as,e8,et,r8⟩;cases b
     ·rw[if_pos (by decide)];exact q.2 λh=>by cases hb.mpr h
     ·rw[if_neg (by decide)];exact q.1 (hb.mp rfl)
theorem a1Q {k:Nat}(h:k<128):k.log2<1920:=by
 by_cases h0:k=0
 ·rw[h0];decide
 ·exact (jv h0).mpr (dJ h (aZ (by decide:128<2 ^ 8) (jd (by decide) (by decide))))
def Z5 (K:ae):Sp:=λvs H Q _=>∃(w:Str) (m:Nat),vs=[.str w,.int m]/\m<100/\(∀ i:Nat,i<=m->w=tS i->Q (.int i) H)/\((∀ i:Nat,i<=m->w≠tS i)->Q (.int (-1)) H)
def b2w (H:Hp)(w:Str)(m:Nat)(i:Nat)(τ:St)(Hc:Hp):Prop:=∃ c:Option V,τ=[some (.str w),some (.int m),c]/\Hc=H/\∀ j:Nat,j<i->w≠tS j
theorem a1C:C0 ["_law_word","_law_most","_law_number_here"] ["_law_word","_law_most"] (B1 (top 40)):=by walk_at "s"
theorem a5g (F:Fun K "_law_number" "_law_number" (top 40) f fd)(B:Bt mg)(C5:Bt5 mg):C2 P w K mg base CX0 1 f fd ["_law_word","_law_most"] (Z5 K):=by
 refine F.ok a1C (λvs H Q E h=>?_) (λcdv A outer s H vs Q E hr h=>?_)
 ·walk_at "h"
 ·obtain⟨w,m,rfl,hm,q1,q2⟩:=h;have nd:=a1C.nd;have hu:=L8 hr
  refine⟨_,(A3 (P2 br rfl (M7 (by rfl) B.range (A0 (A7 O0 (pv 1) A4) A1)) (A9 (i:=2) nd rfl (.inl rfl))
     (A5 (N4 (I0 a1e (pv 0) (C6 M8 (by rfl) C5.str fA (A0 (pv 2) A1)) (E8 _))
      (A5 (B5 (pv 2)))
      E6)))
    (A5 (B5 (a2D a0B A4)))),?_⟩
  walk_at "rd";rw[Y0];walk_at "rd";refine⟨∅,∅,U7 (lo:=0) (n:=((m:Int)+1).toNat) (b2w H w m) ⟨none,rfl,rfl,λj h=>∅⟩ ?_ ?_⟩
  ·rintro i τ Hc hi ⟨c,rfl,rfl,hn⟩;walk_at "rd";have e0:(0+(i:Int))=(i:Int):=i8 _;rw[e0];refine⟨a1Q ∅,?_⟩;by_cases h:w=tS i
   ·rw[if_pos (by rw[h];exact decide_eq_true rfl)];exact q1 i ∅ h
   ·rw[if_neg (by rw[decide_eq_true_iff];exact λe=>h (V.str.inj e))]
    exact⟨_,rfl,rfl,λj hj=>by
     rcases cf j i with c | c
     ·exact hn j c
     ·rw[show j=i by omega];exact h⟩
  ·rintro τ Hc ⟨c,rfl,rfl,hn⟩;walk_at "rd";exact q2 λi hi=>hn i ∅
def TW (a:Str)(n:Int)(ts:⋯):Prop:=∃(h:Str) (ls:List Str),Txt.split a (Str.ofString "\n")=h::(ls++[Str.ofString ""])/\nbV 61 (Str.ofString "places") h=[V.int n]/\ls.map (nbV 61 (Str.ofString "tie"))=ts.map (λt=>[V.int t.1,V.int t.2])/\S3 n ts
theorem b0W (m:Nat)(w l:Str):(∃ r,Txt.split l (Str.ofString " ")=w::r/\nbV m w l=r.map (nOf m))\/((∀ r,Txt.split l (Str.ofString " ")≠w::r)/\nbV m w l=[V.non]):=by
 obtain⟨x,r,e⟩:=a0R l (Str.ofString " ");unfold nbV;rw[e];by_cases h:x=w
 ·subst h;exact .inl ⟨r,rfl,if_pos rfl⟩
 ·exact .inr ⟨λr' e'=>h (ba e').1,if_neg (~~~h)⟩
theorem b4A {f:Str->V}{b:V}:∀ {xs:List Str},xs.map f=[b]->∃ x,xs=[x]/\f x=b
 | [],h=>by cases h
 | [x],h=>⟨x,rfl,(ba h).1⟩
 | _::_::_,h=>by cases h
theorem b4z {f:Str->V}{b c:V}:∀ {xs:List Str},xs.map f=[b,c]->∃ x y,xs=[x,y]/\f x=b/\f y=c
 | [],h=>by cases h
 | [_],h=>by cases h
 | [x,y],h=>⟨x,y,rfl,(ba h).1,(ba (ba h).2).1⟩
 | _::_::_::_,h=>by cases h
theorem ls2 {α:Type}:∀ {l:List α},l.length=2->∃ x y,l=[x,y]
 | [x,y],_=>⟨x,y,rfl⟩
theorem ls3 {α:Type}:∀ {l:List α},l.length=3->∃ x y z,l=[x,y,z]
 | [x,y,z],_=>⟨x,y,z,rfl⟩
theorem b4L {α:Type}:∀ {l:List α},¬ l.length<2->∃ h ls x,l=h::(ls++[x])
 | [],h=>absurd (by show 0<2;decide) h
 | [_],h=>absurd (by show 1<2;decide) h
 | x::y::r,_=>⟨x,(y::r).dropLast,(y::r).getLast (by simp),by rw[eM]⟩
theorem nb1 {w l:Str}{n:Int}:nbV 61 w l=[V.int n]↔∃ x,Txt.split l (Str.ofString " ")=[w,x]/\nOf 61 x=V.int n:=by
 rcases b0W 61 w l with ⟨r,e,h⟩ | ⟨e,h⟩
 ·rw[h,e];constructor
  ·intro g;obtain⟨x,rfl,h'⟩:=b4A g;exact⟨x,rfl,h'⟩
  ·rintro⟨x,g,h⟩;rw[(ba g).2,ap,h];rfl
 ·rw[h];exact⟨λg=>(by cases g),λ⟨x,g,_⟩=>absurd g (e _)⟩
theorem nb2 {w l:Str}{a b:Int}:nbV 61 w l=[V.int a,V.int b]↔∃ x y,Txt.split l (Str.ofString " ")=[w,x,y]/\nOf 61 x=V.int a/\nOf 61 y=V.int b:=by
 rcases b0W 61 w l with ⟨r,e,h⟩ | ⟨e,h⟩
 ·rw[h,e];constructor
  ·intro g;obtain⟨x,y,rfl,h'⟩:=b4z g;exact⟨x,y,rfl,h'⟩
  ·rintro⟨x,y,g,h,h'⟩;rw[(ba g).2,ap,ap,h,h'];rfl
 ·rw[h];exact⟨λg=>(by cases g),λ⟨x,y,g,_⟩=>absurd g (e _)⟩
theorem a1p {K:ae}{x:Str}{m:Nat}{H:Hp}{Q:VK}(hm:m<=60)(q:∀ k:Int,(k=-1\/0<=k/\k<=m)->(∀ j:Int,0<=j->j<=m->(nOf 61 x=.int j↔k=j))->Q (.int k) H):Z5 K [.str x,.int m] H Q E0:=by
 have get:∀ j:Int,0<=j->j<=m->(nOf 61 x=.int j↔x=tS j):=λj h0 h1=>by
  rcases a8k (m:=61) (by decide) x with e | ⟨i,hi,e,e2⟩
  ·rw[e];refine⟨λh=>(by cases h),λh=>?_⟩;have:=(a6c (m:=61) (by decide) (w:=x) (v:=.int j)).mpr ⟨j.toNat,∅,by rw[aV h0];exact h,by rw[aV h0]⟩;unfold nOf at e;rw[this] at e;cases e
  ·rw[e2];constructor
   ·intro h;rw[e,V.int.inj h]
   ·intro h;have:=a4Z i j.toNat ∅ ∅ (by rw[aV h0];exact e.symm.trans h);rw[this,aV h0]
 refine⟨x,m,rfl,∅,λi hi e=>q i (.inr ⟨∅,∅⟩) λj h0 h1=>?_,λhn=>q (-1) (.inl rfl) λj h0 h1=>?_⟩
 ·rw[get j h0 h1];constructor
  ·intro h;have:=a4Z i j.toNat ∅ ∅ (by rw[aV h0];exact e.symm.trans h);omega
  ·intro h;rw[<- h];exact e
 ·rw[get j h0 h1];exact⟨λh=>absurd (by rw[aV h0];exact h) (hn j.toNat ∅),λh=>∅⟩
theorem a3j:∀ {us vs:⋯},us.map (λt=>[V.int t.1,V.int t.2])=vs.map (λt=>[V.int t.1,V.int t.2])->us=vs
 | [],[],_=>rfl
 | [],_::_,h=>by cases h
 | _::_,[],h=>by cases h
 | u::us,v::vs,h=>by
  have h:=ba h;have h1:=h.1;injection h1 with a b
  injection b with b
  rw[a3j h.2,Prod.ext (V.int.inj a) (V.int.inj b)]
theorem b0w {h l:Str}{ls:List Str}:Z0 ((h::(ls++[l])).map V.str) (some 1) (some (-1))=ls.map V.str:=by
 have hl:((h::(ls++[l])).map V.str).length=ls.length+2:=by simp
 have s1:HT.sIx (ls.length+2) 0 (some 1)=1:=by
  unfold HT.sIx;show (if (1:Int)<0 then _ else _)=_;rw[if_neg (by decide)];show min 1 _=1;omega
 have s2:HT.sIx (ls.length+2) (ls.length+2) (some (-1))=ls.length+1:=by
  unfold HT.sIx;show (if (-1:Int)<0 then _ else _)=_;rw[if_pos (by decide)];omega
 unfold Z0;rw[hl,s1,s2,show ls.length+1-1=ls.length by omega];rw[ap,fZ,dr,aC,gH (by rw[aa];exact ak _),bV (by rw[aa];exact ak _)]
theorem b0z {h l:Str}{ls:List Str}:atI ((h::(ls++[l])).map V.str) (-1)=some (V.str l):=by
 unfold atI ixN;have hl:((h::(ls++[l])).map V.str).length=ls.length+2:=by simp
 rw[hl,if_neg (by decide),if_pos ∅];show ((h::(ls++[l])).map V.str)[(-1+((ls.length+2:Nat):Int)).toNat]?=_;rw[show (-1+((ls.length+2:Nat):Int)).toNat=ls.length+1 by omega,ap,fD,aC,bA (by rw[aa];exact ak _),aa,Nat.sub_self];rfl
theorem b2R {xs:List V}(h:xs≠[]):atI xs (-1)=xs[xs.length-1]?:=by
 have hl:=eS.mpr h;unfold atI ixN;rw[if_neg (by decide),if_pos ∅];show xs[(-1+(xs.length:Int)).toNat]?=_;rw[show (-1+(xs.length:Int)).toNat=xs.length-1 by omega]
theorem a6d {t u:Int×Int}:L2.Q2 (tl t) (tl u)=true↔¬ Lex u t:=by
 unfold L2.Q2;rw[<- a1q];cases HT.lexLt (tl u) (tl t)<;>simp
theorem a9g {h:Str}{r:List Str}:atI ((h::r).map V.str) 0=some (V.str h):=by
 unfold atI ixN;rw[if_pos (by decide),if_pos (by rw[ap,aD];omega)];rfl
def a8z (Hb:Hp)(a:Str)(p sl tl0:Addr)(n:Int)(ls:List Str)(i:Nat)(σ:St)(Hc:Hp):Prop:=∃(v2 v5 v6:Option V) (ps:List (Addr×List Int)) (us:⋯),σ=[some (.str a),some (.ref p),v2,some (.int n),some (.ref tl0),v5,v6]/\B2 Hb Hc/\Hc sl=some (.lst (ls.map V.str)) /\
 Hc tl0=some (.lst (ps.map λx=>V.ref x.1))/\M9 Hc ps us/\us.length=i/\(ls.take i).map (nbV 61 (Str.ofString "tie"))=us.map (λt=>[V.int t.1,V.int t.2])/\P5 n us/\us.Pairwise Lex
def a3Z (K:ae):Sp:=λvs H Q _=>∃(a:Str),vs=[.str a]/\a.length<=9500/\(Txt.split a (Str.ofString "\n")).length<=1000 /\
 (∀ H',B2 H H'->(∀ n ts,¬ TW a n ts)->Q .non H')/\∀(p:Addr) H' n ts,B2 H H'->S2 H' p n ts->TW a n ts->Q (.ref p) H'
theorem Z2:C0 ["_law_text","_law_lines","_law_words","_law_places","_law_ties","_law_line","_law_tie"] ["_law_text"] (B1 (top 42)):=by walk_at "s"
theorem a2i (F:Fun K "_law_read_web" "_law_read_web" (top 42) f fd)(B:Bt mg)(D1:Df K mg "_law_number" st1 f1 fd1 ["_law_word","_law_most"])(G1:C2 P w K mg base CX0 1 f1 fd1 ["_law_word","_law_most"] (Z5 K))(D2:Df K mg "_law_near" st2 f2 fd2 ["_law_web_here"])(G2:C2 P w K mg base CX0 1 f2 fd2 ["_law_web_here"] a3X)(D3:Df K mg "_law_hang" st3 f3 fd3 ["_law_near_here","_law_places"])(G3:C2 P w K mg base CX0 2 f3 fd3 ["_law_near_here","_law_places"] (a2w K))(C:Bt2 mg):C2 P w K mg base CX0 3 f fd ["_law_text"] (a3Z K):=by
 refine F.ok Z2 (λvs H Q E h=>?_) (λcdv A outer s H vs Q E hr h=>?_)
 ·walk_at "h"
 ·obtain⟨a,rfl,hl,hL,q1,q2⟩:=h;have nd:=Z2.nd;have hu:=L8 hr
  refine⟨_,(A3 (B6 (i:=1) nd rfl (.inl rfl) (Y1 K (pv 0) (A0 B3 A1)))
    (A3 (N4 (PW.pt (W7 (I0 a6a (B0 (Y9 K) (by rfl) B.len bG (A0 (pv 1) A1)) A4 (E8 _)) (W6 (I0 a1I (E5 (C9 K) (pv 1) (a2D a0B A4) (λ_ _=>rfl)) B3 (E8 _)))))
     (A5 (B5 V3))
     E6)
    (A3 (B6 (i:=2) nd rfl (.inl rfl) (Y1 K (E5 (C9 K) (pv 1) A4 (λ_ _=>rfl)) (A0 B3 A1)))
    (A3 (N4 (PW.pt (W7 (I0 a1I (B0 (Y9 K) (by rfl) B.len bG (A0 (pv 2) A1)) A4 (E8 _)) (W7 (I0 a1I (E5 (C9 K) (pv 2) A4 (λ_ _=>rfl)) B3 (E8 _)) (W6 (I0 a6a (B4 G1 D1 hr.m (A0 (E5 (C9 K) (pv 2) A4 (λ_ _=>rfl)) (A0 A4 A1))) A4 (E8 _))))))
     (A5 (B5 V3))
     E6)
    (A3 (B6 (i:=3) nd rfl (.inl rfl) (B4 G1 D1 hr.m (A0 (E5 (C9 K) (pv 2) A4 (λ_ _=>rfl)) (A0 A4 A1))))
    (A3 (B6 (i:=4) nd rfl (.inl rfl) (K6 A1))
    (A3 (P2 br rfl (K4 K (C8 (G9 K) (pv 1) (E2 A4) (E2 (a2D a0B A4)))) (A9 (i:=5) nd rfl (.inl rfl))
     (A3 (B6 (i:=2) nd rfl (.inl rfl) (Y1 K (pv 5) (A0 B3 A1)))
     (A3 (N4 (PW.pt (W7 (I0 a1I (B0 (Y9 K) (by rfl) B.len bG (A0 (pv 2) A1)) A4 (E8 _)) (W6 (I0 a1I (E5 (C9 K) (pv 2) A4 (λ_ _=>rfl)) B3 (E8 _)))))
      (A5 (B5 V3))
      E6)
     (A3 (B6 (i:=6) nd rfl (.inl rfl) (K5 (A0 (B4 G1 D1 hr.m (A0 (E5 (C9 K) (pv 2) A4 (λ_ _=>rfl)) (A0 (A7 S0 (pv 3) A4) A1))) (A0 (B4 G1 D1 hr.m (A0 (E5 (C9 K) (pv 2) A4 (λ_ _=>rfl)) (A0 (A7 S0 (pv 3) A4) A1))) A1))))
     (A3 (N4 (PW.pt (W7 (I0 a6a (E5 (J9 K) (pv 6) A4 (λ_ _=>rfl)) A4 (E8 _)) (W7 (I0 a7R (E5 (J9 K) (pv 6) A4 (λ_ _=>rfl)) (E5 (J9 K) (pv 6) A4 (λ_ _=>rfl)) (E8 _)) (W6 (PW.pt (a3f (I0 (b3M K hr.units) (pv 4) (K6 A1) (E8 _)) (a1n (I0 (b4C K hr.units0) (pv 6) (E5 (C9 K) (pv 4) (a2D a0B A4) (λ_ _=>rfl)) (E8 _)))))))))
      (A5 (B5 V3))
      E6)
     (A5 (N5 (N6 K (pv 4) (A0 (pv 6) A1)))))))))
    (A3 (N4 (PW.pt (W7 (I0 a4t (B0 (Y9 K) (by rfl) B.len bG (A0 (pv 4) A1)) A4 (E8 _)) (W6 (Q7 (R8 (B4 G3 D3 hr.m (A0 (B4 G2 D2 hr.m (A0 (K5 (A0 (pv 3) (A0 (pv 4) A1))) A1)) (A0 (C6 (a2n hr.hd) (by rfl) B.list boot_list (A0 (C6 a2Q (by rfl) B.range jc (A0 (pv 3) A1)) A1)) A1))))))))
     (A5 (B5 V3))
     E6)
    (A5 (B5 (K5 (A0 (pv 3) (A0 (C6 (V8 K) (by rfl) B.tuple dw (A0 (pv 4) A1)) A1))))))))))))),?_⟩
  simp only[L2.S8,st0,ap,cC,aD,bF,List.replicate,bL,cj,Nat.reduceAdd,Nat.reduceSub];have sl:=cO a (Str.ofString "\n");walk_at "rd";refine⟨by first | exact rfl | exact trivial | constructor,a,rfl,Str.ofString "\n",rfl,by decide,B8 ∅,λp np=>?_⟩;generalize eL:Txt.split a (Str.ofString "\n")=L at *
  refine A6 np λH1 s1 e1=>⟨_,.inl (SqL.of e1),?_⟩
  rw[aa];have no:∀ {H'},B2 H1 H'->(∀ n ts,¬ TW a n ts)->Q .non H':=λs h=>q1 _ (s1.trans s) h
  by_cases h2:L.length<2
  ·rw[if_pos (by rw[decide_eq_true_iff];omega)];exact no (B2.refl _) λn ts ⟨h,ls,e,_⟩=>by rw[eL] at e;rw[e] at h2;simp at h2;omega
  rw[if_neg (by rw[decide_eq_true_iff];omega)];obtain⟨h,ls,l,rfl⟩:=b4L h2;have hll:ls.length<=1000:=by rw[aD,aq] at hL;omega
  refine⟨_,SqL.of e1,_,b0z,rfl,?_⟩;by_cases hl0:l=Str.ofString ""
  rotate_left
  ·rw[if_pos (~~~hl0)];exact no (B2.refl _) λn ts ⟨h',ls',e,_⟩=>by
    rw[eL] at e;have:=dz (ba e).2 rfl;exact hl0 (ba this.2).1
  rw[if_neg (~~~hl0)];subst hl0;have tw:∀ n ts,TW a n ts->nbV 61 (Str.ofString "places") h=[V.int n]/\ls.map (nbV 61 (Str.ofString "tie"))=ts.map (λt=>[V.int t.1,V.int t.2])/\S3 n ts:=λn ts ⟨h',ls',e,r⟩=>by
   rw[eL] at e;have h1:=(ba e).1;have h2:=(dz (ba e).2 rfl).1;rw[h1,h2];exact r
  have hlen:∀ x∈h::(ls++[Str.ofString ""]),x.length<=9500:=λx hx=>aM (split_le (by rw[eL];exact hx)) hl
  have hh:=hlen h (by simp);have slh:=cO h (Str.ofString " ");refine⟨_,SqL.of e1,.str h,a9g,by first | exact rfl | exact trivial | constructor,h,rfl,Str.ofString " ",rfl,by decide,B8 ∅,λpw nw=>?_⟩;generalize eW:Txt.split h (Str.ofString " ")=W at *
  refine A6 nw λH2 s2 e2=>⟨_,.inl (SqL.of e2),?_⟩
  rw[aa];by_cases w2:W.length=2
  rotate_left
  ·rw[if_pos (by simpa using λe:((W.length:Int)=2)=>w2 ∅)];exact no s2 λn ts h'=>by
    obtain⟨x,e,_⟩:=nb1.mp (tw n ts h').1;rw[eW] at e;rw[e] at w2;exact w2 rfl
  rw[if_neg (by simp[w2])];obtain⟨w0,w1,rfl⟩:=ls2 w2;refine⟨_,SqL.of e2,.str w0,rfl,rfl,?_⟩;by_cases hw0:w0=Str.ofString "places"
  rotate_left
  ·rw[if_pos (~~~hw0)];exact no s2 λn ts h'=>by
    obtain⟨x,e,_⟩:=nb1.mp (tw n ts h').1;rw[eW] at e;exact hw0 (ba e).1
  rw[if_neg (~~~hw0)];subst hw0;have hnb:∀ n,nbV 61 (Str.ofString "places") h=[V.int n]↔nOf 61 w1=V.int n:=λn=>by
   rw[nb1,eW];constructor
   ·rintro⟨x,e,h⟩;rw[(ba (ba e).2).1];exact h
   ·exact λh=>⟨w1,rfl,h⟩
  refine⟨_,SqL.of e2,.str w1,rfl,a1p (by decide) λk hk hkn=>⟨k,rfl,?_⟩⟩;by_cases k3:k<3
  ·rw[if_pos (decide_eq_true k3)];exact no s2 λn ts h'=>by
    obtain⟨a1,_,a3⟩:=tw n ts h';have:=(hkn n (by have:=a3.n3;omega) a3.n60).mp ((hnb n).mp a1);have:=a3.n3;omega
  rw[if_neg (by rw[decide_eq_true_iff];exact k3)];have hk:k=-1\/0<=k/\k<=60:=hk;have k60:k<=60:=∅
  have hk1:nOf 61 w1=V.int k:=(hkn k ∅ ∅).mpr rfl;refine⟨_,SqL.of e2,.str w1,rfl,a1p (by decide) λk' _ hkn'=>?_⟩;obtain rfl:k'=k:=(hkn' k ∅ ∅).mp hk1;clear hkn' hkn hk;refine⟨by decide,λtl0 nt=>?_⟩;rw[Y0];walk_at "rd";have s3:=(B2.refl H2).upd (o:=.lst []) nt;have e1':=(s2.trans s3) _ _ e1;refine a3a e1' λsl H4 nsl s4 e4=>⟨sl,rfl,⟨_,SqL.of e4⟩,?_⟩
  rw[b0w] at e4;have et:=s4 _ _ (A2:upd H2 tl0 (.lst []) tl0=_);have hst:sl≠tl0:=λe=>by rw[e,A2] at nsl;cases nsl
  have s14:=(s2.trans s3).trans s4;have hsn:H2 tl0=none:=nt;have tn1:H1 tl0=none:=s2.free nt;clear e1 e2 e1' s3 s4 nw;generalize upd H2 tl0 (.lst [])=H3 at *
  refine T8 (K:=K) (xs:=ls.map V.str) (a8z H1 a p sl tl0 k' ls) ⟨_,_,_,[],[],rfl,s14,e4,et,⟨λx hx=>(by cases hx),rfl⟩,rfl,rfl,λt ht=>(by cases ht),.nil⟩ ?_ ?_ ?_
  ·rintro i σ Hc _ ⟨_,_,_,_,_,rfl,_,hs,_⟩;exact SqL.of hs
  ·rintro i v σ Hc hv ⟨v2,v5,v6,ps,us,rfl,sc,hs,ht,hps,hul,hm,hok,hpw⟩;rw[aH] at hv;obtain⟨x,hx,rfl⟩:=dP.mp hv;have hil:=(au.mp hx).1;have xl:=hlen x (by have:=aE hx;simp[this]);have slx:=cO x (Str.ofString " ");walk_at "rd";have twi:∀ n ts,TW a n ts->n=k'/\∃ t,ts[i]?=some t/\us=ts.take i/\nbV 61 (Str.ofString "tie") x=[V.int t.1,V.int t.2]/\S3 n ts:=λn ts h'=>by
    obtain⟨a1,a2,a3⟩:=tw n ts h';have en:n=k':=V.int.inj (((hnb n).mp a1).symm.trans hk1);have hlt:i<ts.length:=by have:=congrArg cQ a2;simp only[aa] at this;omega
    refine⟨en,ts[i],aA hlt,?_,?_,a3⟩
    ·refine a3j (hm.symm.trans ?_);rw[fB,a2,fB]
    ·have:=congrArg (λl=>l[i]?) a2;simp only[aH,hx,aA hlt,cK] at this;exact aI this
   refine⟨by first | exact rfl | exact trivial | constructor,x,rfl,Str.ofString " ",rfl,by decide,B8 ∅,λpw2 nw2=>?_⟩;generalize eX:Txt.split x (Str.ofString " ")=X at *
   refine A6 nw2 λH5 s5 e5=>⟨_,.inl (SqL.of e5),?_⟩
   rw[aa];have no:∀ {H'},B2 H5 H'->(∀ n ts,¬ TW a n ts)->Q .non H':=λs h=>q1 _ (s1.trans (sc.trans (s5.trans s))) h
   by_cases x3:X.length=3
   rotate_left
   ·rw[if_pos (by simpa using λe:((X.length:Int)=3)=>x3 ∅)];exact no (B2.refl _) λn ts h'=>by
     obtain⟨_,t,_,_,h2,_⟩:=twi n ts h';obtain⟨y,z,e,_⟩:=nb2.mp h2;rw[eX] at e;rw[e] at x3;exact x3 rfl
   rw[if_neg (by simp[x3])];obtain⟨x0,x1,x2,rfl⟩:=ls3 x3;refine⟨_,SqL.of e5,.str x0,rfl,rfl,?_⟩;by_cases hx0:x0=Str.ofString "tie"
   rotate_left
   ·rw[if_pos (~~~hx0)];exact no (B2.refl _) λn ts h'=>by
     obtain⟨_,t,_,_,h2,_⟩:=twi n ts h';obtain⟨y,z,e,_⟩:=nb2.mp h2;rw[eX] at e;exact hx0 (ba e).1
   rw[if_neg (~~~hx0)];subst hx0;have hnb2:∀ t:Int×Int,nbV 61 (Str.ofString "tie") x=[V.int t.1,V.int t.2]↔nOf 61 x1=V.int t.1/\nOf 61 x2=V.int t.2:=λt=>by
    rw[nb2,eX];constructor
    ·rintro⟨y,z,e,h1,h2⟩;have e:=(ba e).2;rw[(ba e).1,(ba (ba e).2).1];exact⟨h1,h2⟩
    ·exact λh=>⟨x1,x2,rfl,h.1,h.2⟩
   have em:k'-1=(((k'-1).toNat:Nat):Int):=∅
   rw[em];refine⟨_,SqL.of e5,.str x1,rfl,a1p ∅ λc hc hcn=>⟨_,SqL.of e5,.str x2,rfl,a1p ∅ λd hd hdn=>?_⟩⟩;have cd:∀ n ts,TW a n ts->∃ t,ts[i]?=some t/\us=ts.take i/\c=t.1/\d=t.2/\S3 n ts:=λn ts h'=>by
    obtain⟨en,t,g1,g2,g3,g4⟩:=twi n ts h';have gr:=g4.rng t (aE g1);obtain⟨n1,n2⟩:=(hnb2 t).mp g3;exact⟨t,g1,g2,(hcn t.1 ∅ ∅).mp n1,(hdn t.2 ∅ ∅).mp n2,g4⟩
   refine⟨by decide,λpt npt=>A6 npt λH6 s6 e6=>⟨_,SqT.of e6,_,rfl,c,rfl,?_⟩⟩;by_cases c0:c<0
   ·rw[if_pos (decide_eq_true c0)];exact no s6 λn ts h'=>by
     obtain⟨t,g1,_,g3,_,g5⟩:=cd n ts h';have:=g5.rng t (aE g1);omega
   rw[if_neg (by rw[decide_eq_true_iff];exact c0)];refine⟨_,SqT.of e6,_,rfl,_,SqT.of e6,_,rfl,d,rfl,c,rfl,?_⟩;by_cases dc:d<=c
   ·rw[if_pos (decide_eq_true dc)];exact no s6 λn ts h'=>by
     obtain⟨t,g1,_,g3,g4,g5⟩:=cd n ts h';have:=g5.rng t (aE g1);omega
   rw[if_neg (by rw[decide_eq_true_iff];exact dc)];have s56:=s5.trans s6;have t6:=s56 _ _ ht;have p6:=hps.tp s56.tp;have hptl:pt≠tl0:=λe=>by rw[e,s5 _ _ ht] at npt;cases npt
   have hc1:nOf 61 x1=V.int c:=(hcn c ∅ ∅).mpr rfl;have hd1:nOf 61 x2=V.int d:=(hdn d ∅ ∅).mpr rfl;have app:(∀ u∈us,Lex u (c,d))->∀ H7,B2 H6 H7->tyV K "list" (V.ref tl0) H7/\∃ xs,H7 tl0=some (.lst xs)/\xs.length<sizeLine/\a8z H1 a p sl tl0 k' ls (i+1) [some (V.str a),some (V.ref p),some (V.ref pw2),some (V.int k'),some (V.ref tl0),some (V.str x),some (V.ref pt)] (upd H7 tl0 (.lst (xs++[V.ref pt]))):=λhall H7 s7=>by
    have t7:=s7 _ _ t6;refine⟨.inl ⟨rfl,_,SqL.of t7⟩,_,t7,by rw[aa,hps.len,hul];exact B8 ∅,_,_,_,ps++[(pt,tl (c,d))],us++[(c,d)],rfl,(sc.trans (s56.trans s7)).upd tn1,(A8 hst).trans ((s56.trans s7) _ _ hs),by rw[A2,aC];rfl,?_,by rw[aq,hul];rfl,?_,λt ht=>?_,?_⟩
    ·refine ((p6.tp s7.tp).tp (Tp.lst t7)).snoc ?_;rw[A8 hptl];exact s7 _ _ e6
    ·rw[di,hx,aC,aC,hm];show _++[nbV 61 (Str.ofString "tie") x]=_;rw[(hnb2 (c,d)).mpr ⟨hc1,hd1⟩];rfl
    ·rcases aj.mp ht with ht | ht
     ·exact hok t ht
     ·rw[ag.mp ht];exact⟨by show 0<=c;omega,by show c<d;omega,by show d<k';omega⟩
    ·exact List.pairwise_append.mpr ⟨hpw,bN _ _,λu hu v hv=>by rw[ag.mp hv];exact hall u hu⟩
   refine⟨by decide,λpe npe=>A6 npe λH7 s7 e7=>b4K (s7 _ _ t6) (λv hv=>?_) e7 λcc hcc=>⟨_,rfl,?_⟩⟩
   ·obtain⟨y,hy,rfl⟩:=bx.mp hv;exact b0t (s7 _ _ (p6.to y hy))
   cases cc with
   | true =>
    rw[if_neg (by decide)];have e0:us=[]:=by
     have h1:ps=[]:=List.map_eq_nil_iff.mp (hcc.mp rfl);have:=hps.len;rw[h1] at this;exact List.length_eq_zero_iff.mp this.symm
    exact app (by rw[e0];exact λu h=>(by cases h)) H7 s7
   | false =>
    rw[if_pos (by decide)];have hne:(ps.map λx=>V.ref x.1)≠[]:=λe=>by have:=hcc.mpr e;cases this
    obtain⟨vl,hvl⟩:∃ vl,(ps.map λx=>V.ref x.1)[(ps.map λx=>V.ref x.1).length-1]?=some vl:=⟨_,aA (by have:=eS.mpr hne;omega)⟩
    obtain⟨b,t0,rfl,ht0,hb0⟩:=(p6.tp s7.tp).get hvl;rw[aa,hps.len] at ht0;refine⟨_,SqL.of (s7 _ _ t6),_,(b2R hne).trans hvl,pt,b,tl (c,d),tl t0,rfl,rfl,SqT.of (s7 _ _ e6),SqT.of hb0,_,rfl,?_⟩;by_cases hlx:Lex t0 (c,d)
    rotate_left
    ·rw[if_pos (a6d.mpr hlx)];exact no (s6.trans s7) λn ts h'=>by
      obtain⟨t,g1,g2,g3,g4,g5⟩:=cd n ts h';have hlt:=(au.mp g1)
      have hg:us[us.length-1]?=some t0:=ht0;rw[g2,aT,List.getElem?_take] at hg;have hi0:0<us.length:=(au.mp ht0).1 |> λh=>∅
      rw[if_pos (by rw[g2,aT] at hi0;omega)] at hg;obtain⟨q1',q2'⟩:=au.mp hg;have:=cJ.mp g5.srt _ i q1' hlt.1 (by rw[g2,aT] at hi0;omega);rw[q2',hlt.2] at this;apply hlx;rw[show (c,d)=t from Prod.ext g3 g4];exact this
    ·rw[if_neg (λh=>a6d.mp h hlx)];refine app (λu hu=>?_) H7 s7;obtain⟨j,hj⟩:=bY.mp hu;obtain⟨j1,j2⟩:=au.mp hj;obtain⟨m1,m2⟩:=au.mp ht0;rcases cf j (us.length-1) with h | h
     ·have:=cJ.mp hpw j (us.length-1) j1 m1 h;rw[j2,m2] at this;unfold Lex at this hlx ⊢;omega
     ·have:j=us.length-1:=∅
      subst this;rw[j2] at m2;rw[m2];exact hlx
  ·rintro σ Hc ⟨v2,v5,v6,ps,us,rfl,sc,hs,ht,hps,hul,hm,hok,hpw⟩;rw[aa] at hul;rw[aa,bH] at hm;walk_at "rd";have no:∀ {H'},B2 Hc H'->(∀ n ts,¬ TW a n ts)->Q .non H':=λs h=>q1 _ (s1.trans (sc.trans s)) h
   have twu:∀ n ts,TW a n ts->S3 k' us:=λn ts h'=>by
    obtain⟨a1,a2,a3⟩:=tw n ts h';have en:n=k':=V.int.inj (((hnb n).mp a1).symm.trans hk1);rw[a3j (hm.symm.trans a2),<- en];exact a3
   refine⟨_,.inl (SqL.of ht),?_⟩;rw[aa,hps.len];by_cases l2:200<us.length
   ·rw[if_pos (by rw[decide_eq_true_iff];omega)];exact no (B2.refl _) λn ts h'=>by have:=(twu n ts h').len;omega
   rw[if_neg (by rw[decide_eq_true_iff];omega)];refine⟨by decide,λpn npn=>A6 npn λH5 s5 e5=>⟨pn,k',us,rfl,⟨tl0,e5,ps,s5 _ _ ht,hps.tp s5.tp⟩,∅,∅,∅,hok,hpw,λnp as H6 s6 nnp nas hR=>λpr npr=>A6 npr λH7 s7 e7=>⟨0,k',e7,⟨by decide,by decide,∅,∅⟩,∅,λpl npl=>A6 npl λH8 s8 e8=>⟨np,as,k',us,pl,B7 0 (k'-0).toNat,rfl,?_,hok,∅,∅,e8,Y2 (a1E _),λx hx=>?_,λb H9 s9 hb=>⟨b,rfl,?_⟩⟩⟩⟩⟩
   ·exact (hR.same s7).same s8
   ·have:=M4.mp hx;omega
   have s59:=((s5.trans s6).trans (s7.trans s8)).trans s9;rw[show (k'-0).toNat=k'.toNat by rw[Int.sub_zero]] at hb;cases b with
   | false =>
    rw[if_pos (by decide)];exact no s59 λn ts h'=>by
     have hI:=twu n ts h';have:=hb.mpr ((a2X ∅ k60 hok hpw ∅).mp hI);cases this
   | true =>
    rw[if_neg (by decide)];have hI:=(a2X ∅ k60 hok hpw ∅).mpr (hb.mp rfl);refine⟨_,.inl ⟨SqL.of (s59 _ _ ht),λpt npt=>A6 npt λHA sA eA=>⟨by decide,λpf npf=>A6 npf λHB sB eB=>?_⟩⟩⟩;have sAll:=(s59.trans sA).trans sB;exact q2 pf HB k' us (s1.trans (sc.trans sAll)) ⟨pt,eB,ps,sB _ _ eA,hps.tp sAll.tp⟩ ⟨h,ls,by rw[eL],(hnb k').mpr hk1,hm,hI⟩
def OkW (a:Str):Prop:=a.length<=9500/\(Txt.split a (Str.ofString "\n")).length<=1000
def SpC (K:ae)(C:Addr)(Tell:Str->PyData->Prop):Sp:=λvs H Q E=>∃(v:V),vs=[v] /\
  ((∃ a:Str,v=.str a/\OkW a/\(∀ H',B2 H H'->(∀ d,¬ Tell a d)->E (.ref C) none H')/\∀(p:Addr) H' d,B2 H H'->DA H' (.ref p) d->NA 150 100000 d->Tell a d->Q (.ref p) H') \/
   ((∃ t,V7 K H v t/\PySem.W.kitOne K t (.type "str")=some false)/\E (.ref C) none H))
def a0h (P:Program)(w:World)(K:ae)(mg:Str->Option Value)(base:Heap)(C:Addr):Sp:=λvs H Q _=>∃(f:Addr) (v:V) (Tell:Str->PyData->Prop),vs=[.ref f,v]/\FnV P w K mg base (CX1 P w) 6 f (SpC K C Tell) /\
 ((∃ a:Str,v=.str a/\OkW a/\∀ d,¬ Tell a d)\/∃ t,V7 K H v t/\PySem.W.kitOne K t (.type "str")=some false)/\∀ H',B2 H H'->Q (.bl true) H'
theorem a4H {K:ae}{C:Addr}:PySem.W.kitOne K (.ref C) (.ref C)=some true:=by unfold PySem.W.kitOne;simp
theorem a0o:C0 ["_law_call","_law_thing","_law_caught","error"] ["_law_call","_law_thing"] (B1 (top 41)):=by walk_at "s"
theorem a3p (F:Fun K "_law_refused" "_law_refused" (top 41) f fd)(B:Bt mg){cNoWeb:Addr}(ZNoWeb:U4 K mg "NoWeb" cNoWeb){cLeafError:Addr}(ZLeafError:U4 K mg "LeafError" cLeafError){cTooGreat:Addr}(ZTooGreat:U4 K mg "TooGreat" cTooGreat){cNoSet:Addr}(ZNoSet:U4 K mg "NoSet" cNoSet){cTaken:Addr}(ZTaken:U4 K mg "Taken" cTaken){cTooMany:Addr}(ZTooMany:U4 K mg "TooMany" cTooMany){cNoTie:Addr}(ZNoTie:U4 K mg "NoTie" cNoTie){cApart:Addr}(ZApart:U4 K mg "Apart" cApart){cNoText:Addr}(ZNoText:U4 K mg "NoText" cNoText)(C:Bt2 mg)(C7:mg "ValueError"=none)(X1:gO K (.ref cNoText) (.ref cLeafError)=some true)(X2:PySem.W.kitOne K (.ref cNoText) (.type "ValueError")=some true)(X3:PySem.W.kitAny K (.ref cNoText) ([cNoWeb,cTooGreat,cNoSet,cTaken,cTooMany,cNoTie,cApart].map bd)=some false):C2 P w K mg base CX0 7 f fd ["_law_call","_law_thing"] (a0h P w K mg base cNoText):=by
 refine F.ok a0o (λvs H Q E h=>?_) (λcdv A outer s H vs Q E hr h=>?_)
 ·walk_at "h"
 ·obtain⟨f0,v,Tell,rfl,hV,hv,q⟩:=h;have nd:=a0o.nd;have hu:=L8 hr
  refine⟨_,(A3 (B6 (i:=2) nd rfl (.inl rfl) V3)
    (A3 (a7F (i:=3) rfl rfl nd rfl rfl (by rfl) ZLeafError.m (a7E (a6t (P:=P) (w:=w) (K:=K) (mg:=mg) (base:=base) (k:=6) (ix:=0) hr.m rfl rfl (λ_=>(A0 (pv 1) A1))))
     (λ_ _=>(A5 (B6 (i:=2) nd rfl (.inl rfl) (pv 3)))))
    (A3 (N4 (PW.pt (W7 (a0E (a7O (pv 2))) (W7 (Q7 (R8 (B0 (b2m K) (by rfl) C.isinstance cG (A0 (pv 2) (A0 (Q1 rfl ZNoText.m (show C3 (V.ref _) _ from rfl)) A1))))) (W6 (Q7 (R8 (B0 (b2m K) (by rfl) C.isinstance cG (A0 (pv 2) (A0 (a1H (by rfl) C7 PyProof.Rows.Boot.«ValueError») A1)))))))))
     (A5 (B5 Q4))
     E6)
    (A5 (B5 (a7J (B0 (b2m K) (by rfl) C.isinstance cG (A0 (pv 2) (A0 (K5 (A0 (Q1 rfl ZNoWeb.m (show C3 (V.ref _) _ from rfl)) (A0 (Q1 rfl ZTooGreat.m (show C3 (V.ref _) _ from rfl)) (A0 (Q1 rfl ZNoSet.m (show C3 (V.ref _) _ from rfl)) (A0 (Q1 rfl ZTaken.m (show C3 (V.ref _) _ from rfl)) (A0 (Q1 rfl ZTooMany.m (show C3 (V.ref _) _ from rfl)) (A0 (Q1 rfl ZNoTie.m (show C3 (V.ref _) _ from rfl)) (A0 (Q1 rfl ZApart.m (show C3 (V.ref _) _ from rfl)) A1)))))))) A1))))))))),?_⟩
  walk_at "rd";refine⟨_,hV,v,rfl,?_⟩;have s0:=B2.refl H;rcases hv with ⟨a,rfl,hl,hn⟩ | hv
  ·refine .inl ⟨a,rfl,hl,λH1 s1 _=>?_,λp H1 d s1 _ _ ht=>absurd ht (hn d)⟩;clear s0;have s0:=s1;refine⟨X1,λea C eC hea=>?_⟩;cases eC;rw[if_neg (by simp)];refine A6 hea λH2 s2 e2=>⟨.ref ea,_,.exc e2 ZNoText.k,.inl ⟨.ref cNoText,.ref cNoText,true,rfl,.inr ⟨cNoText,rfl,rfl,ZNoText.k.is⟩,a4H,true,rfl,?_⟩⟩
   rw[if_neg (by decide)];refine⟨.ref ea,_,.exc e2 ZNoText.k,.inl ⟨.ty "ValueError",.type "ValueError",true,rfl,.inl ⟨_,rfl,rfl⟩,X2,true,rfl,?_⟩⟩;rw[if_neg (by decide)];exact⟨by decide,λp np=>A6 np λH3 s3 e3=>⟨.ref ea,_,.exc (s3 _ _ e2) ZNoText.k,.inr ⟨p,[cNoWeb,cTooGreat,cNoSet,cTaken,cTooMany,cNoTie,cApart],false,rfl,e3,X3,false,rfl,q H3 ((s0.trans s2).trans s3)⟩⟩⟩
  ·refine .inr ⟨hv,?_⟩;refine⟨X1,λea C eC hea=>?_⟩;cases eC;rw[if_neg (by simp)];refine A6 hea λH2 s2 e2=>⟨.ref ea,_,.exc e2 ZNoText.k,.inl ⟨.ref cNoText,.ref cNoText,true,rfl,.inr ⟨cNoText,rfl,rfl,ZNoText.k.is⟩,a4H,true,rfl,?_⟩⟩
   rw[if_neg (by decide)];refine⟨.ref ea,_,.exc e2 ZNoText.k,.inl ⟨.ty "ValueError",.type "ValueError",true,rfl,.inl ⟨_,rfl,rfl⟩,X2,true,rfl,?_⟩⟩;rw[if_neg (by decide)];exact⟨by decide,λp np=>A6 np λH3 s3 e3=>⟨.ref ea,_,.exc (s3 _ _ e2) ZNoText.k,.inr ⟨p,[cNoWeb,cTooGreat,cNoSet,cTaken,cTooMany,cNoTie,cApart],false,rfl,e3,X3,false,rfl,q H3 ((s0.trans s2).trans s3)⟩⟩⟩
def a9j (a:Str)(d:PyData):Prop:=∃ n ts,TW a n ts/\d=a9n n ts
theorem a6i (c:Nat)(q:List Nat):∀ ps:List (List Nat),ps≠[]->jn c (ps++[q])=(ps.map (·++[c])).flatten++q
 | [],h=>absurd rfl h
 | [p],_=>by simp[jn]
 | p::r::s,_=>by
  have:=a6i c q (r::s) (by simp);rw[bL,bL,jn,<- bL,this];simp
theorem b0s {x:Str}{l:List Nat}(h:cs x=l++[10]):Txt.endswith x (Str.ofString "\n")=true:=by
 have hl:x.length=l.length+1:=by rw[<- S1,h,aq];rfl
 rw[show Str.ofString "\n"=sT [10] by decide +kernel];unfold Txt.endswith Builtin.Str.subAt;have e1:(sT [10]).length=1:=rfl;rw[e1,bu];refine⟨decide_eq_true ∅,?_⟩;rw[beq_iff_eq];have:(x.cps.extract (x.length-1) (x.length-1+1)).toList=(sT [10]).cps.toList:=by
  rw[bS,bD];have h:x.cps.toList=l++[10]:=h;rw[h,hl,show l.length+1-1=l.length by omega,show l.length+1-l.length=1 by omega,gL (ak _),iH (ak _)];rfl
 exact Array.toList_inj.mp this
theorem b0r {x:Str}(h:Txt.endswith x (Str.ofString "\n")=true):∃ l,cs x=l++[10]:=by
 rw[show Str.ofString "\n"=sT [10] by decide +kernel] at h;unfold Txt.endswith Builtin.Str.subAt at h;rw[bu] at h;have e:=eq_of_beq h.2;have h1:1<=x.length:=by have:=of_decide_eq_true h.1;exact aM (ie 1 0) this
 have e2:(x.cps.extract (x.length-1) (x.length-1+1)).toList=[10]:=by
  have:=congrArg iI e;exact this
 rw[bS,bD] at e2;refine⟨(cs x).take (x.length-1),?_⟩;have e3:(cs x).drop (x.length-1)=[10]:=by
  have hl:((cs x).drop (x.length-1)).length=1:=by rw[dy,S1];omega
  have:((cs x).drop (x.length-1)).take (x.length-1+1-(x.length-1))=[10]:=e2;rw[bV ∅] at this;exact this
 rw[<- e3,bq]
theorem a8V {a:Str}{h l:Str}{ls:List Str}(e:Txt.split a (Str.ofString "\n")=h::(ls++[l])):cs a=(((h::ls).map cs).map (·++[10])).flatten++cs l:=by
 have e1:=U9 10 (Txt.split a (sT [10]));rw[fX a _,<- show Str.ofString "\n"=sT [10] by decide +kernel,e] at e1;rw[e1,<- bL,aC];exact a6i 10 (cs l) ((h::ls).map cs) (by simp)
theorem a8t {a:Str}{h l:Str}{ls:List Str}(e:Txt.split a (Str.ofString "\n")=h::(ls++[l])):Txt.endswith a (Str.ofString "\n")=true↔l=Str.ofString "":=by
 have hp:=a8V e;constructor
 ·intro he;obtain⟨y,hy⟩:=b0r he;refine a5y ?_;show cs l=[]
  rcases iS (cs l) with h0 | ⟨i,z,hz⟩
  ·exact h0
  ·exfalso;rw[iT] at hz;rw[hz,<- bn,hy] at hp;have hz10:=(dz hp rfl).2;have hf:=fW a 10 l (by show l∈Txt.split a (sT [10]);rw[<- show Str.ofString "\n"=sT [10] by decide +kernel,e];simp);apply hf;show 10∈cs l;rw[hz,<- hz10];simp
 ·intro he;subst he;rw[show cs (Str.ofString "")=[] by decide +kernel,ck] at hp;rcases iS (h::ls) with h0 | ⟨i,z,hz⟩
  ·cases h0
  ·rw[iT] at hz;rw[hz,aC,aC,List.flatten_append] at hp;refine b0s (l:=((i.map cs).map (·++[10])).flatten++cs z) (hp.trans ?_);simp
theorem b1g {H:Hp}{p:Addr}{a h:Str}{ls:List Str}(e:Txt.split a (Str.ofString "\n")=h::(ls++[Str.ofString ""]))(hb:b3X H p h ls):(∀ n ts,TW a n ts->S2 H p n ts/\S3 n ts)/\∀ n ts,S2 H p n ts->S3 n ts->TW a n ts:=by
 obtain⟨tp,as,e1,e2,r⟩:=hb;have hl:=r.1;constructor
 ·rintro n ts ⟨h',ls',e',hn,hm,hI⟩;rw[e] at e';have eh:=(ba e').1;have el:=(dz (ba e').2 rfl).1;subst eh el;have hlt:ls.length=ts.length:=by have:=congrArg cQ hm;simpa using this
  refine⟨⟨tp,by rw[e1,hn];rfl,as.zip (ts.map tl),?_,⟨λx hx=>?_,?_⟩⟩,hI⟩
  ·rw[e2];have:as.map V.ref=((as.zip (ts.map tl)).map (·.1)).map V.ref:=by rw[gJ (by rw[aa];omega)]
   rw[this,bU];rfl
  ·obtain⟨j,hj⟩:=bY.mp hx;rw[fj] at hj;obtain⟨g1,g2⟩:=hj;rw[aH] at g2;obtain⟨t,ht,g2⟩:=dP.mp g2;have hjl:j<ls.length:=by rw[hlt];exact (au.mp ht).1
   have h3:=r.2 j x.1 ls[j] g1 (aA hjl);have h4:=congrArg (λl=>l[j]?) hm;simp only[aH,aA hjl,ht,cK] at h4;rw[h3,aI h4,<- g2];rfl
  ·rw[gI (by rw[aa];omega)]
 ·rintro n ts ⟨q,e3,ps,e4,hps⟩ hI;rw[e1] at e3;injection e3 with e3
  injection e3 with e3
  obtain⟨e5,e6⟩:=dz (s₁:=nbV 61 (Str.ofString "places") h) (t₁:=[V.ref tp]) (s₂:=[V.int n]) (t₂:=[V.ref q]) e3 rfl;have e6:V.ref tp=V.ref q:=(ba e6).1;rw[<- V.ref.inj e6,e2] at e4;injection e4 with e4
  injection e4 with e4
  have hpl:=hps.len;have hal:as.length=ps.length:=by have:=congrArg cQ e4;simpa using this
  refine⟨h,ls,e,e5,List.ext_getElem (by simp;omega) λj g1 g2=>?_,hI⟩;rw[aa] at g1 g2;rw[List.getElem_map,List.getElem_map];have a1:=congrArg (λl=>l[j]?) e4;simp only[aH,aA (show j<as.length by omega),aA (show j<ps.length by omega),cK] at a1;have a1:V.ref as[j]=V.ref ps[j].1:=aI a1;have a2:=r.2 j as[j] ls[j] (aA ∅) (aA g1);have a3:=hps.to ps[j] (gK _);rw[V.ref.inj a1,a3] at a2;injection a2 with a2
  injection a2 with a2
  have a4:=congrArg (λl=>l[j]?) hps.eq;simp only[aH,aA (show j<ps.length by omega),aA g2,cK] at a4;rw[<- a2,aI a4];rfl
theorem a2O {H:Hp}:∀ l:List Int,Dds H (l.map V.int) (l.map cz)
 | []=>.nil
 | x::l=>.cons (.sc rfl) (a2O l)
theorem a6p {H:Hp}:∀ {ps:List (Addr×List Int)},(∀ x∈ps,H x.1=some (.tup (x.2.map V.int)))->Dds H (ps.map λx=>V.ref x.1) ((ps.map (·.2)).map tI)
 | [],_=>.nil
 | x::ps,h=>.cons (.tup (h x aR) (a2O x.2)) (a6p λy hy=>h y (aL _ hy))
theorem a4V {H:Hp}{p:Addr}{n:Int}{ts:⋯}(h:S2 H p n ts):DA H (.ref p) (a9n n ts):=by
 obtain⟨q,e,ps,e2,hps⟩:=h;have:=a6p hps.to;rw[hps.eq] at this;exact (Dd.tup e (.cons (.sc rfl) (.cons (.tup e2 this) .nil))).da
theorem a4U {n:Int}{ts:⋯}(h0:0<=n)(h1:n<=60)(hr:P5 60 ts)(hl:ts.length<=300):NA 150 100000 (a9n n ts):=by
 have c1:Nc 0 0 0 (.int n):=Nc.int (a0l h0 ∅)
 have c2:Nc 0 2 900 (.tuple ((ts.map tl).map tI)):=(Nc.tup (c:=0) (k:=1) (Ncs.all (m:=2) λd hd=>by
  obtain⟨l,hl',rfl⟩:=bx.mp hd;obtain⟨t,ht,rfl⟩:=bx.mp hl';have:=hr t ht
  have:=Nc.tup (Ncs.all (c:=0) (k:=0) (m:=0) (ds:=(tl t).map cz) λd hd=>by
   obtain⟨x,hx,rfl⟩:=bx.mp hd;simp only[tl,aQ,cq,or_false] at hx
   exact Nc.int (a0l ∅ ∅))
  exact this)).mono (ak _) (by rw[aa,aa];omega)
 exact ((Nc.tup (c:=0) (k:=2) (.cons (c1.mono (by decide) (ak _)) (.cons c2 (.nil (m:=0))))).na).mono (by decide) (by decide)
theorem a1d {K:ae}{C:Addr}:∀ vs H Q E,SpC K C a9j vs H Q E->Z4 K C vs H Q E:=by
 rintro vs H Q E ⟨v,rfl,h⟩;refine⟨v,rfl,?_⟩;rcases h with ⟨a,rfl,ga,q1,q2⟩ | h
 ·refine .inl ⟨a,rfl,ga.1,ga.2,λhe=>q1 H (B2.refl H) ?_,λh ls l he e p H' H2 s s2 hb=>?_⟩
  ·rintro d ⟨n,ts,⟨h,ls,e,_⟩,_⟩;rw[(a8t e).mpr rfl] at he;cases he
  ·have hl:=(a8t e).mp he;subst hl;obtain⟨w1,w2⟩:=b1g e hb;refine⟨λ⟨w,n,ts,ew,hw,hI⟩=>?_,λhn=>q1 H2 (s.trans s2) λd ⟨n,ts,ht,_⟩=>hn ⟨p,n,ts,rfl,w1 n ts ht⟩⟩;cases ew;have h3:=hI.n3;have h60:=hI.n60;have hlen:=hI.len;exact q2 p H2 _ (s.trans s2) (a4V (hw.tp s2.tp)) (a4U ∅ h60 (λt ht=>by have:=hI.rng t ht;omega) ∅) ⟨n,ts,w2 n ts hw hI,rfl⟩
 ·exact .inr h
def b3Z (K:ae)(H:Hp)(v:V):Prop:=(∃ a:Str,v=.str a/\OkW a/\∀ c∈cs a,c<128)\/((∃ t,V7 K H v t/\PySem.W.kitOne K t (.type "str")=some false)/\∃ d,DA H v d/\NA 150 100000 d)
theorem b3b {a:Str}{n n':Int}{ts ts':⋯}(h:TW a n ts)(h':TW a n' ts'):n=n'/\ts=ts':=by
 obtain⟨x,ls,e,h1,h2,_⟩:=h;obtain⟨x',ls',e',h1',h2',_⟩:=h';rw[e] at e';have ex:=(ba e').1;have el:=(dz (ba e').2 rfl).1;subst ex el;exact⟨V.int.inj (ba (h1.symm.trans h1')).1,a3j (h2.symm.trans h2')⟩
def a0U (K:ae):Sp:=λvs H Q _=>∃(v:V),vs=[v]/\b3Z K H v/\∀ H',B2 H H'->Q (.bl true) H'
theorem a1a:C0 ["_law_thing","_law_due","_law_before"] ["_law_thing"] (B1 (top 47)):=by walk_at "s"
theorem a4w (F:Fun K "_law_judged" "_law_judged" (top 47) f fd)(B:Bt mg){cNoText:Addr}(ZNoText:U4 K mg "NoText" cNoText)(D1:Df K mg "_law_read_web" st1 f1 fd1 ["_law_text"])(G1:C2 P w K mg base CX0 3 f1 fd1 ["_law_text"] (a3Z K))(D2:Df K mg "read_web" st2 f2 fd2 ["thing"])(G2:C2 P w K mg base (CX1 P w) 6 f2 fd2 ["thing"] (Z4 K cNoText))(D3:Df K mg "_law_refused" st3 f3 fd3 ["_law_call","_law_thing"])(G3:C2 P w K mg base CX0 7 f3 fd3 ["_law_call","_law_thing"] (a0h P w K mg base cNoText))(C:Bt2 mg)(C4:Bt4 mg)(C5:Bt5 mg)(X9:(K.lookup sysModules).isSome=true):C2 P w K mg base CX0 8 f fd ["_law_thing"] (a0U K):=by
 refine F.ok a1a (λvs H Q E h=>?_) (λcdv A outer s H vs Q E hr h=>?_)
 ·walk_at "h"
 ·obtain⟨v,rfl,hv,q⟩:=h;have nd:=a1a.nd;have hu:=L8 hr
  refine⟨_,(A3 (B6 (i:=1) nd rfl (.inl rfl) V3)
    (A3 (B6 (i:=2) nd rfl (.inl rfl) (B0 (a3c X9 hr.gd hr.u200) (by rfl) C4.repr jP (A0 (pv 0) A1)))
    (A3 (N4 (R8 (B0 (a6E K) (by rfl) C.isinstance cG (A0 (pv 0) (A0 (a1H (by rfl) C5.str fA) A1))))
     (A5 (B6 (i:=1) nd rfl (.inl rfl) (B4 G1 D1 hr.m (A0 (pv 0) A1))))
     E6)
    (A3 (N4 (a0E (a7O (pv 1)))
     (A5 (B5 (Z9 (B4 G3 D3 hr.m (A0 (Q1 rfl D2.m (show C3 (V.ref _) _ from rfl)) (A0 (pv 0) A1))) (a0H (S6 a1e (B0 (a3c X9 hr.gd hr.u200) (by rfl) C4.repr jP (A0 (pv 0) A1)) (pv 2) (E8 _))))))
     E6)
    (A5 (B5 (S6 a1e (B0 (a3c X9 hr.gd hr.u200) (by rfl) C4.repr jP (A0 (a9J G2 D2 hr.m (A0 (pv 0) A1)) A1)) (B0 (a3c X9 hr.gd hr.u200) (by rfl) C4.repr jP (A0 (pv 1) A1)) (E8 _)))))))),?_⟩
  walk_at "rd";obtain⟨d0,D0,N0⟩:∃ d,DA H v d/\NA 150 100000 d:=by
   rcases hv with ⟨a,rfl,ga,gc⟩ | ⟨_,h⟩
   ·refine⟨_,.sc rfl,⟨rfl,bi _,?_,aM ga.1 (by decide)⟩⟩;show PyData.leavesShort 100 (.str a)=true;rw[PyData.leavesShort,bI];exact λc hc=>decide_eq_true (dJ (gc c hc) (by decide))
   ·exact h
  refine⟨v,d0,rfl,D0,N0,?_⟩;have hV:=FnV.of G2 D2 (ak 6) a1d;rcases hv with ⟨a,rfl,ga,gc⟩ | ⟨⟨t,ty,k⟩,_⟩
  ·refine⟨_, "str",⟨rfl,rfl⟩,_,.str a,true,by rfl,?_⟩;rw[if_pos rfl];refine⟨a,rfl,ga.1,ga.2,λH1 s1 hn=>?_,λp H1 n ts s1 hw ht=>?_⟩
   ·show if decide (V.non=V.non)=true then _ else _
    rw[if_pos (by decide)];refine⟨_,_,a9j,rfl,hV,.inl ⟨a,rfl,ga,λd ⟨n,ts,h,_⟩=>hn n ts h⟩,λH2 s2=>⟨true,rfl,?_⟩⟩;rw[if_pos rfl];refine⟨_,d0,rfl,D0.same (s1.trans s2),N0,rfl,?_⟩;rw[decide_eq_true rfl];exact q H2 (s1.trans s2)
   ·show if decide (V.ref p=V.non)=true then _ else _
    rw[if_neg (by simp)];obtain⟨x',ls',e',_,_,hI⟩:=id ht;have h3:=hI.n3;have h60:=hI.n60;have hlen:=hI.len;have hna:=a4U ∅ h60 (λt ht=>by have:=hI.rng t ht;omega) (by omega:ts.length<=300);refine a1d _ _ _ _ ⟨_,rfl,.inl ⟨a,rfl,ga,λH2 s2 hn=>absurd ⟨n,ts,ht,rfl⟩ (hn (a9n n ts)),λp2 H2 d2 s2 D2 N2 ⟨n2,ts2,ht2,ed⟩=>?_⟩⟩;obtain⟨en,et⟩:=b3b ht ht2;subst en et;subst ed;refine⟨_,_,rfl,D2,N2,_,_,rfl,(a4V hw).same s2,hna,rfl,?_⟩;rw[decide_eq_true rfl];exact q H2 (s1.trans s2)
  ·refine⟨_, "str",⟨rfl,rfl⟩,t,ty,false,k,?_⟩;rw[if_neg (by decide)];refine⟨_,v,a9j,rfl,hV,.inr ⟨t,ty,k⟩,λH2 s2=>⟨true,rfl,?_⟩⟩;rw[if_pos rfl];refine⟨_,d0,rfl,D0.same s2,N0,rfl,?_⟩;rw[decide_eq_true rfl];exact q H2 s2
structure TxO (x:Str):Prop where
 g:Gn 2020 202 x
 l:1<=x.length
 n:1<=(cs x).count 10
def a0g (K:ae):Sp:=λvs H Q _=>∃(w:Addr) (n:Int) (ts:⋯),vs=[.ref w]/\S2 H w n ts/\0<=n/\n<=60/\P5 60 ts/\ts.length<=201/\∀ x,TxO x->Q (.str x) H
theorem U5 {x:Int}(h0:0<=x)(h1:x<100):x.natAbs.log2<1920:=a1Q ∅
theorem a8X:(cs (Str.ofString "\n")).count 10=1:=by decide +kernel
def b0f (H:Hp)(w:Addr)(i:Nat)(σ:St)(Hc:Hp):Prop:=∃(x:Str) (c c':Option V),σ=[some (.ref w),some (.str x),c,c']/\Hc=H/\Gn (10+10*i) (1+i) x/\1<=x.length/\1<=(cs x).count 10
theorem a0n:C0 ["_law_web_here","_law_text","_law_one","_law_other"] ["_law_web_here"] (B1 (top 43)):=by walk_at "s"
theorem a3o (F:Fun K "_law_written" "_law_written" (top 43) f fd)(B:Bt mg)(C5:Bt5 mg):C2 P w K mg base CX0 1 f fd ["_law_web_here"] (a0g K):=by
 refine F.ok a0n (λvs H Q E h=>?_) (λcdv A outer s H vs Q E hr h=>?_)
 ·walk_at "h"
 ·obtain⟨w,n,ts,rfl,hw,hn0,hn1,hok,hl,q⟩:=h;have nd:=a0n.nd;have hu:=L8 hr
  refine⟨_,(A3 (B6 (i:=1) nd rfl (.inl rfl) (A7 J0 (A7 J0 B3 (C6 M8 (by rfl) C5.str fA (A0 (E5 (J9 K) (pv 0) A4 (λ_ _=>rfl)) A1))) B3))
    (A3 (P2 br rfl (V2 K (E5 (J9 K) (pv 0) A4 (λ_ _=>rfl))) (R9 K (n:=2) rfl (E1 (A9 (i:=2) nd rfl (.inl rfl)) (E1 (A9 (i:=3) nd rfl (.inl rfl)) Q0)))
     (A5 (B6 (i:=1) nd rfl (.inl rfl) (A7 J0 (A7 J0 (A7 J0 (A7 J0 (A7 J0 (pv 1) B3) (C6 M8 (by rfl) C5.str fA (A0 (pv 2) A1))) B3) (C6 M8 (by rfl) C5.str fA (A0 (pv 3) A1))) B3))))
    (A5 (B5 (pv 1))))),?_⟩
  simp only[L2.S8,st0,ap,cC,aD,bF,List.replicate,bL,cj,Nat.reduceAdd,Nat.reduceSub];have sz:∀ {k:Nat},k<=16000000->k<=sizeLine:=λh=>dL (B8 h)
  have gn:=a2K hn0 (by omega:n<100);have gp:Gn 7 0 (Str.ofString "places "):=E9 (by decide +kernel);have ge:Gn 1 1 (Str.ofString "\n"):=E9 (by decide +kernel);have gt:Gn 4 0 (Str.ofString "tie "):=E9 (by decide +kernel);have gs:Gn 1 0 (Str.ofString " "):=E9 (by decide +kernel);have le:(Str.ofString "\n").length=1:=by decide +kernel
  obtain⟨q0,hw0,ht⟩:=id hw;obtain⟨ps,hp0,hps⟩:=ht;have hlp:=hps.len;walk_at "rd";have g1:=gp.add gn;have g2:=g1.add ge;refine⟨_,SqT.of hw0,_,rfl,n,rfl,U5 hn0 ∅,_,rfl,_,rfl,sz (aM (b8 gp.len gn.len) (by decide)),_,rfl,_,rfl,sz (aM (b8 g1.len ge.len) (by decide)),?_⟩;rw[Y0];walk_at "rd";refine⟨_,SqT.of hw0,_,rfl,q0,rfl,⟨_,SqT.of hp0⟩,Y5 (K:=K) (xs:=ps.map λx=>V.ref x.1) (b0f H w) ⟨_,none,none,rfl,rfl,g2.mono (by decide) (by decide),by rw[b0c,le];omega,by rw[X4,fu,a8X];omega⟩ ?_ ?_ ?_⟩
  ·rintro i σ Hc _ ⟨_,_,_,rfl,rfl,_⟩;exact SqT.of hp0
  ·rintro i v σ Hc hv ⟨x,c,c',rfl,rfl,gx,lx,nx⟩;obtain⟨a,t,rfl,hti,ha⟩:=hps.get hv;have htr:=hok t (aE hti);have hil:=(au.mp hti).1;have ga:=a2K htr.1 (by omega:t.1<100);have gb:=a2K (by omega:0<=t.2) (by omega:t.2<100);have h1:=gx.add gt;have h2:=h1.add ga;have h3:=h2.add gs;have h4:=h3.add gb;have h5:=h4.add ge;walk_at "rd";refine⟨_,SqT.of ha,rfl,_,_,rfl,_,_,rfl,rfl,_,rfl,_,rfl,sz (aM (b8 gx.len gt.len) ∅),t.1,rfl,U5 ∅ ∅,_,rfl,_,rfl,sz (aM (b8 h1.len ga.len) ∅),_,rfl,_,rfl,sz (aM (b8 h2.len gs.len) ∅),t.2,rfl,U5 ∅ ∅,_,rfl,_,rfl,sz (aM (b8 h3.len gb.len) ∅),_,rfl,_,rfl,sz (aM (b8 h4.len ge.len) ∅),_,some (V.int t.1),some (V.int t.2),rfl,rfl,h5.mono ∅ ∅,by rw[b0c,le];omega,by rw[X4,fu,a8X];omega⟩
  ·rintro σ Hc ⟨x,c,c',rfl,rfl,gx,lx,nx⟩;rw[aa,hlp] at gx;walk_at "rd";exact q x ⟨gx.mono ∅ ∅,lx,nx⟩
def TxJ (x:Str):Prop:=Gn 9500 900 x
def a0V (K:ae):Sp:=λvs H Q _=>∃(d:Addr) (a:Str),vs=[.ref d,.str a]/\Q3 H d/\TxO a /\
 ∀(p:Addr) (us:List Str) H',Kp d H H'->Q3 H' d->H p=none->H' p=some (.lst (us.map V.str))->us.length<=20->(∀ w∈us,TxJ w)->Q (.ref p) H'
theorem a1b:C0 ["_law_deck_here","_law_text","_law_at","_law_sign","_law_found"] ["_law_deck_here","_law_text"] (B1 (top 45)):=by walk_at "s"
theorem a4x (F:Fun K "_law_bent_signs" "_law_bent_signs" (top 45) f fd)(B:Bt mg)(D1:Df K mg "_law_next" st1 f1 fd1 ["_law_deck_here"])(G1:C2 P w K mg base CX0 1 f1 fd1 ["_law_deck_here"] U0)(C:Bt2 mg):C2 P w K mg base CX0 2 f fd ["_law_deck_here","_law_text"] (a0V K):=by
 refine F.ok a1b (λvs H Q E h=>?_) (λcdv A outer s H vs Q E hr h=>?_)
 ·walk_at "h"
 ·obtain⟨d,a,rfl,hd,ha,q⟩:=h;have nd:=a1b.nd;have hu:=L8 hr
  refine⟨_,(A3 (@V1 _ _ _ 2 _ _ _ _ _ _ nd rfl (.inl rfl) (A7 N9 (A7 O0 (A7 W9 (B4 G1 D1 hr.m (A0 (pv 0) A1)) A4) (B4 G1 D1 hr.m (A0 (pv 0) A1))) (B0 a6R (by rfl) B.len bG (A0 (pv 1) A1))) (by first | exact .inl rfl | exact .inr rfl | assumption))
    (A3 (B6 (i:=3) nd rfl (.inl rfl) (E5 b2l B3 (A7 N9 (B4 G1 D1 hr.m (A0 (pv 0) A1)) A4) (λ_ _=>rfl)))
    (A3 (@a0t _ _ _ _ 4 _ _ _ nd rfl (.inl rfl) (A0 (A7 J0 (C8 Z6 (pv 1) J7 (E2 (pv 2))) (C8 Z6 (pv 1) (E2 (A7 O0 (pv 2) A4)) J7)) (A0 (A7 J0 (A7 J0 (C8 Z6 (pv 1) J7 (E2 (pv 2))) (pv 3)) (C8 Z6 (pv 1) (E2 (pv 2)) J7)) (A0 (A7 J0 (A7 J0 (C8 Z6 (pv 1) J7 (E2 (pv 2))) (pv 3)) (C8 Z6 (pv 1) (E2 (A7 O0 (pv 2) A4)) J7)) A1))) (by first | exact .inl rfl | exact .inr rfl | assumption))
    (A5 (B5 (A7 M6 (pv 4) (K6 (A0 (C8 Z6 (pv 1) J7 (E2 (a2D a0B A4))) (A0 (A7 J0 (pv 1) B3) (A0 (A7 a1o (pv 1) A4) (A0 (A7 J0 B3 (pv 1)) (A0 (A7 J0 (pv 1) B3) (A0 B3 A1))))))))))))),?_⟩
  walk_at "rd";have sz:∀ {n:Nat},n<=16000000->n<=sizeLine:=λh=>dL (B8 h)
  have hg:=ha.g;have al:=hg.len;have a1:=ha.l;refine Q9 hd λz H1 k1 d1 z0 z1=>⟨z,rfl,.inl ⟨∅,∅⟩,Q9 d1 λy H2 k2 d2 y0 y1=>⟨y,rfl,a,rfl,sz ∅,∅,Q9 d2 λx H3 k3 d3 x0 x1=>⟨x,rfl,by decide,_,rfl,by decide,?_⟩⟩⟩
  generalize (z*1000+y) % (a.length:Int)=at';obtain⟨c,hc,gc⟩:∃ c,atI (Str.ofString "0123456789 tieplacs-+,.\nT_").cps.toList (x % 26)=some c/\Gn 1 1 ⟨#[c]⟩:=by
   have h:(dE 26).all (λi=>match atI (Str.ofString "0123456789 tieplacs-+,.\nT_").cps.toList (i:Int) with | some c=>gnB 1 1 ⟨#[c]⟩ | none=>false)=true:=by decide +kernel
   have:=bI.mp h (x % 26).toNat (bQ.mpr ∅);rw[aV ∅] at this
   revert this
   cases e:atI (Str.ofString "0123456789 tieplacs-+,.\nT_").cps.toList (x % 26) with
   | none=>intro h;cases h
   | some c=>intro h;exact⟨c,rfl,E9 h⟩
  have gA:=λlo hi=>hg.cut (lo:=lo) (hi:=hi)
  have g1:=(gA none (some at')).add (gA (some (at'+1)) none);have g0:=(gA none (some at')).add gc;have g2:=g0.add (gA (some at') none);have g3:=g0.add (gA (some (at'+1)) none);have za:∀ {u v:Str} {m k m' k':Nat},Gn m k u->Gn m' k' v->m+m'<=16000000->u.length+v.length<=sizeLine:=λh h' hm=>sz (aM (b8 h.len h'.len) hm)
  refine⟨c,hc,_,rfl,sz ∅,_,rfl,sz ∅,_,rfl,_,rfl,za (gA _ _) (gA _ _) (by decide),_,rfl,sz ∅,_,rfl,_,rfl,za (gA _ _) gc (by decide),_,rfl,sz ∅,_,rfl,_,rfl,za g0 (gA _ _) (by decide),_,rfl,sz ∅,_,rfl,_,rfl,za (gA _ _) gc (by decide),_,rfl,sz ∅,_,rfl,_,rfl,za g0 (gA _ _) (by decide),by decide,λp np=>A6 np λH4 s4 e4=>?_⟩;have ge:Gn 1 1 (Str.ofString "\n"):=E9 (by decide +kernel);have gs:Gn 1 0 (Str.ofString " "):=E9 (by decide +kernel);have g0':Gn 0 0 (Str.ofString ""):=E9 (by decide +kernel);refine⟨_,rfl,sz ∅,_,rfl,_,rfl,za hg ge (by decide),_,rfl,∅,by decide,∅,_,rfl,_,rfl,za ge hg (by decide),_,rfl,_,rfl,za hg gs (by decide),by decide,λp2 n2=>A6 n2 λH5 s5 e5=>?_⟩;refine P8 (s5 _ _ e4) e5 (by show 3+6<=10000;decide) λpf H6 nf s6 e6=>?_
  have k6:=(((((k1.trans k2).trans k3).trans s4.kp).trans s5.kp).trans s6.kp)
  have gj:∀ {m k:Nat} {u:Str},Gn m k u->m<=9500->k<=900->TxJ u:=λh h1 h2=>h.mono h1 h2
  refine q pf [_,_,_,_,_,_,_,_,_] H6 k6 (((d3.same s4).same s5).same s6) ?_ (e6.trans rfl) (by show 9<=20;decide) ?_
  ·exact k1.free d1 (k2.free d2 (k3.free d3 ((s4.trans s5).free nf)))
  ·have alN:∀ w∈([]:List Str),TxJ w:=λ_ h=>nomatch h
   have alC:∀ {b:Str} {l:List Str},TxJ b->(∀ w∈l,TxJ w)->∀ w∈b::l,TxJ w:=λh t w hw=>(aQ.mp hw).elim (λe=>e ▸ h) (t w)
   exact alC (gj g1 (by decide) (by decide)) (alC (gj g2 (by decide) (by decide)) (alC (gj g3 (by decide) (by decide)) (alC (gj (gA _ _) (by decide) (by decide)) (alC (gj (hg.add ge) (by decide) (by decide)) (alC (gj (Gn.rep (n:=2) hg) (by decide) (by decide)) (alC (gj (ge.add hg) (by decide) (by decide)) (alC (gj (hg.add gs) (by decide) (by decide)) (alC (gj g0' (by decide) (by decide)) alN))))))))
def pk (e:Int)(n:Nat):⋯:=(dE n).map λ(k:Nat)=>((k:Int),(k:Int)+e)
theorem a9G (e:Int)(n:Nat):pk e (n+1)=pk e n++[((n:Int),(n:Int)+e)]:=by unfold pk;rw[List.range_succ,aC];rfl
theorem a0G (e:Int)(n:Nat):(pk e n).length=n:=by unfold pk;rw[aa,jF]
theorem a5W {e:Int}{n:Nat}(h1:1<=e)(h2:(n:Int)+e<=60):P5 60 (pk e n):=λt ht=>by
 obtain⟨k,hk,rfl⟩:=bx.mp ht;have:=bQ.mp hk;exact⟨by show (0:Int)<=k;omega,by show (k:Int)<k+e;omega,by show (k:Int)+e<60;omega⟩
def b2r (Hb:Hp)(p:Addr)(e:Int)(i:Nat)(τ:St)(Hc:Hp):Prop:=∃(c:Option V) (ps:List (Addr×List Int)),τ=[c]/\B2 Hb Hc/\Hc p=some (.lst (ps.map λx=>V.ref x.1))/\M9 Hc ps (pk e i)
theorem Y3 {H1:Hp}{p:Addr}{e:Int}{n:Nat}{EE:Hp->Prop}(np:H1 p=none)(hn:n<=1000)(q:∀ H' ps,B2 H1 H'->H' p=some (.lst (ps.map λx=>V.ref x.1))->M9 H' ps (pk e n)->EE H') :
  lcW (P4 0) b1i (b1j (a5I (U3 0) (a5I (tOp (rI0 λi j=>V.int (i+j)) (U3 0) (tC (V.int e))) b1q))) p (Itr 0 n) [none] (upd H1 p (HO.lst [])) EE:=by
 refine X0 (lo:=0) (b2r H1 p e) ⟨none,[],rfl,(B2.refl H1).upd np,A2,⟨λx hx=>(by cases hx),rfl⟩⟩ ?_ ?_
 ·rintro i τ Hc hi ⟨c,ps,rfl,sc,hc,hps⟩;rw[i8];walk_at "rd";refine⟨by decide,λa na=>?_⟩;have hap:a≠p:=λe=>by rw[e,hc] at na;cases na
  have e1:=(A8 (H:=Hc) (o:=.tup [.int i,.int ((i:Int)+e)]) (λe=>hap e.symm)).trans hc;have hpl:=hps.len;rw[a0G] at hpl;refine⟨_,e1,by rw[aa];exact B8 ∅,_,ps++[(a,tl ((i:Int),(i:Int)+e))],rfl,(sc.upd (sc.free na)).upd np,by rw[A2,aC];rfl,?_⟩;rw[a9G];refine (hps.tp ((Tp.nw na).trans (Tp.lst e1))).snoc ?_;rw[A8 hap,A2]
 ·rintro τ Hc ⟨c,ps,rfl,sc,hc,hps⟩;exact q Hc ps sc hc hps
theorem a3i {H:Hp}{ps qs:List (Addr×List Int)}{ts us:⋯}(h:M9 H ps ts)(h':M9 H qs us):M9 H (ps++qs) (ts++us):=⟨λx hx=>(aj.mp hx).elim (h.to x) (h'.to x),by rw[aC,aC,h.eq,h'.eq]⟩
def b2y (H:Hp)(p pn:Addr)(gs:⋯)(ks:List Int)(i:Nat)(τ:St)(Hc:Hp):Prop:=∃(ov uv:Option V) (ps:List (Addr×List Int)),τ=[ov,uv,some (.ref pn)]/\B2 H Hc/\Hc p=some (.lst (ps.map λx=>V.ref x.1))/\M9 Hc ps ((gs.take i).map (ren ks))
def a0j (K:ae):Sp:=λvs H Q _=>∃(d:Addr),vs=[.ref d]/\Q3 H d /\
 ∀(w:Addr) (ts:⋯) H',Kp d H H'->Q3 H' d->S2 H' w 60 ts->P5 60 ts->ts.length<=201->Q (.ref w) H'
theorem a0q:C0 ["_law_deck_here","_law_names","_law_pairs"] ["_law_deck_here"] (B1 (top 46)):=by walk_at "s"
theorem a3r (F:Fun K "_law_crowded" "_law_crowded" (top 46) f fd)(B:Bt mg)(D1:Df K mg "_law_next" st1 f1 fd1 ["_law_deck_here"])(G1:C2 P w K mg base CX0 1 f1 fd1 ["_law_deck_here"] U0)(D2:Df K mg "_law_turn" st2 f2 fd2 ["_law_deck_here","_law_many"])(G2:C2 P w K mg base CX0 2 f2 fd2 ["_law_deck_here","_law_many"] a1m)(C:Bt2 mg):C2 P w K mg base CX0 3 f fd ["_law_deck_here"] (a0j K):=by
 refine F.ok a0q (λvs H Q E h=>?_) (λcdv A outer s H vs Q E hr h=>?_)
 ·walk_at "h"
 ·obtain⟨d,rfl,hd,q⟩:=h;have nd:=a0q.nd;have hu:=L8 hr
  refine⟨_,(A3 (B6 (i:=1) nd rfl (.inr rfl) (B4 G2 D2 hr.m (A0 (pv 0) (A0 A4 A1))))
    (A3 (B6 (i:=2) nd rfl (.inl rfl) (A7 M6 (A7 M6 (N7 (own:=["_law_k"]) (fr:=[]) rfl (by walk_at "w") F0 (M7 (by rfl) B.range (A0 A4 A1)) ⟨λ_ _ _ _=>⟨(A9 (i:=0) (show bR (["_law_k"]:List Str) by decide +kernel) rfl (.inl rfl)),K7,(K5 (A0 (pv 0) (A0 (A7 O0 (pv 0) A4) A1)))⟩⟩) (N7 (own:=["_law_k"]) (fr:=[]) rfl (by walk_at "w") F0 (M7 (by rfl) B.range (A0 A4 A1)) ⟨λ_ _ _ _=>⟨(A9 (i:=0) (show bR (["_law_k"]:List Str) by decide +kernel) rfl (.inl rfl)),K7,(K5 (A0 (pv 0) (A0 (A7 O0 (pv 0) A4) A1)))⟩⟩)) (N7 (own:=["_law_k"]) (fr:=[]) rfl (by walk_at "w") F0 (M7 (by rfl) B.range (A0 A4 A1)) ⟨λ_ _ _ _=>⟨(A9 (i:=0) (show bR (["_law_k"]:List Str) by decide +kernel) rfl (.inl rfl)),K7,(K5 (A0 (pv 0) (A0 (A7 O0 (pv 0) A4) A1)))⟩⟩)))
    (A3 (B6 (i:=2) nd rfl (.inl rfl) (A7 M6 (pv 2) (N7 (own:=["_law_k"]) (fr:=[]) rfl (by walk_at "w") F0 (M7 (by rfl) B.range (A0 (A7 O0 A4 (A7 N9 (B4 G1 D1 hr.m (A0 (pv 0) A1)) A4)) A1)) ⟨λ_ _ _ _=>⟨(A9 (i:=0) (show bR (["_law_k"]:List Str) by decide +kernel) rfl (.inl rfl)),K7,(K5 (A0 (pv 0) (A0 (A7 O0 (pv 0) A4) A1)))⟩⟩)))
    (A5 (B5 (K5 (A0 A4 (A0 (C6 (V8 K) (by rfl) B.tuple dw (A0 (B0 (a1A K) (by rfl) B.sorted eu (A0 (N7 (own:=["_law_a","_law_b"]) (fr:=[("_law_names",1)]) rfl (by walk_at "w") (U6 rfl rfl F0) (K4 K (pv 2)) ⟨λ_ _ _ _=>⟨(R9 K (n:=2) rfl (E1 (A9 (i:=0) (show bR (["_law_a","_law_b","_law_names"]:List Str) by decide +kernel) rfl (.inl rfl)) (E1 (A9 (i:=1) (show bR (["_law_a","_law_b","_law_names"]:List Str) by decide +kernel) rfl (.inl rfl)) Q0))),K7,(K5 (A0 (B0 (a0O rfl) (by rfl) B.min boot_min (A0 (E5 (J9 K) (pv 2) (pv 0) (λ_ _=>rfl)) (A0 (E5 (J9 K) (pv 2) (pv 1) (λ_ _=>rfl)) A1))) (A0 (B0 (U8 rfl) (by rfl) B.max jt (A0 (E5 (J9 K) (pv 2) (pv 0) (λ_ _=>rfl)) (A0 (E5 (J9 K) (pv 2) (pv 1) (λ_ _=>rfl)) A1))) A1)))⟩⟩) A1)) A1)) A1)))))))),?_⟩
  simp only[L2.S8,st0,ap,cC,aD,bF,List.replicate,bL,cj,Nat.reduceAdd,Nat.reduceSub];walk_at "rd";refine a3N hd (by decide) (by decide) λpn ks H1 k1 d1 nn en hperm=>⟨by decide,by decide,λp1 n1=>Y3 n1 (by decide) λH2 ps1 s2 e2 h2=>⟨by decide,by decide,λp2 n2=>Y3 n2 (by decide) λH3 ps2 s3 e3 h3=>?_⟩⟩
  have l1:ps1.length=59:=h2.len.trans (a0G _ _);have l2:ps2.length=58:=h3.len.trans (a0G _ _);refine P8 (s3 _ _ e2) e3 (by rw[aa,aa,l1,l2];decide) λp3 H4 n4 s4 e4=>⟨by decide,by decide,λp5 n5=>Y3 n5 (by decide) λH5 ps3 s5 e5 h5=>?_⟩
  have l3:ps3.length=57:=h5.len.trans (a0G _ _);refine P8 (s5 _ _ e4) e5 (by rw[aq,aa,aa,aa,l1,l2,l3];decide) λp6 H6 n6 s6 e6=>?_
  have s16:=((((s2.trans s3).trans s4).trans s5).trans s6)
  have d6:=d1.same s16;have p6d:p6≠d:=(d1.same (((s2.trans s3).trans s4).trans s5)).ne n6;have pnd:pn≠d:=hd.ne nn;refine Q9 d6 λz H7 k7 d7 z0 z1=>⟨z,rfl,by decide,∅,∅,λp8 n8=>?_⟩
  have m27:(26+z % 2).toNat<=27:=∅
  refine Y3 n8 ∅ λH8 ps4 s8 e8 h8=>?_
  have l4:ps4.length=(26+z % 2).toNat:=h8.len.trans (a0G _ _);have e6':=s8 _ _ (k7 _ _ p6d e6);refine P8 e6' e8 (by rw[aq,aq,aa,aa,aa,aa,l1,l2,l3,l4];omega) λp9 H9 n9 s9 e9=>?_
  have t79:Tp H6 H9:=(k7.tp d6).trans (s8.trans s9).tp;have hgs:M9 H9 (ps1++ps2++ps3++ps4) (pk 1 59++pk 2 58++pk 3 57++pk 4 (26+z % 2).toNat) :=
   a3i (a3i (a3i (h2.tp ((((s3.trans s4).trans s5).trans s6).tp.trans t79)) (h3.tp (((s4.trans s5).trans s6).tp.trans t79))) (h5.tp (s6.tp.trans t79))) (h8.tp s9.tp)
  have gr:P5 60 (pk 1 59++pk 2 58++pk 3 57++pk 4 (26+z % 2).toNat):=λt ht=>by
   rcases aj.mp ht with ht | ht
   ·rcases aj.mp ht with ht | ht
    ·rcases aj.mp ht with ht | ht
     ·exact a5W (by decide) (by decide) t ht
     ·exact a5W (by decide) (by decide) t ht
    ·exact a5W (by decide) (by decide) t ht
   ·exact a5W (by decide) ∅ t ht
  have gl:(pk 1 59++pk 2 58++pk 3 57++pk 4 (26+z % 2).toNat).length<=201:=by
   simp only[aq,a0G];omega
  have e9':H9 p9=some (.lst ((ps1++ps2++ps3++ps4).map λx=>V.ref x.1)):=by rw[e9];simp only[aC]
  have en9:H9 pn=some (.tup (ks.map V.int)):=(s8.trans s9) _ _ (k7 _ _ pnd (s16 _ _ en));have k9:Kp d H H9:=(k1.trans (s16.kp.trans k7)).trans (s8.trans s9).kp;have d9:=(d7.same s8).same s9;generalize pk 1 59++pk 2 58++pk 3 57++pk 4 (26+z % 2).toNat=gs at *
  generalize ps1++ps2++ps3++ps4=ps at *
  clear e2 e3 e4 e5 e6 e6' e8 e9 h2 h3 h5 h8 s2 s3 s4 s5 s6 s8 s9 s16 n1 n2 n4 n5 n6 n8 n9 en t79 k7 d6 d7;refine⟨p9,rfl,⟨_,SqL.of e9'⟩,λpc nc=>?_⟩;refine S7 (K:=K) (xs:=ps.map λx=>V.ref x.1) (b2y H9 pc pn gs ks) ⟨none,none,[],rfl,(B2.refl H9).upd nc,A2,⟨λx hx=>(by cases hx),rfl⟩⟩ ?_ ?_ ?_
  ·rintro i τ Hc _ ⟨_,_,_,rfl,sc,_⟩;exact SqL.of (sc _ _ e9')
  ·rintro i v τ Hc hx ⟨ov,uv,ps2,rfl,sc,h2,hps2⟩ _;obtain⟨a,t,rfl,hti,hta⟩:=hgs.get hx;obtain⟨g0,g1,g2⟩:=gr t (aE hti);have hil:i<gs.length:=(au.mp hti).1;have hpn5:Hc pn=some (.tup (ks.map V.int)):=sc _ _ en9;have a1:atI (ks.map V.int) t.1=some (V.int (nm ks t.1)):=by
    rw[<- aV g0];refine U2 ?_;rw[aH,a1K (n:=60) hperm g0 ∅];rw[aV g0];rfl
   have a2:atI (ks.map V.int) t.2=some (V.int (nm ks t.2)):=by
    rw[<- aV (show 0<=t.2 by omega)];refine U2 ?_;rw[aH,a1K (n:=60) hperm ∅ g2];rw[aV (show 0<=t.2 by omega)];rfl
   walk_at "rd";refine⟨_,SqT.of (sc _ _ hta),rfl,_,_,rfl,_,_,rfl,rfl,_,_,rfl,SqT.of hpn5,_,a1,_,_,rfl,SqT.of hpn5,_,a2,_,_,⟨rfl,rfl⟩,_,_,rfl,SqT.of hpn5,_,a1,_,_,rfl,SqT.of hpn5,_,a2,_,_,⟨rfl,rfl⟩,by decide,λpq nq=>?_⟩;have hlen2:ps2.length<=201:=by have:=hps2.len;rw[aa,aT] at this;omega
   refine⟨_,P3 h2 nq,by rw[aa];exact B8 ∅,_,_,ps2++[(pq,tl (ren ks t))],rfl,(sc.upd (sc.free nq)).upd nc,by rw[A2,aC];rfl,?_⟩;rw[bZ,hti,aC];refine M9.snoc (hps2.tp ((Tp.nw nq).trans (Tp.lst (P3 h2 nq)))) ?_;rw[A8 (B9 h2 nq).symm,A2];rfl
  ·rintro τ Hc ⟨ov,uv,ps2,rfl,sc,h2,hps2⟩;rw[aa,hgs.len,bH] at hps2;refine⟨ps2,hps2.src h2,λps3 l3 pm3 hs3 nl3=>?_⟩;obtain⟨ts,pts,hts⟩:=hps2.perm pm3;refine A6 nl3 λHA sA eA=>⟨_,.inl ⟨SqL.of eA,λl4 n4=>A6 n4 λHB sB eB=>⟨by decide,λp5 n5'=>A6 n5' λHC sC eC=>?_⟩⟩⟩
   have sAC:=(sc.trans sA).trans (sB.trans sC);refine q p5 ts HC (k9.trans sAC.kp) (d9.same sAC) ⟨l4,eC,ps3,sC _ _ eB,hts.tp (sA.trans (sB.trans sC)).tp⟩ (λt ht=>?_) (by rw[pts.length_eq,aa];exact gl);obtain⟨u,hu,rfl⟩:=bx.mp (pts.mem_iff.mp ht);obtain⟨h0,h1,h2⟩:=gr u hu;have a:=a3s (n:=60) hperm h0 ∅;have b:=a3s (n:=60) hperm (u:=u.2) ∅ h2;have c:nm ks u.1≠nm ks u.2:=λe=>by have:=a0a (n:=60) hperm h0 ∅ ∅ h2 e;omega
   unfold ren;dsimp only;split<;>split<;>omega
theorem alN {α:Type}{P:α->Prop}:∀ x∈([]:List α),P x:=λ_ h=>nomatch h
theorem alC {α:Type}{P:α->Prop}{a:α}{l:List α}(h:P a)(t:∀ x∈l,P x):∀ x∈a::l,P x:=λx hx=>(aQ.mp hx).elim (λe=>e ▸ h) (t x)
def a0w:List Str:=[Str.ofString "",Str.ofString "tie",Str.ofString "tie 0",Str.ofString "tie 0 1 2",Str.ofString "tie 00 1",Str.ofString "tie 0 01",Str.ofString "tie  0 1",Str.ofString "Tie 0 1",Str.ofString "tie 0 1 ",Str.ofString " tie 0 1"]
def a0v:List Str:=[Str.ofString "tie 0,1",Str.ofString "places 3",Str.ofString "tie -1 2",Str.ofString "tie 0 +1",Str.ofString "tie 0 "++a0r (Str.ofString "9") (cU 5000),Str.ofString "ties 0 1"]
def a1f:List Str:=[Str.ofString "tie 0 1_0",Str.ofString "tie 0_0 1"]
theorem a8g:∀ w∈a0w,Gn 5010 0 w:=(alC (E9 (by decide +kernel)) (alC (E9 (by decide +kernel)) (alC (E9 (by decide +kernel)) (alC (E9 (by decide +kernel)) (alC (E9 (by decide +kernel)) (alC (E9 (by decide +kernel)) (alC (E9 (by decide +kernel)) (alC (E9 (by decide +kernel)) (alC (E9 (by decide +kernel)) (alC (E9 (by decide +kernel)) alN))))))))))
theorem a8f:∀ w∈a0v,Gn 5010 0 w:=(alC (E9 (by decide +kernel)) (alC (E9 (by decide +kernel)) (alC (E9 (by decide +kernel)) (alC (E9 (by decide +kernel)) (alC (((E9 (m:=6) (k:=0) (by decide +kernel)).add (Gn.rep (n:=5000) (E9 (m:=1) (k:=0) (by decide +kernel)))).mono (by decide) (by decide)) (alC (E9 (by decide +kernel)) alN))))))
theorem a8e:∀ w∈a1f,Gn 5010 0 w:=(alC (E9 (by decide +kernel)) (alC (E9 (by decide +kernel)) alN))
theorem a5h {A B:List Str}(h:∀ w∈A,Gn 5010 0 w)(h':∀ w∈B,Gn 5010 0 w):∀ w∈A++B,Gn 5010 0 w:=λw hw=>(aj.mp hw).elim (h w) (h' w)
def Wn (n q:Nat)(H:Hp)(a:Addr):Prop:=∃ us:List Str,H a=some (.lst (us.map V.str))/\LnR n q us
theorem Wn.same {n q:Nat}{H H':Hp}{a:Addr}(h:Wn n q H a)(s:B2 H H'):Wn n q H' a:=let ⟨us,e,r⟩:=h;⟨us,s _ _ e,r⟩
theorem Wn.kp {n q:Nat}{H H':Hp}{a p:Addr}(h:Wn n q H a)(k:Kp p H H')(np:a≠p):Wn n q H' a:=let ⟨us,e,r⟩:=h;⟨us,k _ _ np e,r⟩
theorem Wn.mono {n q n' q':Nat}{H:Hp}{a:Addr}(h:Wn n q H a)(hn:n<=n')(hq:q<=q'):Wn n' q' H a:=let ⟨us,e,r⟩:=h;⟨us,e,r.mono hn hq⟩
theorem K9 {K:ae}{n q:Nat}{H:Hp}{a:Addr}{lo hi:Option Int}{Q:VK}(h:Wn n q H a)(k:∀ p H',H p=none->B2 H H'->Wn n q H' p->Q (.ref p) H'):a9x K (.ref a) lo hi H Q:=by
 obtain⟨us,e,r⟩:=h;refine a3a e λp H' np s' e'=>k p H' np s' ⟨(us.drop (HT.sIx us.length 0 lo)).take (HT.sIx us.length us.length hi-HT.sIx us.length 0 lo),?_,r.cut _ _⟩
 rw[e'];unfold Z0;rw[aa,fB,List.map_drop]
theorem T4 {n q n' q':Nat}{H:Hp}{a b:Addr}{Q:VK}(h:Wn n q H a)(h':Wn n' q' H b)(hz:n+n'<=10000)(k:∀ p H',H p=none->B2 H H'->Wn (n+n') (q+q') H' p->Q (.ref p) H'):b1G (.ref a) (.ref b) H Q:=by
 obtain⟨us,e,r⟩:=h;obtain⟨vs,e2,r2⟩:=h';have:=r.num;have:=r2.num;exact P8 e e2 (by rw[aa,aa];omega) λp H' np s' e'=>k p H' np s' ⟨us++vs,by rw[e',aC],r.app r2⟩
theorem a6e:∀ {ws:List Str} {x:Str},x∈ws->x.length<=(ws.map (·.length)).sum
 | w::ws,x,h=>by
  rw[ap,eJ];rcases aQ.mp h with rfl | h
  ·omega
  ·have:=a6e h;omega
def WJ (H:Hp)(a:Addr):Prop:=∃ n q,n<=900/\q+n<=9500/\Wn n q H a
theorem WJ.same {H H':Hp}{a:Addr}(h:WJ H a)(s:B2 H H'):WJ H' a:=let ⟨n,q,h1,h2,w⟩:=h;⟨n,q,h1,h2,w.same s⟩
theorem WJ.kp {H H':Hp}{a p:Addr}(h:WJ H a)(k:Kp p H H')(np:a≠p):WJ H' a:=let ⟨n,q,h1,h2,w⟩:=h;⟨n,q,h1,h2,w.kp k np⟩
theorem Wn.j {n q:Nat}{H:Hp}{a:Addr}(h:Wn n q H a)(h1:n<=900)(h2:q+n<=9500):WJ H a:=⟨n,q,h1,h2,h⟩
def b2z (Hb:Hp)(pf:Addr)(i:Nat)(τ:St)(Hc:Hp):Prop:=∃(c:Option V) (us:List Str),τ=[c]/\B2 Hb Hc/\Hc pf=some (.lst (us.map V.str))/\us.length=i/\∀ w∈us,TxJ w
def b0T (n:Int):List Str:=[Str.ofString "0",Str.ofString "2",Str.ofString "61",Str.ofString "03",Str.ofString "",a0r (Str.ofString "9") (cU 5000),Str.ofString "3 3",tS (n+1)]
theorem Kp.back8 {H H':Hp}{p:Addr}(k:Kp p H H')(np:H p=none):B2 H H':=λb o e=>k b o (λh=>by rw[h,np] at e;cases e) e
theorem a1s {H:Hp}{p:Addr}{o:HO}:Kp p H (upd H p o):=λb u hb e=>(A8 hb).trans e
theorem a8U (L:List Str):Z0 (L.map V.str) none (some (-1))=(L.take (L.length-1)).map V.str:=by
 have s2:HT.sIx L.length L.length (some (-1))=L.length-1:=by
  unfold HT.sIx;show (if (-1:Int)<0 then _ else _)=_;rw[if_pos (by decide)];omega
 unfold Z0;rw[aa,s2,show HT.sIx L.length 0 none=0 from rfl,dr,Nat.sub_zero,fB]
def a0W (K:ae):Sp:=λvs H Q _=>∃(d:Addr) (a:Str) (n:Int),vs=[.ref d,.str a,.int n]/\Q3 H d/\TxO a/\3<=n/\n<=60 /\
 ∀(p:Addr) (us:List Str) H',Kp d H H'->Q3 H' d->H p=none->H' p=some (.lst (us.map V.str))->us.length<=20->(∀ w∈us,TxJ w)->Q (.ref p) H'
theorem a1c:C0 ["_law_deck_here","_law_text","_law_places","_law_lines","_law_at","_law_one","_law_put","_law_odd","_law_more","_law_rows","_law_two"] ["_law_deck_here","_law_text","_law_places"] (B1 (top 44)):=by walk_at "s"
theorem a4y (F:Fun K "_law_bent_lines" "_law_bent_lines" (top 44) f fd)(B:Bt mg)(D1:Df K mg "_law_next" st1 f1 fd1 ["_law_deck_here"])(G1:C2 P w K mg base CX0 1 f1 fd1 ["_law_deck_here"] U0)(C:Bt2 mg)(C5:Bt5 mg):C2 P w K mg base CX0 2 f fd ["_law_deck_here","_law_text","_law_places"] (a0W K):=by
 refine F.ok a1c (λvs H Q E h=>?_) (λcdv A outer s H vs Q E hr h=>?_)
 ·walk_at "h"
 ·obtain⟨d,a,n,rfl,hd,ha,h3,h60,q⟩:=h;have nd:=a1c.nd;have hu:=L8 hr
  refine⟨_,((B6 (i:=3) nd rfl (.inl rfl) (C8 (G9 K) (Y1 K (pv 1) (B3<*>A1)) J7 (E2 (a2D a0B A4))))<*
    ((@V1 _ _ _ 4 _ _ _ _ _ _ nd rfl (.inl rfl) ((B4 G1 D1 hr.m ((pv 0)<*>A1))&&&(B0 (Y9 K) (by rfl) B.len bG ((pv 3)<*>A1))) (by first | exact .inl rfl | exact .inr rfl | assumption))<*
    ((@V1 _ _ _ 5 _ _ _ _ _ _ nd rfl (.inl rfl) ((B4 G1 D1 hr.m ((pv 0)<*>A1))&&&((pv 2)|||A4)) (by first | exact .inl rfl | exact .inr rfl | assumption))<*
    ((@V1 _ _ _ 6 _ _ _ _ _ _ nd rfl (.inl rfl) (@A7 _ _ _ _ _ _ _ _ J0 (@A7 _ _ _ _ _ _ _ _ J0 (@A7 _ _ _ _ _ _ _ _ J0 B3 (C6 M8 (by rfl) C5.str fA ((pv 5)<*>A1))) B3) (C6 M8 (by rfl) C5.str fA (((B4 G1 D1 hr.m ((pv 0)<*>A1))&&&((pv 2)|||A4))<*>A1))) (by first | exact .inl rfl | exact .inr rfl | assumption))<*
    ((@a0t _ _ _ _ 7 _ _ _ nd rfl (.inl rfl) (B3<*>(B3<*>(B3<*>(B3<*>(B3<*>(B3<*>(B3<*>(B3<*>(B3<*>(B3<*>A1)))))))))) (by first | exact .inl rfl | exact .inr rfl | assumption))<*
    ((@V1 _ _ _ 7 _ _ _ _ _ _ nd rfl (.inl rfl) (@A7 _ _ _ _ _ _ _ _ M6 (pv 7) (@K6 _ _ _ _ (B3<*>(B3<*>(B3<*>(B3<*>((@A7 _ _ _ _ _ _ _ _ J0 B3 (@A7 _ _ _ _ _ _ _ _ a1o B3 A4))<*>(B3<*>A1)))))))) (by first | exact .inl rfl | exact .inr rfl | assumption))<*
    ((@V1 _ _ _ 7 _ _ _ _ _ _ nd rfl (.inl rfl) (@A7 _ _ _ _ _ _ _ _ M6 (pv 7) (@K6 _ _ _ _ (B3<*>(B3<*>A1)))) (by first | exact .inl rfl | exact .inr rfl | assumption))<*
    ((N5 (N6 K (pv 7) ((@A7 _ _ _ _ _ _ _ _ J0 (@A7 _ _ _ _ _ _ _ _ J0 B3 (@A7 _ _ _ _ _ _ _ _ a1o B3 A4)) B3)<*>A1)))<*
    ((@a0t _ _ _ _ 8 _ _ _ nd rfl (.inl rfl) ((pv 6)<*>(((pv 7)<|>((B4 G1 D1 hr.m ((pv 0)<*>A1))&&&(B0 (Y9 K) (by rfl) B.len bG ((pv 7)<*>A1))))<*>A1)) (by first | exact .inl rfl | exact .inr rfl | assumption))<*
    ((@a0t _ _ _ _ 9 _ _ _ nd rfl (.inl rfl) ((@A7 _ _ _ _ _ _ _ _ M6 (C8 (G9 K) (pv 3) J7 (E2 (pv 4))) (C8 (G9 K) (pv 3) (E2 ((pv 4)|||A4)) J7))<*>((@A7 _ _ _ _ _ _ _ _ M6 (@A7 _ _ _ _ _ _ _ _ M6 (C8 (G9 K) (pv 3) J7 (E2 (pv 4))) (C8 (G9 K) (pv 3) (E2 (pv 4)) (E2 ((pv 4)|||A4)))) (C8 (G9 K) (pv 3) (E2 (pv 4)) J7))<*>((@A7 _ _ _ _ _ _ _ _ M6 (@A7 _ _ _ _ _ _ _ _ M6 (C8 (G9 K) (pv 3) J7 (E2 (pv 4))) (C8 (G9 K) (pv 8) J7 (E2 A4))) (C8 (G9 K) (pv 3) (E2 (pv 4)) J7))<*>A1))) (by first | exact .inl rfl | exact .inr rfl | assumption))<*
    ((@V1 _ _ _ 10 _ _ _ _ _ _ nd rfl (.inl rfl) (@A7 _ _ _ _ _ _ _ _ M6 (C8 (G9 K) (pv 3) (E2 ((pv 4)|||A4)) (E2 ((pv 4)|||A4))) (C8 (G9 K) (pv 3) (E2 (pv 4)) (E2 ((pv 4)|||A4)))) (by first | exact .inl rfl | exact .inr rfl | assumption))<*
    ((N5 (N6 K (pv 9) ((@A7 _ _ _ _ _ _ _ _ M6 (@A7 _ _ _ _ _ _ _ _ M6 (C8 (G9 K) (pv 3) J7 (E2 (pv 4))) (pv 10)) (C8 (G9 K) (pv 3) (E2 ((pv 4)|||A4)) J7))<*>A1)))<*
    ((N5 (N6 K (pv 9) ((@A7 _ _ _ _ _ _ _ _ M6 (@A7 _ _ _ _ _ _ _ _ M6 (C8 (G9 K) (pv 3) J7 (E2 (pv 4))) (C8 (G9 K) (pv 8) (E2 A4) J7)) (C8 (G9 K) (pv 3) (E2 (pv 4)) J7))<*>A1)))<*
    ((N5 (N6 K (pv 9) ((@A7 _ _ _ _ _ _ _ _ M6 (@K6 _ _ _ _ ((@A7 _ _ _ _ _ _ _ _ J0 B3 ((@K6 _ _ _ _ (B3<*>(B3<*>(B3<*>(B3<*>(B3<*>((@A7 _ _ _ _ _ _ _ _ a1o B3 A4)<*>(B3<*>((C6 M8 (by rfl) C5.str fA (((pv 2)|||A4)<*>A1))<*>A1)))))))))<|>((pv 5)&&&A4)))<*>A1)) (C8 (G9 K) (pv 3) (E2 A4) J7))<*>A1)))<*
    (@A5 _ _ _ (B5 (N7 (own:=["_law_row"]) (fr:=[]) rfl (by walk_at "w") F0 (K4 K (pv 9)) ⟨λ_ _ _ _=>⟨(A9 (i:=0) (show bR (["_law_row"]:List Str) by decide +kernel) rfl (.inl rfl)),K7,(b2j K B3 ((N7 (own:=["_law_line"]) (fr:=[]) rfl (by walk_at "w") F0 (K4 K (pv 0)) ⟨λ_ _ _ _=>⟨(A9 (i:=0) (show bR (["_law_line"]:List Str) by decide +kernel) rfl (.inl rfl)),K7,(@A7 _ _ _ _ _ _ _ _ J0 (pv 0) B3)⟩⟩)<*>A1))⟩⟩))))))))))))))))),?_⟩
  simp only[L2.S8,st0,ap,cC,aD,bF,List.replicate,bL,cj,Nat.reduceAdd,Nat.reduceSub];have sz:∀ {k:Nat},k<=16000000->k<=sizeLine:=λh=>dL (B8 h)
  have za:∀ {u v:Str} {m k m' k':Nat},Gn m k u->Gn m' k' v->m+m'<=16000000->u.length+v.length<=sizeLine:=λh h' hm=>sz (aM (b8 h.len h'.len) hm)
  have al:=ha.g.len;obtain⟨hL,hLn⟩:=a4E ha.g;have hc1:=ha.n;walk_at "rd";refine⟨by first | exact rfl | exact trivial | constructor,a,rfl,Str.ofString "\n",rfl,by decide,B8 ∅,λp np=>?_⟩;generalize Txt.split a (Str.ofString "\n")=L at *
  refine A6 np λH1 s1 e1=>a3a e1 λlw H2 n2 s2 e2=>?_
  rw[a8U] at e2;have hls:LnR 203 2020 (L.take (L.length-1)):=by have:=hL.cut 0 (L.length-1);rwa [dr] at this
  have hl1:1<=(L.take (L.length-1)).length:=by rw[aT];omega
  generalize L.take (L.length-1)=ls at *
  have d2:=(hd.same s1).same s2;have lwd:lw≠d:=(hd.same s1).ne n2;have k2:=s1.kp.trans (s2.kp (d:=d));clear e1 s1 s2 n2 hL hLn L np;have gt:Gn 4 0 (Str.ofString "tie "):=E9 (by decide +kernel);have gs:Gn 1 0 (Str.ofString " "):=E9 (by decide +kernel);refine Q9 d2 λz H3 k3 d3 z0 z1=>⟨lw,rfl,_,.inl (SqL.of (k3 _ _ lwd e2)),z,rfl,by rw[aa];omega,Q9 d3 λy H4 k4 d4 y0 y1=>?_⟩
  have gy:=a2K (b9 y (show n+1≠0 by omega)) (by have:=bM y (show 0<n+1 by omega);omega);have g1:=gt.add gy;have g2:=g1.add gs;refine⟨y,rfl,∅,U5 (b9 y ∅) (by have:=bM y (show 0<n+1 by omega);omega),_,rfl,_,rfl,za gt gy (by decide),_,rfl,_,rfl,za g1 gs (by decide),Q9 d4 λx H5 k5 d5 x0 x1=>?_⟩;have gx:=a2K (b9 x (show n+2≠0 by omega)) (by have:=bM x (show 0<n+2 by omega);omega);have gput:=g2.add gx;refine⟨x,rfl,∅,U5 (b9 x ∅) (by have:=bM x (show 0<n+2 by omega);omega),_,rfl,_,rfl,za g2 gx (by decide),by decide,λp10 n10=>A6 n10 λH6 s6 e6=>?_⟩;have W5:Wn 203 2020 H5 lw:=⟨ls,k5 _ _ lwd (k4 _ _ lwd (k3 _ _ lwd e2)),hls⟩
  have k5':Kp d H H5:=((k2.trans k3).trans k4).trans k5;generalize z % ((ls.map V.str).length:Int)=at';rw[show Str.ofString "tie "++Str.ofString (toString (y % (n+1)))++Str.ofString " "++Str.ofString (toString (x % (n+2)))=Str.ofString "tie "++tS (y % (n+1))++Str.ofString " "++tS (x % (n+2)) from rfl];generalize Str.ofString "tie "++tS (y % (n+1))++Str.ofString " "++tS (x % (n+2))=put at *
  have g9:Gn 1 0 (Str.ofString "9"):=E9 (by decide +kernel);have g0:Gn 1 0 (Str.ofString "0"):=E9 (by decide +kernel);have l9:(Str.ofString "9").length=1:=by decide +kernel
  have l0:(Str.ofString "0").length=1:=by decide +kernel
  have g9r:=Gn.rep (n:=5000) g9;have g0r:=Gn.rep (n:=5000) g0;refine⟨_,rfl,∅,by decide,∅,_,rfl,_,rfl,za (E9 (m:=6) (k:=0) (by decide +kernel)) g9r (by decide),by decide,λp11 n11=>A6 n11 λH7 s7 e7=>?_⟩;refine P8 (xs:=a0w.map V.str) (ys:=a0v.map V.str) (s7 _ _ e6) e7 (by decide) λp12 H8 n8 s8 e8=>?_
  clear e2 k2 k3 k4 k5 d2 d3 d4 gs gy gx g1 g2;have g01:=gt.add g0r;have g1':Gn 2 0 (Str.ofString " 1"):=E9 (by decide +kernel);have g012:=g01.add g1';refine⟨by decide,λp13 n13=>A6 n13 λH9 s9 e9=>P8 (xs:=a0w.map V.str++a0v.map V.str) (ys:=a1f.map V.str) (s9 _ _ e8) e9 (by decide) λod HA nA sA eA=>⟨.inl ⟨rfl,_,SqL.of eA⟩,_,rfl,∅,by decide,∅,_,rfl,_,rfl,za gt g0r (by decide),_,rfl,_,rfl,za g01 g1' (by decide),od,rfl,_,eA,by decide,?_⟩⟩;have okO:=a5h (a5h (a5h a8g a8f) a8e) (B:=[Str.ofString "tie "++a0r (Str.ofString "0") (cU 5000)++Str.ofString " 1"]) (alC (g012.mono (by decide) (by decide)) alN);have eB:upd HA od (.lst (a0w.map V.str++a0v.map V.str++a1f.map V.str++[V.str (Str.ofString "tie "++a0r (Str.ofString "0") (cU 5000)++Str.ofString " 1")])) od=some (.lst ((a0w++a0v++a1f++[Str.ofString "tie "++a0r (Str.ofString "0") (cU 5000)++Str.ofString " 1"]).map V.str)):=by
   rw[A2];simp only[aC];rfl
  have lO:1<=(a0w++a0v++a1f++[Str.ofString "tie "++a0r (Str.ofString "0") (cU 5000)++Str.ofString " 1"]).length:=by rw[aq];exact ie _ _
  generalize a0w++a0v++a1f++[Str.ofString "tie "++a0r (Str.ofString "0") (cU 5000)++Str.ofString " 1"]=os at *
  have s9B:B2 H9 (upd HA od (.lst (a0w.map V.str++a0v.map V.str++a1f.map V.str++[V.str (Str.ofString "tie "++a0r (Str.ofString "0") (cU 5000)++Str.ofString " 1")]))):=Kp.back8 (Kp.trans sA.kp a1s) nA;have s5B:=(((s6.trans s7).trans s8).trans s9).trans s9B;have dB:=d5.same s5B;have odd:od≠d:=((((d5.same s6).same s7).same s8).same s9).ne nA;generalize upd HA od (.lst (a0w.map V.str++a0v.map V.str++a1f.map V.str++[V.str (Str.ofString "tie "++a0r (Str.ofString "0") (cU 5000)++Str.ofString " 1")]))=HB at *
  have WB:=W5.same s5B;have kB:=k5'.trans s5B.kp;clear e6 e7 e8 e9 eA n10 n11 n8 n13 nA s6 s7 s8 s9 sA s9B g9r g0r g01 g012 l0 W5 s5B k5' d5;refine Q9 dB λw HC kC dC w0 w1=>⟨od,rfl,_,.inl (SqL.of (kC _ _ odd eB)),w,rfl,by rw[aa];omega,od,rfl,_,SqL.of (kC _ _ odd eB),?_⟩
  obtain⟨v,hv,ev⟩:=b1f (xs:=os.map V.str) (k:=w % ((os.map V.str).length:Int)) (b9 _ (by rw[aa];omega)) (bM _ (by rw[aa];omega));obtain⟨u,hu,rfl⟩:=bx.mp hv;have gu:=okO u hu;have W:Wn 203 2020 HC lw:=WB.kp kC lwd;have kC':=kB.trans kC;clear WB kB kC eB dB hv okO lO;refine⟨_,ev,by decide,λpm nm=>A6 nm λHD sD eD=>?_⟩;have WM:Wn 2 5030 HD pm:=⟨[put,u],eD,(LnR.app (.one gput) (.one gu)).mono (by decide) (by decide)⟩
  have WD:=W.same sD;refine K9 WD λq1 I1 _ t1 v1=>K9 (WD.same t1) λq2 I2 _ t2 v2=>T4 (v1.same t2) v2 (by decide) λr1 I3 _ t3 R1=>?_
  have u3:=(t1.trans t2).trans t3;refine K9 (WD.same u3) λq3 I4 _ t4 v3=>K9 ((WD.same u3).same t4) λq4 I5 _ t5 v4=>T4 (v3.same t5) v4 (by decide) λq5 I6 _ t6 v5=>K9 ((WD.same u3).same ((t4.trans t5).trans t6)) λq6 I7 _ t7 v6=>T4 (v5.same t7) v6 (by decide) λr2 I8 _ t8 R2=>?_
  have u8:=u3.trans ((((t4.trans t5).trans t6).trans t7).trans t8);have R1':=R1.same ((((t4.trans t5).trans t6).trans t7).trans t8);clear v1 v2 v3 v4 v5 v6 t1 t2 t3 t4 t5 t6 t7 t8 u3 R1;refine K9 (WD.same u8) λq1 J1 _ t1 v1=>K9 ((WM.same u8).same t1) λq2 J2 _ t2 v2=>T4 (v1.same t2) v2 (by decide) λq3 J3 _ t3 v3=>K9 ((WD.same u8).same ((t1.trans t2).trans t3)) λq4 J4 _ t4 v4=>T4 (v3.same t4) v4 (by decide) λr3 J5 _ t5 R3=>?_
  have u5:=(((t1.trans t2).trans t3).trans t4).trans t5;have R1:=R1'.same u5;have R2':=R2.same u5;have W5:=(WD.same u8).same u5;have M5:=(WM.same u8).same u5;have sHC:=sD.trans (u8.trans u5);clear v1 v2 v3 v4 t1 t2 t3 t4 t5 R1' R2 WD WM u8 u5;refine⟨by decide,λpr npr=>A6 npr λK0 sK eK=>?_⟩;have nep:∀ {n q:Nat} {a:Addr},Wn n q J5 a->a≠pr:=λh e=>by obtain⟨us,e',_⟩:=h;rw[e,npr] at e';cases e'
  have lwp:=nep W5;have pmp:=nep M5;have r1p:=nep R1;have r2p:=nep R2';have r3p:=nep R3;have nop:∀ {G:Hp} {n q:Nat} {a:Addr} {xs:List V},Wn n q G a->G pr=some (.lst xs)->(∃ u r,xs=.ref u::r)->a≠pr:=λh e ⟨u,r,er⟩ ea=>by
   obtain⟨us,e',_⟩:=h;rw[ea,e,er] at e';cases us with
   | nil=>cases e'
   | cons y ys =>
    injection e' with e'
    injection e' with e'
    injection e' with e' _
    cases e'
  have WK:=W5.same sK;have MK:=M5.same sK;have J1:=(R1.same sK).j (by decide) (by decide);have J2:=(R2'.same sK).j (by decide) (by decide);have J3:=(R3.same sK).j (by decide) (by decide);clear R1 R2' R3 W5 M5 nep;refine K9 WK λq1 L1 _ t1 v1=>K9 (WK.same t1) λq2 L2 _ t2 v2=>T4 (v1.same t2) v2 (by decide) λtw L3 _ t3 v3=>⟨.inl ⟨rfl,_,SqL.of (((t1.trans t2).trans t3) _ _ eK)⟩,K9 (WK.same ((t1.trans t2).trans t3)) λq4 L4 _ t4 v4=>T4 v4 (v3.same t4) (by decide) λq5 L5 _ t5 v5=>K9 (WK.same ((((t1.trans t2).trans t3).trans t4).trans t5)) λq6 L6 _ t6 v6=>T4 (v5.same t6) v6 (by decide) λr4 L7 _ t7 R4=>?_⟩
  have t07:=(((((t1.trans t2).trans t3).trans t4).trans t5).trans t6).trans t7;refine⟨_,t07 _ _ eK,by show 3<sizeLine;decide,?_⟩;have r4p:=nop R4 (t07 _ _ eK) ⟨_,_,rfl⟩;have KA:Kp pr K0 (upd L7 pr (.lst ([V.ref r1,V.ref r2,V.ref r3]++[V.ref r4]))):=λb o hb e=>(A8 hb).trans (t07 _ _ e)
  have J4:=(R4.kp (a1s (o:=.lst ([V.ref r1,V.ref r2,V.ref r3]++[V.ref r4]))) r4p).j (by decide) (by decide);have eK1:upd L7 pr (.lst ([V.ref r1,V.ref r2,V.ref r3]++[V.ref r4])) pr=_:=A2;generalize upd L7 pr (.lst ([V.ref r1,V.ref r2,V.ref r3]++[V.ref r4]))=K1 at *
  have W1:=WK.kp KA lwp;have M1:=MK.kp KA pmp;clear v1 v2 v3 v4 v5 v6 t1 t2 t3 t4 t5 t6 t7 t07 R4 WK MK;refine⟨.inl ⟨rfl,_,SqL.of eK1⟩,K9 W1 λq1 L1 _ t1 v1=>K9 (M1.same t1) λq2 L2 _ t2 v2=>T4 (v1.same t2) v2 (by decide) λq3 L3 _ t3 v3=>K9 (W1.same ((t1.trans t2).trans t3)) λq4 L4 _ t4 v4=>T4 (v3.same t4) v4 (by decide) λr5 L5 _ t5 R5=>?_⟩;have t05:=(((t1.trans t2).trans t3).trans t4).trans t5;refine⟨_,t05 _ _ eK1,by show 4<sizeLine;decide,?_⟩;have r5p:=nop R5 (t05 _ _ eK1) ⟨_,_,rfl⟩;have KB:Kp pr K1 (upd L5 pr (.lst ([V.ref r1,V.ref r2,V.ref r3]++[V.ref r4]++[V.ref r5]))):=λb o hb e=>(A8 hb).trans (t05 _ _ e)
  have J5':=(R5.kp (a1s (o:=.lst ([V.ref r1,V.ref r2,V.ref r3]++[V.ref r4]++[V.ref r5]))) r5p).j (by decide) (by decide);have eK2:upd L5 pr (.lst ([V.ref r1,V.ref r2,V.ref r3]++[V.ref r4]++[V.ref r5])) pr=_:=A2;generalize upd L5 pr (.lst ([V.ref r1,V.ref r2,V.ref r3]++[V.ref r4]++[V.ref r5]))=K2 at *
  have W2:=W1.kp KB lwp;clear v1 v2 v3 v4 t1 t2 t3 t4 t5 t05 R5 W1 M1;have gp:Gn 7 0 (Str.ofString "places "):=E9 (by decide +kernel);have od_ok:∀ u∈b0T n,Gn 5000 0 u:=alC ((E9 (m:=2) (k:=0) (by decide +kernel)).mono (by decide) (by decide)) (alC ((E9 (m:=2) (k:=0) (by decide +kernel)).mono (by decide) (by decide)) (alC ((E9 (m:=2) (k:=0) (by decide +kernel)).mono (by decide) (by decide)) (alC ((E9 (m:=2) (k:=0) (by decide +kernel)).mono (by decide) (by decide)) (alC ((E9 (m:=2) (k:=0) (by decide +kernel)).mono (by decide) (by decide)) (alC ((Gn.rep (n:=5000) g9).mono (by decide) (by decide)) (alC ((E9 (m:=3) (k:=0) (by decide +kernel)).mono (by decide) (by decide)) (alC ((a2K (by omega:0<=n+1) ∅).mono (by decide) (by decide)) alN)))))));refine⟨.inl ⟨rfl,_,SqL.of eK2⟩,_,rfl,∅,by decide,∅,U5 ∅ ∅,by decide,λp8 n8=>A6 n8 λL1 t1 e8=>?_⟩;obtain⟨v',hv',ev'⟩:=b1f (xs:=(b0T n).map V.str) (k:=y % (n+1) % 8) (b9 _ (by decide)) (by rw[aa];exact bM _ (by decide));obtain⟨u',hu',rfl⟩:=bx.mp hv';have gu':=od_ok u' hu';have gpu:=gp.add gu';refine⟨by decide,_,SqL.of e8,_,ev',_,rfl,u',rfl,za gp gu' (by decide),by decide,λp9 n9=>A6 n9 λL2 t2 e9=>K9 ((W2.same t1).same t2) λq1 L3 _ t3 v1=>T4 (n:=1) (q:=5007) ⟨[Str.ofString "places "++u'],t3 _ _ e9,.one gpu⟩ v1 (by decide) λr6 L4 _ t4 R6=>?_⟩;have t04:=((t1.trans t2).trans t3).trans t4;refine⟨_,t04 _ _ eK2,by show 5<sizeLine;decide,?_⟩;have r6p:=nop R6 (t04 _ _ eK2) ⟨_,_,rfl⟩;have KC:Kp pr K2 (upd L4 pr (.lst ([V.ref r1,V.ref r2,V.ref r3]++[V.ref r4]++[V.ref r5]++[V.ref r6]))):=λb o hb e=>(A8 hb).trans (t04 _ _ e)
  have J6:=(R6.kp (a1s (o:=.lst ([V.ref r1,V.ref r2,V.ref r3]++[V.ref r4]++[V.ref r5]++[V.ref r6]))) r6p).j (by decide) (by decide);have eK3:upd L4 pr (.lst ([V.ref r1,V.ref r2,V.ref r3]++[V.ref r4]++[V.ref r5]++[V.ref r6])) pr=_:=A2;generalize upd L4 pr (.lst ([V.ref r1,V.ref r2,V.ref r3]++[V.ref r4]++[V.ref r5]++[V.ref r6]))=K3 at *
  have KABC:=(KA.trans KB).trans KC;have sALL:B2 HC K3:=sHC.trans (Kp.back8 (Kp.trans sK.kp KABC) npr);have dK3:=dC.same sALL;have kK3:=kC'.trans sALL.kp;have hrows:∀ v∈[V.ref r1,V.ref r2,V.ref r3]++[V.ref r4]++[V.ref r5]++[V.ref r6],∃ a,v=.ref a/\WJ K3 a:=λv hv=>by
   have hv:v∈[V.ref r1,V.ref r2,V.ref r3,V.ref r4,V.ref r5,V.ref r6]:=hv;simp only[aQ,cq,or_false] at hv;rcases hv with rfl | rfl | rfl | rfl | rfl | rfl
   ·exact⟨_,rfl,J1.kp KABC r1p⟩
   ·exact⟨_,rfl,J2.kp KABC r2p⟩
   ·exact⟨_,rfl,J3.kp KABC r3p⟩
   ·exact⟨_,rfl,J4.kp (KB.trans KC) r4p⟩
   ·exact⟨_,rfl,J5'.kp KC r5p⟩
   ·exact⟨_,rfl,J6⟩
  have hlen6:([V.ref r1,V.ref r2,V.ref r3]++[V.ref r4]++[V.ref r5]++[V.ref r6]).length=6:=rfl;generalize [V.ref r1,V.ref r2,V.ref r3]++[V.ref r4]++[V.ref r5]++[V.ref r6]=rows at *
  clear J1 J2 J3 J4 J5' J6 KA KB KC KABC R6 W2 v1 t1 t2 t3 t4 t04 e8 e9 n8 n9 eK1 eK2 eK kC' dC sHC sK npr nop;refine⟨⟨_,SqL.of eK3⟩,λpf nf=>S7 (K:=K) (xs:=rows) (b2z K3 pf) ⟨none,[],rfl,(B2.refl K3).upd nf,A2,rfl,alN⟩ ?_ ?_ ?_⟩
  ·rintro i τ Hc _ ⟨_,_,rfl,sc,_⟩;exact SqL.of (sc _ _ eK3)
  ·rintro i v τ Hc hv ⟨c,us,rfl,sc,hc,hul,hus⟩ _;obtain⟨b,rfl,n',q',hn',hq',ws,ew,lr⟩:=hrows v (aE hv);have hil:=(au.mp hv).1;have ew:=sc _ _ ew;have lrn:=lr.num;have lrs:=lr.sum;have hone:∀ x∈ws,x.length<=9500:=λx hx=>by
    have:=a6e hx;omega
   have le:(Str.ofString "\n").length=1:=by decide +kernel
   walk_at "rd";refine⟨by first | exact rfl | exact trivial | constructor,⟨_,SqL.of ew⟩,λpi ni=>a8q (K:=K) (xs:=ws) V.str (λ_=>true) (λu=>V.str (u++Str.ofString "\n")) ∅ (SqL.of ew) ni ?_ ?_⟩
   ·intro x hx v ys R hy hR1 hR2;walk_at "rd";exact⟨_,rfl,_,rfl,by rw[le];exact sz (by have:=hone x hx;omega),a7b hy ∅ hR1⟩
   ·rw[a8J];have s7:=(B2.refl Hc).upd (o:=.lst (ws.map λu=>V.str (u++Str.ofString "\n"))) ni;have hs:=a1v (λx:Str=>x.length) 9501 (ws.map λu=>u++Str.ofString "\n") λx hx=>by
     obtain⟨u,hu,rfl⟩:=bx.mp hx;rw[b0c,le];have:=hone u hu;omega
    rw[aa] at hs;refine⟨_,rfl,ws.map λu=>u++Str.ofString "\n",SqL.of (by rw[A2,bU];rfl),?_,_,s7 _ _ hc,by rw[aa,hul];exact B8 ∅,_,us++[_],rfl,(sc.trans s7).upd nf,by rw[A2,aC];rfl,by rw[aq,hul];rfl,λw hw=>?_⟩
    ·rw[show (Str.ofString "").length=0 by decide +kernel];omega
    ·rcases aj.mp hw with hw | hw
     ·exact hus w hw
     ·rw[ag.mp hw];exact lr.text.mono hq' hn'
  ·rintro τ Hc ⟨c,us,rfl,sc,hc,hul,hus⟩;refine q pf us Hc (kK3.trans sc.kp) (dK3.same sc) (kK3.free dK3 nf) hc ∅ hus
def Tq (H:Hp)(v:V):Prop:=(∃ a:Str,v=.str a/\TxJ a)\/((∃ T,Pl H v T/\T≠"str")/\∃ d,DA H v d/\NA 150 100000 d)
theorem Tq.same {H H':Hp}{v:V}(h:Tq H v)(s:B2 H H'):Tq H' v:=h.imp id λ⟨⟨T,p,n⟩,d,h1,h2⟩=>⟨⟨T,p.mono s,n⟩,d,h1.same s,h2⟩
theorem Tq.th {K:ae}{H:Hp}{v:V}(h:Tq H v):b3Z K H v:=h.imp (λ⟨a,e,g⟩=>⟨a,e,⟨g.len,by rw[(a4E g).2];exact aM (gU g.nl) (by decide)⟩,g.asc⟩) λ⟨⟨T,p,n⟩,r⟩=>⟨⟨_,p.ty,by cases p<;>first | rfl | exact absurd rfl n⟩,r⟩
theorem a5l {x:Str}(h:TxJ x):NA 0 9500 (.str x):=by
 refine⟨rfl,bi _,?_,h.len⟩;rw[PyData.leavesShort,bI];exact λc hc=>decide_eq_true (dJ (h.asc c hc) (by decide))
theorem b2c:NA 0 0 (.int 1):=(Nc.int (c:=0) (k:=0) (m:=0) (a0l (by decide) (by decide))).na
theorem a9X {x:Str}(h:TxJ x):NA 150 100000 (.dict [(.str x,.int 1)]):=by
 have hq:=a5l h;have h2:=b2c;refine⟨?_,?_,?_,?_⟩
 ·rw[PyData.showable,PyData.showableKv,hq.sh,h2.sh,PyData.showableKv];rfl
 ·rw[PyData.depth,PyData.depthKv,PyData.depthKv];have:=hq.dp;have:=h2.dp;refine aM (gU (iu.mpr ⟨iu.mpr ⟨hq.dp,h2.dp⟩,bi _⟩)) (by decide)
 ·rw[PyData.leavesShort,PyData.leavesShortKv,hq.lv,h2.lv,PyData.leavesShortKv];rfl
 ·rw[PyData.bulk,PyData.bulkKv,PyData.bulkKv];have:=hq.bk;have:=h2.bk;omega
theorem b2d:NA 150 100000 (.int (10 ^ cU 60)):=⟨by decide +kernel,bi _,by rw[PyData.leavesShort];decide +kernel,bi _⟩
theorem a1F {H:Hp}{x:Str}(h:TxJ x):Tq H (.str x):=.inl ⟨x,rfl,h⟩
theorem b1J {H:Hp}:Tq H .non:=.inr ⟨⟨_,.non,by decide⟩,_,.sc rfl,((Nc.none (c:=0) (k:=0) (m:=0)).na).mono (by decide) (by decide)⟩
theorem b1L {H:Hp}:Tq H (.int 0):=.inr ⟨⟨_,.int 0,by decide⟩,_,.sc rfl,((Nc.int (c:=0) (k:=0) (m:=0) (a0l (by decide) (by decide))).na).mono (by decide) (by decide)⟩
theorem b1N {H:Hp}:Tq H (.int (10 ^ cU 60)):=.inr ⟨⟨_,.int _,by decide⟩,_,.sc rfl,b2d⟩
theorem b3H {H:Hp}{b:Bool}:Tq H (.bl b):=.inr ⟨⟨_,.bl b,by decide⟩,_,.sc rfl,((Nc.bool (c:=0) (k:=0) (m:=0)).na).mono (by decide) (by decide)⟩
theorem b1K {H:Hp}{p:Addr}(e:H p=some (.lst [])):Tq H (.ref p):=.inr ⟨⟨_,.lst e,by decide⟩,_,.lst e .nil,(NA.lst (k:=0) (m:=0) .nil).mono (by decide) (by decide)⟩
theorem b1I {H:Hp}{p:Addr}(e:H p=some (.tup [])):Tq H (.ref p):=.inr ⟨⟨_,.tup e,by decide⟩,_,.tup e .nil,(NA.tup (k:=0) (m:=0) .nil).mono (by decide) (by decide)⟩
theorem b1M {H:Hp}{p:Addr}(e:H p=some (.dK [])):Tq H (.ref p):=.inr ⟨⟨_,.dK e,by decide⟩,_,.dct e .nil,((Nc.dict0 (k:=0) (m:=0)).na).mono (by decide) (by decide)⟩
theorem a9D {H:Hp}{p:Addr}{x:Str}(h:TxJ x)(e:H p=some (.lst [.str x])):Tq H (.ref p):=.inr ⟨⟨_,.lst e,by decide⟩,_,.lst e (.cons (.sc rfl) .nil),(NA.lst (k:=0) (.cons (a5l h) (.nil (m:=0)))).mono (by decide) (by decide)⟩
theorem a9C {H:Hp}{p:Addr}{x:Str}(h:TxJ x)(e:H p=some (.tup [.str x])):Tq H (.ref p):=.inr ⟨⟨_,.tup e,by decide⟩,_,.tup e (.cons (.sc rfl) .nil),(NA.tup (k:=0) (.cons (a5l h) (.nil (m:=0)))).mono (by decide) (by decide)⟩
theorem a9E {H:Hp}{p:Addr}{x:Str}(h:TxJ x)(e:H p=some (.dK [(.inr x,.int 1)])):Tq H (.ref p):=.inr ⟨⟨_,.dK e,by decide⟩,_,.dct e (.cons (.sc rfl) .nil),a9X h⟩
theorem b1H {H:Hp}{p:Addr}{n:Int}{ts:⋯}(h:S2 H p n ts)(h0:0<=n)(h1:n<=60)(ok:P5 60 ts)(hl:ts.length<=201):Tq H (.ref p):=by
 obtain⟨q,e,_⟩:=id h;exact .inr ⟨⟨_,.tup e,by decide⟩,_,a4V h,a4U h0 h1 ok ∅⟩
theorem TxO.j {x:Str}(h:TxO x):TxJ x:=h.g.mono (by decide) (by decide)
def a6k (Hb:Hp)(pre:List (Option V))(v7:Option V)(i:Nat)(σ:St)(Hc:Hp):Prop:=∃ v6:Option V,σ=pre++[v6,v7]/\B2 Hb Hc
def b0l (Hb:Hp)(a d:Addr)(i:Nat)(σ:St)(Hc:Hp):Prop:=∃(w:Addr) (n:Int) (ts:⋯) (x:Str) (v4 v5 v6 v7:Option V),σ=[some (.ref a),some (.ref d),some (.ref w),some (.str x),v4,v5,v6,v7]/\Kp d Hb Hc/\Q3 Hc d/\S2 Hc w n ts/\0<=n/\n<=60/\P5 60 ts/\ts.length<=201/\TxO x
theorem a4m:C0 ["_law_script","_law_deck_here","_law_web_here","_law_text","_law_least","_law_most","_law_thing","_law_things"] ["_law_script"] (B1 (top 48)):=by walk_at "s"
theorem a8d (F:Fun K "law" "law" (top 48) f fd)(B:Bt mg)(D1:Df K mg "_law_deck" st1 f1 fd1 ["_law_script","_law_many"])(G1:C2 P w K mg base CX0 2 f1 fd1 ["_law_script","_law_many"] (a5O K))(D2:Df K mg "_law_written" st2 f2 fd2 ["_law_web_here"])(G2:C2 P w K mg base CX0 1 f2 fd2 ["_law_web_here"] (a0g K))(D3:Df K mg "_law_web" st3 f3 fd3 ["_law_deck_here","_law_least","_law_most"])(G3:C2 P w K mg base CX0 3 f3 fd3 ["_law_deck_here","_law_least","_law_most"] a7o)(D4:Df K mg "_law_bent_lines" st4 f4 fd4 ["_law_deck_here","_law_text","_law_places"])(G4:C2 P w K mg base CX0 2 f4 fd4 ["_law_deck_here","_law_text","_law_places"] (a0W K))(D5:Df K mg "_law_bent_signs" st5 f5 fd5 ["_law_deck_here","_law_text"])(G5:C2 P w K mg base CX0 2 f5 fd5 ["_law_deck_here","_law_text"] (a0V K))(D6:Df K mg "_law_judged" st6 f6 fd6 ["_law_thing"])(G6:C2 P w K mg base CX0 8 f6 fd6 ["_law_thing"] (a0U K))(D7:Df K mg "_law_crowded" st7 f7 fd7 ["_law_deck_here"])(G7:C2 P w K mg base CX0 3 f7 fd7 ["_law_deck_here"] (a0j K)):C2 P w K mg base CX0 9 f fd ["_law_script"] (sp_law K):=by
 refine F.ok a4m (λvs H Q E h=>?_) (λcdv A outer s H vs Q E hr h=>?_)
 ·walk_at "h"
 ·obtain⟨a,ns,rfl,hS,hl,q⟩:=h;have nd:=a4m.nd;have hu:=L8 hr
  refine⟨_,((B6 (i:=1) nd rfl (.inl rfl) (B4 G1 D1 hr.m ((pv 0)<*>(A4<*>A1))))<*
    ((B6 (i:=2) nd rfl (.inl rfl) (@K5 _ _ _ _ _ (A4<*>((@K5 _ _ _ _ _ ((@K5 _ _ _ _ _ (A4<*>(A4<*>A1)))<*>((@K5 _ _ _ _ _ (A4<*>(A4<*>A1)))<*>A1)))<*>A1))))<*
    ((B6 (i:=3) nd rfl (.inl rfl) (B4 G2 D2 hr.m ((pv 2)<*>A1)))<*
    ((P2 br rfl (K4 K (@K6 _ _ _ _ ((@K5 _ _ _ _ _ (A4<*>(A4<*>A1)))<*>((@K5 _ _ _ _ _ (A4<*>(A4<*>A1)))<*>A1)))) (R9 K (n:=2) rfl (E1 (A9 (i:=4) nd rfl (.inl rfl)) (E1 (A9 (i:=5) nd rfl (.inl rfl)) Q0)))
     ((B6 (i:=2) nd rfl (.inl rfl) (B4 G3 D3 hr.m ((pv 1)<*>((pv 4)<*>((pv 5)<*>A1)))))<*
     ((B6 (i:=3) nd rfl (.inl rfl) (B4 G2 D2 hr.m ((pv 2)<*>A1)))<*
     (@A5 _ _ _ (P2 br rfl (K4 K (@A7 _ _ _ _ _ _ _ _ M6 (@A7 _ _ _ _ _ _ _ _ M6 (@A7 _ _ _ _ _ _ _ _ M6 (@K6 _ _ _ _ ((pv 3)<*>A1)) (B4 G4 D4 hr.m ((pv 1)<*>((pv 3)<*>(((pv 2)*>A4)<*>A1))))) (B4 G5 D5 hr.m ((pv 1)<*>((pv 3)<*>A1)))) (@K6 _ _ _ _ ((pv 3)<*>A1)))) (A9 (i:=6) nd rfl (.inl rfl))
      (@A5 _ _ _ (@N4 _ _ _ _ _ _ _ _ (Q7 (R8 (B4 G6 D6 hr.m ((pv 6)<*>A1))))
       (@A5 _ _ _ (B5 Q4))
       E6)))))))<*
     ((@a0t _ _ _ _ 7 _ _ _ nd rfl (.inl rfl) (V3<*>(A4<*>(Q4<*>((@K6 _ _ _ _ A1)<*>((@K5 _ _ _ _ _ A1)<*>(a7L<*>((pv 2)<*>((@K6 _ _ _ _ ((pv 3)<*>A1))<*>((@K5 _ _ _ _ _ ((pv 3)<*>A1))<*>((a3m (a1G (pv 3) A4 a3k) rfl rfl (by simp) (by decide))<*>((@A7 _ _ _ _ _ _ _ _ a7Q A4 A4)<*>A1))))))))))) (by first | exact .inl rfl | exact .inr rfl | assumption))<*
    ((P2 br rfl (K4 K (@A7 _ _ _ _ _ _ _ _ M6 (pv 7) (@K6 _ _ _ _ ((B4 G2 D2 hr.m ((B4 G7 D7 hr.m ((pv 1)<*>A1))<*>A1))<*>A1)))) (A9 (i:=6) nd rfl (.inl rfl))
     (@A5 _ _ _ (@N4 _ _ _ _ _ _ _ _ (Q7 (R8 (B4 G6 D6 hr.m ((pv 6)<*>A1))))
      (@A5 _ _ _ (B5 Q4))
      E6)))<*
     (@A5 _ _ _ (B5 Q4)))))))),?_⟩
  simp only[L2.S8,st0,ap,cC,aD,bF,List.replicate,bL,cj,Nat.reduceAdd,Nat.reduceSub];walk_at "rd";refine⟨a,700,ns,rfl,hS,hl,by decide,by decide,λd ds H1 hdl s1 nd1 hd1=>?_⟩;have dk1:Q3 H1 d:=⟨ds,hd1,hdl⟩
  clear hS hl hd1 hdl s1 nd1;dsimp only;refine⟨by decide,λp1 n1=>A6 n1 λH2 s2 e2=>⟨by decide,λp2 n2=>A6 n2 λH3 s3 e3=>⟨by decide,λp3 n3=>A6 n3 λH4 s4 e4=>⟨by decide,λp4 n4=>A6 n4 λH5 s5 e5=>?_⟩⟩⟩⟩
  have hw0:S2 H5 p4 3 [(0,1),(1,2)]:=⟨p3,e5,[(p1,[0,1]),(p2,[1,2])],s5 _ _ e4,⟨λx hx=>by
   simp only[aQ,cq,or_false] at hx;rcases hx with rfl | rfl
   ·exact ((s3.trans s4).trans s5) _ _ e2
   ·exact (s4.trans s5) _ _ e3,rfl⟩⟩
  have ok0:P5 60 [(0,1),(1,2)]:=λt ht=>by
   simp only[aQ,cq,or_false] at ht;rcases ht with rfl | rfl<;>decide
  have d5:=(((dk1.same s2).same s3).same s4).same s5;clear e2 e3 e4 e5 s2 s3 s4 s5 n1 n2 n3 n4 dk1;refine⟨p4,3,[(0,1),(1,2)],rfl,hw0,by decide,by decide,ok0,by decide,λx0 hx0=>?_⟩;dsimp only;rw[Y0];walk_at "rd";refine⟨by decide,λp5 n5=>A6 n5 λH6 s6 e6=>⟨by decide,λp6 n6=>A6 n6 λH7 s7 e7=>⟨by decide,λpl nl=>A6 nl λH8 s8 e8=>?_⟩⟩⟩;have d8:=((d5.same s6).same s7).same s8;have s58:=(s6.trans s7).trans s8;have hL:∀ v∈[V.ref p5,V.ref p6],∃(b:Addr) (hi:Int),v=.ref b/\H8 b=some (.tup [.int 3,.int hi])/\3<=hi/\hi<=60:=λv hv=>by
   simp only[aQ,cq,or_false] at hv;rcases hv with rfl | rfl
   ·exact⟨_,9,rfl,(s7.trans s8) _ _ e6,by decide,by decide⟩
   ·exact⟨_,60,rfl,s8 _ _ e7,by decide,by decide⟩
  have pld:pl≠d:=((d5.same s6).same s7).ne nl;have tup_d:∀ {b:Addr} {xs:List V},H8 b=some (.tup xs)->b≠d:=λe h=>by
   obtain⟨ds',e',_⟩:=d8;rw[h,e'] at e;cases e
  have hw8:=hw0.tp s58.tp;clear e6 e7 s6 s7 s8 s58 n5 n6 nl d5 hw0;refine⟨⟨_,SqL.of e8⟩,T8 (K:=K) (xs:=[V.ref p5,V.ref p6]) (b0l H8 a d) ⟨p4,3,_,x0,_,_,_,_,rfl,Kp.refl _ _,d8,hw8,by decide,by decide,ok0,by decide,hx0⟩ ?_ ?_ ?_⟩
  ·rintro i σ Hc _ ⟨_,_,_,_,_,_,_,_,rfl,kc,dc,_⟩;exact SqL.of (kc _ _ pld e8)
  ·rintro i v σ Hc hv ⟨w',n',ts',x',v4,v5,v6,v7,rfl,kc,dc,_,_,_,_,_,_⟩;obtain⟨b,hi,rfl,eb,h1,h2⟩:=hL v (aE hv);walk_at "rd";refine⟨_,SqT.of (kc _ _ (tup_d eb) eb),rfl,_,_,rfl,_,_,rfl,rfl,d,3,hi,rfl,dc,by decide,h1,h2,λw n ts H9 k9 d9 _ _ hok hw=>?_⟩;have h3:=hok.n3;have h60:=hok.n60;have hlen:=hok.len;have ok60:P5 60 ts:=λt ht=>by have:=hok.rng t ht;omega
   refine⟨w,n,ts,rfl,hw,∅,h60,ok60,∅,λx hx=>?_⟩;dsimp only;rw[Y0];walk_at "rd";obtain⟨q0,hwt,_⟩:=id hw;refine⟨by decide,λpa na=>A6 na λHA sA eA=>⟨_,SqT.of (sA _ _ hwt),_,rfl,d,x,n,rfl,d9.same sA,hx,h3,h60,λpb us HB kB dB nB eB hlu hus=>?_⟩⟩;have pad:pa≠d:=d9.ne na;refine P8 (xs:=[V.str x]) (kB _ _ pad eA) eB (by rw[aa];show 1+_<=_;omega) λpc HC nC sC eC=>⟨d,x,rfl,dB.same sC,hx,λpe vs HD kD dD nD eD hlv hvs=>?_⟩
   have pcd:pc≠d:=dB.ne nC;refine P8 (kD _ _ pcd eC) eD (by rw[aq,aa,aa];show 1+_+_<=_;omega) λpf HE nE sE eE=>⟨by decide,λpg ng=>A6 ng λHF sF eF=>P8 (sF _ _ eE) eF (by rw[aq,aq,aa,aa];show 1+_+_+1<=_;omega) λph HG nG sG eG=>⟨ph,rfl,⟨_,SqL.of eG⟩,?_⟩⟩
   have kG:Kp d H9 HG:=(((sA.kp.trans kB).trans sC.kp).trans kD).trans ((sE.trans sF).trans sG).kp;have dG:Q3 HG d:=((dD.same sE).same sF).same sG;have hwG:S2 HG w n ts:=hw.tp (kG.tp d9);have hT:∀ v∈[V.str x]++us.map V.str++vs.map V.str++[V.str x],Tq HG v:=λv hv=>by
    rcases aj.mp hv with hv | hv
    ·rcases aj.mp hv with hv | hv
     ·rcases aj.mp hv with hv | hv
      ·rw[ag.mp hv];exact a1F hx.j
      ·obtain⟨u,hu,rfl⟩:=bx.mp hv;exact a1F (hus u hu)
     ·obtain⟨u,hu,rfl⟩:=bx.mp hv;exact a1F (hvs u hu)
    ·rw[ag.mp hv];exact a1F hx.j
   generalize [V.str x]++us.map V.str++vs.map V.str++[V.str x]=ths at *
   have kc9:=(kc.trans k9).trans kG;clear eA eB eC eD eE eF sA sC sE sF sG kB kD dB dD nB nC nD nE na ng nG hus hvs;refine T8 (K:=K) (xs:=ths) (a6k HG [some (.ref a),some (.ref d),some (.ref w),some (.str x),some (.int 3),some (.int hi)] v7) ⟨_,rfl,B2.refl _⟩ ?_ ?_ ?_
   ·rintro j σ Hd _ ⟨_,rfl,sd⟩;exact SqL.of (sd _ _ eG)
   ·rintro j v σ Hd hv ⟨v6',rfl,sd⟩;walk_at "rd";refine⟨v,rfl,((hT v (aE hv)).same sd).th,λHe se=>⟨true,rfl,?_⟩⟩;rw[if_neg (by decide)];exact⟨_,rfl,sd.trans se⟩
   ·rintro σ Hd ⟨v6',rfl,sd⟩;exact⟨w,n,ts,x,_,_,_,_,rfl,kc9.trans sd.kp,dG.same sd,hwG.tp sd.tp,∅,h60,ok60,∅,hx⟩
  ·rintro σ Hc ⟨w,n,ts,x,v4,v5,v6,v7,rfl,kc,dc,hw,h0,h60,ok60,hlen,hx⟩;walk_at "rd";refine⟨by decide,λp1 n1=>A6 n1 λG1 t1 f1=>⟨by decide,λp2 n2=>A6 n2 λG2 t2 f2=>λp3 n3=>A6 n3 λG3 t3 f3=>⟨by decide,λq4 n4=>A6 n4 λG4 t4 f4=>⟨by decide,λq5 n5=>A6 n5 λG5 t5 f5=>λq6 n6=>⟨A2,[(.inr x,.int 1)],rfl,(by show 1<=15;decide),?_,by decide,?_⟩⟩⟩⟩⟩
   ·unfold b4e;decide
   rw[a2Y];refine A6 n6 λG6 t6 f6=>λpt npt=>A6 npt λG7 t7 f7=>?_
   have t27:=((((t2.trans t3).trans t4).trans t5).trans t6).trans t7;have t37:=(((t3.trans t4).trans t5).trans t6).trans t7;have t47:=((t4.trans t5).trans t6).trans t7;have t57:=(t5.trans t6).trans t7;have t67:=t6.trans t7;have t17:=t1.trans t27;have d1:=dc.same t1;have d2:=d1.same t2;have d3:=d2.same t3;have d4:=d3.same t4;have d5':=d4.same t5;have d6:=d5'.same t6;have d7:=d6.same t7;have ptd:=d6.ne npt;rw[Y0];walk_at "rd";refine⟨d,rfl,d7,λw2 ts2 H8' k8 d8' hw2 ok2 hl2=>⟨w2,60,ts2,rfl,hw2,by decide,by decide,ok2,hl2,λy hy=>⟨by decide,λpg ng=>A6 ng λHF sF eF=>P8 (sF _ _ (k8 _ _ ptd f7)) eF (by show 11+1<=_;decide) λph HG nG sG eG=>⟨ph,rfl,⟨_,SqL.of eG⟩,?_⟩⟩⟩⟩;have kF:Kp d G7 HG:=k8.trans (sF.trans sG).kp;have hT:∀ v∈[V.non,.int 0,.bl true,.ref p1,.ref p2,.ref p3,.ref w,.ref q4,.ref q5,.ref q6,.int (10 ^ cU 60)]++[V.str y],Tq HG v:=λv hv=>by
    simp only[bL,cj,aQ,cq,or_false] at hv;rcases hv with rfl | rfl | rfl | rfl | rfl | rfl | rfl | rfl | rfl | rfl | rfl | rfl
    ·exact b1J
    ·exact b1L
    ·exact b3H
    ·exact b1K (kF _ _ (dc.ne n1) (t27 _ _ f1))
    ·exact b1I (kF _ _ (d1.ne n2) (t37 _ _ f2))
    ·exact b1M (kF _ _ (d2.ne n3) (t47 _ _ f3))
    ·exact b1H ((hw.tp t17.tp).tp (kF.tp d7)) h0 h60 ok60 hlen
    ·exact a9D hx.j (kF _ _ (d3.ne n4) (t57 _ _ f4))
    ·exact a9C hx.j (kF _ _ (d4.ne n5) (t67 _ _ f5))
    ·exact a9E hx.j (kF _ _ (d5'.ne n6) (t7 _ _ f6))
    ·exact b1N
    ·exact a1F hy.j
   generalize [V.non,.int 0,.bl true,.ref p1,.ref p2,.ref p3,.ref w,.ref q4,.ref q5,.ref q6,.int (10 ^ cU 60)]++[V.str y]=ths at *
   refine T8 (K:=K) (xs:=ths) (a6k HG [some (.ref a),some (.ref d),some (.ref w),some (.str x),v4,v5] (some (.ref pt))) ⟨_,rfl,B2.refl _⟩ ?_ ?_ ?_
   ·rintro j σ Hd _ ⟨_,rfl,sd⟩;exact SqL.of (sd _ _ eG)
   ·rintro j v σ Hd hv ⟨v6',rfl,sd⟩;walk_at "rd";refine⟨v,rfl,((hT v (aE hv)).same sd).th,λHe se=>⟨true,rfl,?_⟩⟩;rw[if_neg (by decide)];exact⟨_,rfl,sd.trans se⟩
   ·rintro σ Hd ⟨v6',rfl,sd⟩;walk_at "rd";exact q _
end
end K83
end
section
namespace K83
open PySem L2
abbrev A_ (K:ae)(n:Str)(f:Addr):Prop:=bb K mainGlobals n=some (some (.ref f))
abbrev L_ (K:ae)(f:Addr)(oc:Value)(od:Option Addr)(n:Str)(i:Nat)(kv dc pm:Value)(an:Option Addr)(cd ct:Value)(sl:Array (Option Value)):Prop:=K.lookup f=some ⟨oc,od,.func (dq n n (V5 (top i)) (T3 (top i)) (B1 (top i)) .none kv dc pm an cd ct),sl⟩
abbrev C_ (K:ae)(cd:Value)(n:Str):Prop:=fO K cd n=true
abbrev J_ (K:ae)(f:Addr):Prop:=fN K (.ref f)=true
theorem all_mk {l:gE}{w:World}{K:ae}{h:Heap}{mg:Str->Option Value}(X:K.In h)(G:h.Ns mainGlobals mg)(hfa:mg "law"=some (.ref fa))(a1:A_ K "_law_mixed" f1)(l1:L_ K f1 oc1 od1 "_law_mixed" 32 kV1 dc1 pm1 an1 cd1 ct1 sl1)(c1:C_ K cd1 "_law_mixed")(k1:J_ K f1)(a2:A_ K "_law_next" f2)(l2:L_ K f2 oc2 od2 "_law_next" 34 kV2 dc2 pm2 an2 cd2 ct2 sl2)(c2:C_ K cd2 "_law_next")(k2:J_ K f2)(a3:A_ K "_law_deck" f3)(l3:L_ K f3 oc3 od3 "_law_deck" 33 kV3 dc3 pm3 an3 cd3 ct3 sl3)(c3:C_ K cd3 "_law_deck")(k3:J_ K f3)(a4:A_ K "_law_turn" f4)(l4:L_ K f4 oc4 od4 "_law_turn" 35 kV4 dc4 pm4 an4 cd4 ct4 sl4)(c4:C_ K cd4 "_law_turn")(k4:J_ K f4)(a5:A_ K "_law_web" f5)(l5:L_ K f5 oc5 od5 "_law_web" 36 kV5 dc5 pm5 an5 cd5 ct5 sl5)(c5:C_ K cd5 "_law_web")(k5:J_ K f5)(a6:A_ K "neighbour_rows" f6)(l6:L_ K f6 oc6 od6 "neighbour_rows" 22 kV6 dc6 pm6 an6 cd6 ct6 sl6)(c6:C_ K cd6 "neighbour_rows")(k6:J_ K f6)(a7:A_ K "_law_near" f7)(l7:L_ K f7 oc7 od7 "_law_near" 37 kV7 dc7 pm7 an7 cd7 ct7 sl7)(c7:C_ K cd7 "_law_near")(k7:J_ K f7)(a8:A_ K "_law_near" f8)(l8:L_ K f8 oc8 od8 "_law_near" 37 kV8 dc8 pm8 an8 cd8 ct8 sl8)(c8:C_ K cd8 "_law_near")(k8:J_ K f8)(a9:A_ K "_law_reach" f9)(l9:L_ K f9 oc9 od9 "_law_reach" 38 kV9 dc9 pm9 an9 cd9 ct9 sl9)(c9:C_ K cd9 "_law_reach")(k9:J_ K f9)(a10:A_ K "_law_hang" f10)(l10:L_ K f10 oc10 od10 "_law_hang" 39 kV10 dc10 pm10 an10 cd10 ct10 sl10)(c10:C_ K cd10 "_law_hang")(k10:J_ K f10)(a11:A_ K "is_int" f11)(l11:L_ K f11 oc11 od11 "is_int" 11 kV11 dc11 pm11 an11 cd11 ct11 sl11)(c11:C_ K cd11 "is_int")(k11:J_ K f11)(a12:A_ K "is_between" f12)(l12:L_ K f12 oc12 od12 "is_between" 12 kV12 dc12 pm12 an12 cd12 ct12 sl12)(c12:C_ K cd12 "is_between")(k12:J_ K f12)(a13:A_ K "is_pair" f13)(l13:L_ K f13 oc13 od13 "is_pair" 17 kV13 dc13 pm13 an13 cd13 ct13 sl13)(c13:C_ K cd13 "is_pair")(k13:J_ K f13)(a14:A_ K "is_tie" f14)(l14:L_ K f14 oc14 od14 "is_tie" 18 kV14 dc14 pm14 an14 cd14 ct14 sl14)(c14:C_ K cd14 "is_tie")(k14:J_ K f14)(a15:A_ K "numbers_below" f15)(l15:L_ K f15 oc15 od15 "numbers_below" 27 kV15 dc15 pm15 an15 cd15 ct15 sl15)(c15:C_ K cd15 "numbers_below")(k15:J_ K f15)(a16:A_ K "numbers_in" f16)(l16:L_ K f16 oc16 od16 "numbers_in" 28 kV16 dc16 pm16 an16 cd16 ct16 sl16)(c16:C_ K cd16 "numbers_in")(k16:J_ K f16)(a17:A_ K "is_rising" f17)(l17:L_ K f17 oc17 od17 "is_rising" 19 kV17 dc17 pm17 an17 cd17 ct17 sl17)(c17:C_ K cd17 "is_rising")(k17:J_ K f17)(a18:A_ K "is_tie_row" f18)(l18:L_ K f18 oc18 od18 "is_tie_row" 20 kV18 dc18 pm18 an18 cd18 ct18 sl18)(c18:C_ K cd18 "is_tie_row")(k18:J_ K f18)(a19:A_ K "piece_from" f19)(l19:L_ K f19 oc19 od19 "piece_from" 23 kV19 dc19 pm19 an19 cd19 ct19 sl19)(c19:C_ K cd19 "piece_from")(k19:J_ K f19)(a20:A_ K "pieces" f20)(l20:L_ K f20 oc20 od20 "pieces" 24 kV20 dc20 pm20 an20 cd20 ct20 sl20)(c20:C_ K cd20 "pieces")(k20:J_ K f20)(a21:A_ K "in_one_piece" f21)(l21:L_ K f21 oc21 od21 "in_one_piece" 25 kV21 dc21 pm21 an21 cd21 ct21 sl21)(c21:C_ K cd21 "in_one_piece")(k21:J_ K f21)(a22:A_ K "is_web" f22)(l22:L_ K f22 oc22 od22 "is_web" 21 kV22 dc22 pm22 an22 cd22 ct22 sl22)(c22:C_ K cd22 "is_web")(k22:J_ K f22)(a23:A_ K "numbers_behind" f23)(l23:L_ K f23 oc23 od23 "numbers_behind" 29 kV23 dc23 pm23 an23 cd23 ct23 sl23)(c23:C_ K cd23 "numbers_behind")(k23:J_ K f23)(a24:A_ K "read_web" f24)(l24:L_ K f24 oc24 od24 "read_web" 30 kV24 dc24 pm24 an24 cd24 ct24 sl24)(c24:C_ K cd24 "read_web")(k24:J_ K f24)(a25:A_ K "_law_number" f25)(l25:L_ K f25 oc25 od25 "_law_number" 40 kV25 dc25 pm25 an25 cd25 ct25 sl25)(c25:C_ K cd25 "_law_number")(k25:J_ K f25)(a26:A_ K "_law_read_web" f26)(l26:L_ K f26 oc26 od26 "_law_read_web" 42 kV26 dc26 pm26 an26 cd26 ct26 sl26)(c26:C_ K cd26 "_law_read_web")(k26:J_ K f26)(a27:A_ K "_law_refused" f27)(l27:L_ K f27 oc27 od27 "_law_refused" 41 kV27 dc27 pm27 an27 cd27 ct27 sl27)(c27:C_ K cd27 "_law_refused")(k27:J_ K f27)(a28:A_ K "_law_judged" f28)(l28:L_ K f28 oc28 od28 "_law_judged" 47 kV28 dc28 pm28 an28 cd28 ct28 sl28)(c28:C_ K cd28 "_law_judged")(k28:J_ K f28)(a29:A_ K "_law_written" f29)(l29:L_ K f29 oc29 od29 "_law_written" 43 kV29 dc29 pm29 an29 cd29 ct29 sl29)(c29:C_ K cd29 "_law_written")(k29:J_ K f29)(a30:A_ K "_law_bent_signs" f30)(l30:L_ K f30 oc30 od30 "_law_bent_signs" 45 kV30 dc30 pm30 an30 cd30 ct30 sl30)(c30:C_ K cd30 "_law_bent_signs")(k30:J_ K f30)(a31:A_ K "_law_crowded" f31)(l31:L_ K f31 oc31 od31 "_law_crowded" 46 kV31 dc31 pm31 an31 cd31 ct31 sl31)(c31:C_ K cd31 "_law_crowded")(k31:J_ K f31)(a32:A_ K "_law_bent_lines" f32)(l32:L_ K f32 oc32 od32 "_law_bent_lines" 44 kV32 dc32 pm32 an32 cd32 ct32 sl32)(c32:C_ K cd32 "_law_bent_lines")(k32:J_ K f32)(a33:A_ K "law" f33)(l33:L_ K f33 oc33 od33 "law" 48 kV33 dc33 pm33 an33 cd33 ct33 sl33)(c33:C_ K cd33 "law")(k33:J_ K f33)
  {ky1 ky2 ky3:Tok} (y1:bb K mainGlobals "LEAST_PLACES"=some (some (.int 3 ky1))) (y2:bb K mainGlobals "MOST_PLACES"=some (some (.int 60 ky2))) (y3:bb K mainGlobals "MOST_TIES"=some (some (.int 200 ky3)))
  {cNoText:Addr} (qNoText:bb K mainGlobals "NoText"=some (some (.ref cNoText))) (eNoText:PySem.W.excIn K cNoText [.type "ValueError",.type "Exception",.type "BaseException",.type "object"] "ValueError.__new__"=true) (gaNoText:aS K (.ref cNoText) "__getattribute__"=some (some (.builtin "BaseException.__getattribute__"))) (clNoText:aS K (.ref cNoText) "__class__"=some (some (.builtin "object.__class__"))) (noNoText:aS K (.ref cNoText) "__getattr__"=some none) (sbNoText:bC K cNoText (.type "BaseException")=some true) (obNoText:bC K cNoText (.type "object")=some true) (isNoText:(cr K cNoText).isSome=true)
  {cNoWeb:Addr} (qNoWeb:bb K mainGlobals "NoWeb"=some (some (.ref cNoWeb))) (eNoWeb:PySem.W.excIn K cNoWeb [.type "ValueError",.type "Exception",.type "BaseException",.type "object"] "ValueError.__new__"=true) (gaNoWeb:aS K (.ref cNoWeb) "__getattribute__"=some (some (.builtin "BaseException.__getattribute__"))) (clNoWeb:aS K (.ref cNoWeb) "__class__"=some (some (.builtin "object.__class__"))) (noNoWeb:aS K (.ref cNoWeb) "__getattr__"=some none) (sbNoWeb:bC K cNoWeb (.type "BaseException")=some true) (obNoWeb:bC K cNoWeb (.type "object")=some true) (isNoWeb:(cr K cNoWeb).isSome=true)
  {cLeafError:Addr} (qLeafError:bb K mainGlobals "LeafError"=some (some (.ref cLeafError))) (eLeafError:PySem.W.excIn K cLeafError [.type "ValueError",.type "Exception",.type "BaseException",.type "object"] "ValueError.__new__"=true) (gaLeafError:aS K (.ref cLeafError) "__getattribute__"=some (some (.builtin "BaseException.__getattribute__"))) (clLeafError:aS K (.ref cLeafError) "__class__"=some (some (.builtin "object.__class__"))) (noLeafError:aS K (.ref cLeafError) "__getattr__"=some none) (sbLeafError:bC K cLeafError (.type "BaseException")=some true) (obLeafError:bC K cLeafError (.type "object")=some true) (isLeafError:(cr K cLeafError).isSome=true)
  {cTooGreat:Addr} (qTooGreat:bb K mainGlobals "TooGreat"=some (some (.ref cTooGreat))) (eTooGreat:PySem.W.excIn K cTooGreat [.type "ValueError",.type "Exception",.type "BaseException",.type "object"] "ValueError.__new__"=true) (gaTooGreat:aS K (.ref cTooGreat) "__getattribute__"=some (some (.builtin "BaseException.__getattribute__"))) (clTooGreat:aS K (.ref cTooGreat) "__class__"=some (some (.builtin "object.__class__"))) (noTooGreat:aS K (.ref cTooGreat) "__getattr__"=some none) (sbTooGreat:bC K cTooGreat (.type "BaseException")=some true) (obTooGreat:bC K cTooGreat (.type "object")=some true) (isTooGreat:(cr K cTooGreat).isSome=true)
  {cNoSet:Addr} (qNoSet:bb K mainGlobals "NoSet"=some (some (.ref cNoSet))) (eNoSet:PySem.W.excIn K cNoSet [.type "ValueError",.type "Exception",.type "BaseException",.type "object"] "ValueError.__new__"=true) (gaNoSet:aS K (.ref cNoSet) "__getattribute__"=some (some (.builtin "BaseException.__getattribute__"))) (clNoSet:aS K (.ref cNoSet) "__class__"=some (some (.builtin "object.__class__"))) (noNoSet:aS K (.ref cNoSet) "__getattr__"=some none) (sbNoSet:bC K cNoSet (.type "BaseException")=some true) (obNoSet:bC K cNoSet (.type "object")=some true) (isNoSet:(cr K cNoSet).isSome=true)
  {cTaken:Addr} (qTaken:bb K mainGlobals "Taken"=some (some (.ref cTaken))) (eTaken:PySem.W.excIn K cTaken [.type "ValueError",.type "Exception",.type "BaseException",.type "object"] "ValueError.__new__"=true) (gaTaken:aS K (.ref cTaken) "__getattribute__"=some (some (.builtin "BaseException.__getattribute__"))) (clTaken:aS K (.ref cTaken) "__class__"=some (some (.builtin "object.__class__"))) (noTaken:aS K (.ref cTaken) "__getattr__"=some none) (sbTaken:bC K cTaken (.type "BaseException")=some true) (obTaken:bC K cTaken (.type "object")=some true) (isTaken:(cr K cTaken).isSome=true)
  {cTooMany:Addr} (qTooMany:bb K mainGlobals "TooMany"=some (some (.ref cTooMany))) (eTooMany:PySem.W.excIn K cTooMany [.type "ValueError",.type "Exception",.type "BaseException",.type "object"] "ValueError.__new__"=true) (gaTooMany:aS K (.ref cTooMany) "__getattribute__"=some (some (.builtin "BaseException.__getattribute__"))) (clTooMany:aS K (.ref cTooMany) "__class__"=some (some (.builtin "object.__class__"))) (noTooMany:aS K (.ref cTooMany) "__getattr__"=some none) (sbTooMany:bC K cTooMany (.type "BaseException")=some true) (obTooMany:bC K cTooMany (.type "object")=some true) (isTooMany:(cr K cTooMany).isSome=true)
  {cNoTie:Addr} (qNoTie:bb K mainGlobals "NoTie"=some (some (.ref cNoTie))) (eNoTie:PySem.W.excIn K cNoTie [.type "ValueError",.type "Exception",.type "BaseException",.type "object"] "ValueError.__new__"=true) (gaNoTie:aS K (.ref cNoTie) "__getattribute__"=some (some (.builtin "BaseException.__getattribute__"))) (clNoTie:aS K (.ref cNoTie) "__class__"=some (some (.builtin "object.__class__"))) (noNoTie:aS K (.ref cNoTie) "__getattr__"=some none) (sbNoTie:bC K cNoTie (.type "BaseException")=some true) (obNoTie:bC K cNoTie (.type "object")=some true) (isNoTie:(cr K cNoTie).isSome=true)
  {cApart:Addr} (qApart:bb K mainGlobals "Apart"=some (some (.ref cApart))) (eApart:PySem.W.excIn K cApart [.type "ValueError",.type "Exception",.type "BaseException",.type "object"] "ValueError.__new__"=true) (gaApart:aS K (.ref cApart) "__getattribute__"=some (some (.builtin "BaseException.__getattribute__"))) (clApart:aS K (.ref cApart) "__class__"=some (some (.builtin "object.__class__"))) (noApart:aS K (.ref cApart) "__getattr__"=some none) (sbApart:bC K cApart (.type "BaseException")=some true) (obApart:bC K cApart (.type "object")=some true) (isApart:(cr K cApart).isSome=true)
  (X1:gO K (.ref cNoText) (.ref cLeafError)=some true)
  (X2:PySem.W.kitOne K (.ref cNoText) (.type "ValueError")=some true)
  (X3:PySem.W.kitAny K (.ref cNoText) ([cNoWeb,cTooGreat,cNoSet,cTaken,cTooMany,cNoTie,cApart].map bd)=some false)
  (X9:(K.lookup sysModules).isSome=true)
  (z1:bb K mainGlobals "len"=some none) (z2:bb K mainGlobals "range"=some none) (z3:bb K mainGlobals "list"=some none) (z4:bb K mainGlobals "tuple"=some none) (z5:bb K mainGlobals "sorted"=some none) (z6:bb K mainGlobals "min"=some none) (z7:bb K mainGlobals "max"=some none) (z8:bb K mainGlobals "int"=some none) (z9:bb K mainGlobals "reversed"=some none) (z10:bb K mainGlobals "isinstance"=some none) (z11:bb K mainGlobals "bool"=some none) (z12:bb K mainGlobals "all"=some none) (z13:bb K mainGlobals "set"=some none) (z14:bb K mainGlobals "enumerate"=some none) (z15:bb K mainGlobals "zip"=some none) (z16:bb K mainGlobals "repr"=some none) (z17:bb K mainGlobals "str"=some none) (z18:bb K mainGlobals "ValueError"=some none) :
  ∃ fd:FuncData,(∀(s:Shared) (v:Value),BindsTo s fd ⟨[v],[]⟩ [("_law_script",v)])/\∀ base:Heap,K.In base->base.Ns mainGlobals mg->C2 l.prog w K mg base CX0 9 fa fd ["_law_script"] (sp_law K):=by
 have e:=hfa.symm.trans (aJ X G a33);cases e;have B:Bt mg:=⟨bf X G z1,bf X G z2,bf X G z3,bf X G z4,bf X G z5,bf X G z6,bf X G z7,bf X G z8,bf X G z9⟩
 have C:Bt2 mg:=⟨bf X G z10,bf X G z11,bf X G z12,bf X G z13,bf X G z14,bf X G z15⟩
 have C4:Bt4 mg:=⟨bf X G z16⟩
 have C5:Bt5 mg:=⟨bf X G z17⟩
 have C7:=bf X G z18;have ZNoText:U4 K mg "NoText" cNoText:=⟨aJ X G qNoText,eNoText,⟨gaNoText,clNoText,noNoText,sbNoText,obNoText,isNoText⟩⟩
 have ZNoWeb:U4 K mg "NoWeb" cNoWeb:=⟨aJ X G qNoWeb,eNoWeb,⟨gaNoWeb,clNoWeb,noNoWeb,sbNoWeb,obNoWeb,isNoWeb⟩⟩
 have ZLeafError:U4 K mg "LeafError" cLeafError:=⟨aJ X G qLeafError,eLeafError,⟨gaLeafError,clLeafError,noLeafError,sbLeafError,obLeafError,isLeafError⟩⟩
 have ZTooGreat:U4 K mg "TooGreat" cTooGreat:=⟨aJ X G qTooGreat,eTooGreat,⟨gaTooGreat,clTooGreat,noTooGreat,sbTooGreat,obTooGreat,isTooGreat⟩⟩
 have ZNoSet:U4 K mg "NoSet" cNoSet:=⟨aJ X G qNoSet,eNoSet,⟨gaNoSet,clNoSet,noNoSet,sbNoSet,obNoSet,isNoSet⟩⟩
 have ZTaken:U4 K mg "Taken" cTaken:=⟨aJ X G qTaken,eTaken,⟨gaTaken,clTaken,noTaken,sbTaken,obTaken,isTaken⟩⟩
 have ZTooMany:U4 K mg "TooMany" cTooMany:=⟨aJ X G qTooMany,eTooMany,⟨gaTooMany,clTooMany,noTooMany,sbTooMany,obTooMany,isTooMany⟩⟩
 have ZNoTie:U4 K mg "NoTie" cNoTie:=⟨aJ X G qNoTie,eNoTie,⟨gaNoTie,clNoTie,noNoTie,sbNoTie,obNoTie,isNoTie⟩⟩
 have ZApart:U4 K mg "Apart" cApart:=⟨aJ X G qApart,eApart,⟨gaApart,clApart,noApart,sbApart,obApart,isApart⟩⟩
 have M1:=aJ X G y1;have M2:=aJ X G y2;have M3:=aJ X G y3;have F1:=E7 (st:=top 32) l1 c1 k1;have D1:Df K mg "_law_mixed" (top 32) f1 _ ["_law_cell", "_law_k"]:=⟨F1,F1.binds λ_ _ _ _ _ _ us hl=>L2.al2 (P:=λus=>bindArgs _ ⟨us,[]⟩=pure (bP _ us)) (λ_ _=>rfl) us hl,aJ X G a1⟩
 have F2:=E7 (st:=top 34) l2 c2 k2;have D2:Df K mg "_law_next" (top 34) f2 _ ["_law_deck_here"]:=⟨F2,F2.binds λ_ _ _ _ _ _ us hl=>L2.al1 (P:=λus=>bindArgs _ ⟨us,[]⟩=pure (bP _ us)) (λ_=>rfl) us hl,aJ X G a2⟩
 have F3:=E7 (st:=top 33) l3 c3 k3;have D3:Df K mg "_law_deck" (top 33) f3 _ ["_law_script", "_law_many"]:=⟨F3,F3.binds λ_ _ _ _ _ _ us hl=>L2.al2 (P:=λus=>bindArgs _ ⟨us,[]⟩=pure (bP _ us)) (λ_ _=>rfl) us hl,aJ X G a3⟩
 have F4:=E7 (st:=top 35) l4 c4 k4;have D4:Df K mg "_law_turn" (top 35) f4 _ ["_law_deck_here", "_law_many"]:=⟨F4,F4.binds λ_ _ _ _ _ _ us hl=>L2.al2 (P:=λus=>bindArgs _ ⟨us,[]⟩=pure (bP _ us)) (λ_ _=>rfl) us hl,aJ X G a4⟩
 have F5:=E7 (st:=top 36) l5 c5 k5;have D5:Df K mg "_law_web" (top 36) f5 _ ["_law_deck_here", "_law_least", "_law_most"]:=⟨F5,F5.binds λ_ _ _ _ _ _ us hl=>L2.al3 (P:=λus=>bindArgs _ ⟨us,[]⟩=pure (bP _ us)) (λ_ _ _=>rfl) us hl,aJ X G a5⟩
 have F6:=E7 (st:=top 22) l6 c6 k6;have D6:Df K mg "neighbour_rows" (top 22) f6 _ ["web"]:=⟨F6,F6.binds λ_ _ _ _ _ _ us hl=>L2.al1 (P:=λus=>bindArgs _ ⟨us,[]⟩=pure (bP _ us)) (λ_=>rfl) us hl,aJ X G a6⟩
 have F7:=E7 (st:=top 37) l7 c7 k7;have D7:Df K mg "_law_near" (top 37) f7 _ ["_law_web_here"]:=⟨F7,F7.binds λ_ _ _ _ _ _ us hl=>L2.al1 (P:=λus=>bindArgs _ ⟨us,[]⟩=pure (bP _ us)) (λ_=>rfl) us hl,aJ X G a7⟩
 have F8:=E7 (st:=top 37) l8 c8 k8;have D8:Df K mg "_law_near" (top 37) f8 _ ["_law_web_here"]:=⟨F8,F8.binds λ_ _ _ _ _ _ us hl=>L2.al1 (P:=λus=>bindArgs _ ⟨us,[]⟩=pure (bP _ us)) (λ_=>rfl) us hl,aJ X G a8⟩
 have F9:=E7 (st:=top 38) l9 c9 k9;have D9:Df K mg "_law_reach" (top 38) f9 _ ["_law_near_here", "_law_start", "_law_allowed"]:=⟨F9,F9.binds λ_ _ _ _ _ _ us hl=>L2.al3 (P:=λus=>bindArgs _ ⟨us,[]⟩=pure (bP _ us)) (λ_ _ _=>rfl) us hl,aJ X G a9⟩
 have F10:=E7 (st:=top 39) l10 c10 k10;have D10:Df K mg "_law_hang" (top 39) f10 _ ["_law_near_here", "_law_places"]:=⟨F10,F10.binds λ_ _ _ _ _ _ us hl=>L2.al2 (P:=λus=>bindArgs _ ⟨us,[]⟩=pure (bP _ us)) (λ_ _=>rfl) us hl,aJ X G a10⟩
 have F11:=E7 (st:=top 11) l11 c11 k11;have D11:Df K mg "is_int" (top 11) f11 _ ["thing"]:=⟨F11,F11.binds λ_ _ _ _ _ _ us hl=>L2.al1 (P:=λus=>bindArgs _ ⟨us,[]⟩=pure (bP _ us)) (λ_=>rfl) us hl,aJ X G a11⟩
 have F12:=E7 (st:=top 12) l12 c12 k12;have D12:Df K mg "is_between" (top 12) f12 _ ["thing", "least", "most"]:=⟨F12,F12.binds λ_ _ _ _ _ _ us hl=>L2.al3 (P:=λus=>bindArgs _ ⟨us,[]⟩=pure (bP _ us)) (λ_ _ _=>rfl) us hl,aJ X G a12⟩
 have F13:=E7 (st:=top 17) l13 c13 k13;have D13:Df K mg "is_pair" (top 17) f13 _ ["thing"]:=⟨F13,F13.binds λ_ _ _ _ _ _ us hl=>L2.al1 (P:=λus=>bindArgs _ ⟨us,[]⟩=pure (bP _ us)) (λ_=>rfl) us hl,aJ X G a13⟩
 have F14:=E7 (st:=top 18) l14 c14 k14;have D14:Df K mg "is_tie" (top 18) f14 _ ["thing", "places"]:=⟨F14,F14.binds λ_ _ _ _ _ _ us hl=>L2.al2 (P:=λus=>bindArgs _ ⟨us,[]⟩=pure (bP _ us)) (λ_ _=>rfl) us hl,aJ X G a14⟩
 have F15:=E7 (st:=top 27) l15 c15 k15;have D15:Df K mg "numbers_below" (top 27) f15 _ ["many"]:=⟨F15,F15.binds λ_ _ _ _ _ _ us hl=>L2.al1 (P:=λus=>bindArgs _ ⟨us,[]⟩=pure (bP _ us)) (λ_=>rfl) us hl,aJ X G a15⟩
 have F16:=E7 (st:=top 28) l16 c16 k16;have D16:Df K mg "numbers_in" (top 28) f16 _ ["words", "numbers"]:=⟨F16,F16.binds λ_ _ _ _ _ _ us hl=>L2.al2 (P:=λus=>bindArgs _ ⟨us,[]⟩=pure (bP _ us)) (λ_ _=>rfl) us hl,aJ X G a16⟩
 have F17:=E7 (st:=top 19) l17 c17 k17;have D17:Df K mg "is_rising" (top 19) f17 _ ["items"]:=⟨F17,F17.binds λ_ _ _ _ _ _ us hl=>L2.al1 (P:=λus=>bindArgs _ ⟨us,[]⟩=pure (bP _ us)) (λ_=>rfl) us hl,aJ X G a17⟩
 have F18:=E7 (st:=top 20) l18 c18 k18;have D18:Df K mg "is_tie_row" (top 20) f18 _ ["thing", "places"]:=⟨F18,F18.binds λ_ _ _ _ _ _ us hl=>L2.al2 (P:=λus=>bindArgs _ ⟨us,[]⟩=pure (bP _ us)) (λ_ _=>rfl) us hl,aJ X G a18⟩
 have F19:=E7 (st:=top 23) l19 c19 k19;have D19:Df K mg "piece_from" (top 23) f19 _ ["rows", "among", "start"]:=⟨F19,F19.binds λ_ _ _ _ _ _ us hl=>L2.al3 (P:=λus=>bindArgs _ ⟨us,[]⟩=pure (bP _ us)) (λ_ _ _=>rfl) us hl,aJ X G a19⟩
 have F20:=E7 (st:=top 24) l20 c20 k20;have D20:Df K mg "pieces" (top 24) f20 _ ["web", "places"]:=⟨F20,F20.binds λ_ _ _ _ _ _ us hl=>L2.al2 (P:=λus=>bindArgs _ ⟨us,[]⟩=pure (bP _ us)) (λ_ _=>rfl) us hl,aJ X G a20⟩
 have F21:=E7 (st:=top 25) l21 c21 k21;have D21:Df K mg "in_one_piece" (top 25) f21 _ ["web"]:=⟨F21,F21.binds λ_ _ _ _ _ _ us hl=>L2.al1 (P:=λus=>bindArgs _ ⟨us,[]⟩=pure (bP _ us)) (λ_=>rfl) us hl,aJ X G a21⟩
 have F22:=E7 (st:=top 21) l22 c22 k22;have D22:Df K mg "is_web" (top 21) f22 _ ["thing"]:=⟨F22,F22.binds λ_ _ _ _ _ _ us hl=>L2.al1 (P:=λus=>bindArgs _ ⟨us,[]⟩=pure (bP _ us)) (λ_=>rfl) us hl,aJ X G a22⟩
 have F23:=E7 (st:=top 29) l23 c23 k23;have D23:Df K mg "numbers_behind" (top 29) f23 _ ["word", "line", "numbers"]:=⟨F23,F23.binds λ_ _ _ _ _ _ us hl=>L2.al3 (P:=λus=>bindArgs _ ⟨us,[]⟩=pure (bP _ us)) (λ_ _ _=>rfl) us hl,aJ X G a23⟩
 have F24:=E7 (st:=top 30) l24 c24 k24;have D24:Df K mg "read_web" (top 30) f24 _ ["thing"]:=⟨F24,F24.binds λ_ _ _ _ _ _ us hl=>L2.al1 (P:=λus=>bindArgs _ ⟨us,[]⟩=pure (bP _ us)) (λ_=>rfl) us hl,aJ X G a24⟩
 have F25:=E7 (st:=top 40) l25 c25 k25;have D25:Df K mg "_law_number" (top 40) f25 _ ["_law_word", "_law_most"]:=⟨F25,F25.binds λ_ _ _ _ _ _ us hl=>L2.al2 (P:=λus=>bindArgs _ ⟨us,[]⟩=pure (bP _ us)) (λ_ _=>rfl) us hl,aJ X G a25⟩
 have F26:=E7 (st:=top 42) l26 c26 k26;have D26:Df K mg "_law_read_web" (top 42) f26 _ ["_law_text"]:=⟨F26,F26.binds λ_ _ _ _ _ _ us hl=>L2.al1 (P:=λus=>bindArgs _ ⟨us,[]⟩=pure (bP _ us)) (λ_=>rfl) us hl,aJ X G a26⟩
 have F27:=E7 (st:=top 41) l27 c27 k27;have D27:Df K mg "_law_refused" (top 41) f27 _ ["_law_call", "_law_thing"]:=⟨F27,F27.binds λ_ _ _ _ _ _ us hl=>L2.al2 (P:=λus=>bindArgs _ ⟨us,[]⟩=pure (bP _ us)) (λ_ _=>rfl) us hl,aJ X G a27⟩
 have F28:=E7 (st:=top 47) l28 c28 k28;have D28:Df K mg "_law_judged" (top 47) f28 _ ["_law_thing"]:=⟨F28,F28.binds λ_ _ _ _ _ _ us hl=>L2.al1 (P:=λus=>bindArgs _ ⟨us,[]⟩=pure (bP _ us)) (λ_=>rfl) us hl,aJ X G a28⟩
 have F29:=E7 (st:=top 43) l29 c29 k29;have D29:Df K mg "_law_written" (top 43) f29 _ ["_law_web_here"]:=⟨F29,F29.binds λ_ _ _ _ _ _ us hl=>L2.al1 (P:=λus=>bindArgs _ ⟨us,[]⟩=pure (bP _ us)) (λ_=>rfl) us hl,aJ X G a29⟩
 have F30:=E7 (st:=top 45) l30 c30 k30;have D30:Df K mg "_law_bent_signs" (top 45) f30 _ ["_law_deck_here", "_law_text"]:=⟨F30,F30.binds λ_ _ _ _ _ _ us hl=>L2.al2 (P:=λus=>bindArgs _ ⟨us,[]⟩=pure (bP _ us)) (λ_ _=>rfl) us hl,aJ X G a30⟩
 have F31:=E7 (st:=top 46) l31 c31 k31;have D31:Df K mg "_law_crowded" (top 46) f31 _ ["_law_deck_here"]:=⟨F31,F31.binds λ_ _ _ _ _ _ us hl=>L2.al1 (P:=λus=>bindArgs _ ⟨us,[]⟩=pure (bP _ us)) (λ_=>rfl) us hl,aJ X G a31⟩
 have F32:=E7 (st:=top 44) l32 c32 k32;have D32:Df K mg "_law_bent_lines" (top 44) f32 _ ["_law_deck_here", "_law_text", "_law_places"]:=⟨F32,F32.binds λ_ _ _ _ _ _ us hl=>L2.al3 (P:=λus=>bindArgs _ ⟨us,[]⟩=pure (bP _ us)) (λ_ _ _=>rfl) us hl,aJ X G a32⟩
 have F33:=E7 (st:=top 48) l33 c33 k33;refine⟨dq "law" "law" (V5 (top 48)) (T3 (top 48)) (B1 (top 48)) .none kV33 dc33 pm33 an33 cd33 ct33,λs v=>.of_eq rfl,λbase _ _=>?_⟩;have O1:=a8c (P:=l.prog) (w:=w) (base:=base) F1 B;have O2:=a9P (P:=l.prog) (w:=w) (base:=base) F2 B;have O3:=a9R (P:=l.prog) (w:=w) (base:=base) F3 B D1 O1;have O4:=a9M (P:=l.prog) (w:=w) (base:=base) F4 B D2 O2;have O5:=b1Y (P:=l.prog) (w:=w) (base:=base) F5 B D2 O2 D4 O4;have O6:=a8a (P:=l.prog) (w:=w) (base:=base) F6 B;have O7:=a9Q (P:=l.prog) (w:=w) (base:=base) F7 B;have O8:=a8b (P:=l.prog) (w:=w) (base:=base) F8 B;have O9:=a7T (P:=l.prog) (w:=w) (base:=base) F9 B;have O10:=a6x (P:=l.prog) (w:=w) (base:=base) F10 B D9 O9;have O11:=a9O (P:=l.prog) (w:=w) (base:=base) F11 B C;have O12:=a7X (P:=l.prog) (w:=w) (base:=base) F12 B D11 O11;have O13:=a7V (P:=l.prog) (w:=w) (base:=base) F13 B C;have O14:=a9N (P:=l.prog) (w:=w) (base:=base) F14 B D13 O13 D12 O12;have O15:=a4v (P:=l.prog) (w:=w) (base:=base) F15 B C5;have O16:=a7Z (P:=l.prog) (w:=w) (base:=base) F16 B;have O17:=a4u (P:=l.prog) (w:=w) (base:=base) F17 B;have O18:=a7U (P:=l.prog) (w:=w) (base:=base) F18 B D14 O14 D17 O17 C;have O19:=a7W (P:=l.prog) (w:=w) (base:=base) F19 B;have O20:=a6v (P:=l.prog) (w:=w) (base:=base) F20 B D6 O6 D19 O19;have O21:=a7Y (P:=l.prog) (w:=w) (base:=base) F21 B D20 O20;have O22:=a6w (P:=l.prog) (w:=w) (base:=base) F22 B D13 O13 D12 O12 D18 O18 D21 O21 M1 M2 M3;have O23:=a3q (P:=l.prog) (w:=w) (base:=base) F23 B D16 O16;have O24:=a5f (P:=l.prog) (w:=w) (base:=base) F24 B ZNoText D15 O15 D23 O23 D22 O22 C C5 M2;have O25:=a5g (P:=l.prog) (w:=w) (base:=base) F25 B C5;have O26:=a2i (P:=l.prog) (w:=w) (base:=base) F26 B D25 O25 D8 O8 D10 O10 C;have O27:=a3p (P:=l.prog) (w:=w) (base:=base) F27 B ZNoWeb ZLeafError ZTooGreat ZNoSet ZTaken ZTooMany ZNoTie ZApart ZNoText C C7 X1 X2 X3;have O28:=a4w (P:=l.prog) (w:=w) (base:=base) F28 B ZNoText D26 O26 D24 O24 D27 O27 C C4 C5 X9;have O29:=a3o (P:=l.prog) (w:=w) (base:=base) F29 B C5;have O30:=a4x (P:=l.prog) (w:=w) (base:=base) F30 B D2 O2 C;have O31:=a3r (P:=l.prog) (w:=w) (base:=base) F31 B D2 O2 D4 O4 C;have O32:=a4y (P:=l.prog) (w:=w) (base:=base) F32 B D2 O2 C C5;exact a8d F33 B D3 O3 D29 O29 D5 O5 D32 O32 D30 O30 D28 O28 D31 O31
theorem walk {l:gE}{q:Program}{loose:List Str}{XP:(Str->Option Value)->Heap->Prop}{YP:World->Heap->Prop}{d:DefRec}{K:Params->ae}(hn:l.most=some 63)(hdf:d.params.defaults=[])
  (hY:∀(w:World) (h:Heap),YP w h->(K w.params).In h)
  (F:∀(w:World) (mg:Str->Option Value) (fa:Addr) (h:Heap),(K w.params).In h->h.Ns mainGlobals mg->mg d.name=some (.ref fa) ->
   ∃ fd:FuncData,(∀(s:Shared) (u:Value),BindsTo s fd ⟨[u],[]⟩ [("_law_script",u)])/\∀ base:Heap,(K w.params).In base->base.Ns mainGlobals mg->C2 l.prog w (K w.params) mg base CX0 9 fa fd ["_law_script"] (sp_law (K w.params))) :
  PySem.W.WalkO q loose XP YP l.row.toRowW d [] (λf vs=>jo f vs) :=
 L2.a5E (n:=63) (k:=9) (x:="_law_script") (CX:=λ_=>CX0) (sp:=λw=>sp_law (K w.params)) hn (by decide) hdf ⟨rfl,by decide,by decide,rfl⟩ hY F (λ_ _ a ns hl _ hS=>⟨a,ns,rfl,hS,hl,λ_=>rfl⟩) λ_ _ _ _ _ z=>z
end K83
end
open PySem PySem.W PyProof.Rows
set_option maxRecDepth 100000 in
set_option maxHeartbeats 0 in
theorem PySem.Challenge.cw_manyleaves_k83_no_texts_of_webs_holds : PySem.Challenge.rw_manyleaves_k83_no_texts_of_webs.Holds := by
 w_on;refine holds_law K83.said λsaid=>?_
 refine holds_open (q:=K83.viewP) (loose:=[]) (Xt:=λs=>xlAt K83.viewP [] s && recOk (RowW.records (gP (iC PySem.Challenge.rw_manyleaves_k83_no_texts_of_webs))) s) (XP:=XL K83.viewP []) (Yf:=Hook.obs (kHook K83.heapK K83.addrs K83.addr)) (Ya:=Hook.val (kHook K83.heapK K83.addrs K83.addr)) (YP:=Hook.says (kHook K83.heapK K83.addrs K83.addr)) (N:=5950) K83.left (Hook.of (kHook K83.heapK K83.addrs K83.addr)) (Hook.keeps (kHook K83.heapK K83.addrs K83.addr)) (λs e=>xl_of s (i9.mp e).1) XL.keeps (by rfl) (by rfl) (by rfl) (λs e=>recFacts_of (i9.mp e).2) (by rfl) said (by decide +kernel) ⟨rfl,rfl,rfl,rfl,rfl,by decide +kernel⟩ ?hw ?hc
 (case hw=>w_witness2)
 k_fill
 refine K83.walk (l:=PySem.Challenge.rw_manyleaves_k83_no_texts_of_webs) rfl rfl (λw h Y=>PySem.W.kIn_of Y) ?F
 case F =>
  intro w mg fa h KX G hmg;refine' K83.all_mk KX G hmg ?a1 ?l1 ?c1 ?k1 ?a2 ?l2 ?c2 ?k2 ?a3 ?l3 ?c3 ?k3 ?a4 ?l4 ?c4 ?k4 ?a5 ?l5 ?c5 ?k5 ?a6 ?l6 ?c6 ?k6 ?a7 ?l7 ?c7 ?k7 ?a8 ?l8 ?c8 ?k8 ?a9 ?l9 ?c9 ?k9 ?a10 ?l10 ?c10 ?k10 ?a11 ?l11 ?c11 ?k11 ?a12 ?l12 ?c12 ?k12 ?a13 ?l13 ?c13 ?k13 ?a14 ?l14 ?c14 ?k14 ?a15 ?l15 ?c15 ?k15 ?a16 ?l16 ?c16 ?k16 ?a17 ?l17 ?c17 ?k17 ?a18 ?l18 ?c18 ?k18 ?a19 ?l19 ?c19 ?k19 ?a20 ?l20 ?c20 ?k20 ?a21 ?l21 ?c21 ?k21 ?a22 ?l22 ?c22 ?k22 ?a23 ?l23 ?c23 ?k23 ?a24 ?l24 ?c24 ?k24 ?a25 ?l25 ?c25 ?k25 ?a26 ?l26 ?c26 ?k26 ?a27 ?l27 ?c27 ?k27 ?a28 ?l28 ?c28 ?k28 ?a29 ?l29 ?c29 ?k29 ?a30 ?l30 ?c30 ?k30 ?a31 ?l31 ?c31 ?k31 ?a32 ?l32 ?c32 ?k32 ?a33 ?l33 ?c33 ?k33 ?y1 ?y2 ?y3 ?qNoText ?eNoText ?gaNoText ?clNoText ?noNoText ?sbNoText ?obNoText ?isNoText ?qNoWeb ?eNoWeb ?gaNoWeb ?clNoWeb ?noNoWeb ?sbNoWeb ?obNoWeb ?isNoWeb ?qLeafError ?eLeafError ?gaLeafError ?clLeafError ?noLeafError ?sbLeafError ?obLeafError ?isLeafError ?qTooGreat ?eTooGreat ?gaTooGreat ?clTooGreat ?noTooGreat ?sbTooGreat ?obTooGreat ?isTooGreat ?qNoSet ?eNoSet ?gaNoSet ?clNoSet ?noNoSet ?sbNoSet ?obNoSet ?isNoSet ?qTaken ?eTaken ?gaTaken ?clTaken ?noTaken ?sbTaken ?obTaken ?isTaken ?qTooMany ?eTooMany ?gaTooMany ?clTooMany ?noTooMany ?sbTooMany ?obTooMany ?isTooMany ?qNoTie ?eNoTie ?gaNoTie ?clNoTie ?noNoTie ?sbNoTie ?obNoTie ?isNoTie ?qApart ?eApart ?gaApart ?clApart ?noApart ?sbApart ?obApart ?isApart ?X1 ?X2 ?X3 ?X9 ?z1 ?z2 ?z3 ?z4 ?z5 ?z6 ?z7 ?z8 ?z9 ?z10 ?z11 ?z12 ?z13 ?z14 ?z15 ?z16 ?z17 ?z18
  (case a1|a2|a3|a4|a5|a6|a7|a8|a9|a10|a11|a12|a13|a14|a15|a16|a17|a18|a19|a20|a21|a22|a23|a24|a25|a26|a27|a28|a29|a30|a31|a32|a33=>unfold K83.A_;k_is)
  (case l1|l2|l3|l4|l5|l6|l7|l8|l9|l10|l11|l12|l13|l14|l15|l16|l17|l18|l19|l20|l21|l22|l23|l24|l25|l26|l27|l28|l29|l30|l31|l32|l33=>unfold K83.L_;k_is)
  (case c1|c2|c3|c4|c5|c6|c7|c8|c9|c10|c11|c12|c13|c14|c15|c16|c17|c18|c19|c20|c21|c22|c23|c24|c25|c26|c27|c28|c29|c30|c31|c32|c33=>unfold K83.C_;k_is)
  (case k1|k2|k3|k4|k5|k6|k7|k8|k9|k10|k11|k12|k13|k14|k15|k16|k17|k18|k19|k20|k21|k22|k23|k24|k25|k26|k27|k28|k29|k30|k31|k32|k33=>unfold K83.J_;k_is)
  (case y1|y2|y3|qNoText|gaNoText|clNoText|noNoText|sbNoText|obNoText|qNoWeb|gaNoWeb|clNoWeb|noNoWeb|sbNoWeb|obNoWeb|qLeafError|gaLeafError|clLeafError|noLeafError|sbLeafError|obLeafError|qTooGreat|gaTooGreat|clTooGreat|noTooGreat|sbTooGreat|obTooGreat|qNoSet|gaNoSet|clNoSet|noNoSet|sbNoSet|obNoSet|qTaken|gaTaken|clTaken|noTaken|sbTaken|obTaken|qTooMany|gaTooMany|clTooMany|noTooMany|sbTooMany|obTooMany|qNoTie|gaNoTie|clNoTie|noNoTie|sbNoTie|obNoTie|qApart|gaApart|clApart|noApart|sbApart|obApart|z1|z2|z3|z4|z5|z6|z7|z8|z9|z10|z11|z12|z13|z14|z15|z16|z17|z18=>k_is)
  (case eNoText|isNoText|eNoWeb|isNoWeb|eLeafError|isLeafError|eTooGreat|isTooGreat|eNoSet|isNoSet|eTaken|isTaken|eTooMany|isTooMany|eNoTie|isNoTie|eApart|isApart|X1|X2|X3|X9=>kernel_rfl)
