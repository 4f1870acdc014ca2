import PyProof.Rows.All
import Wide.All
import OpenK.AllK
import Wide.FinOn
import Lean
import PyProof.EqAt
import PyProof.EqKinds
import PyProof.TupleCall
import PySem.SetOps
import PyProof.SetScanFacts
import PyProof.Rows.SetFrom
import PyProof.SetRoads
import PyProof.WalksMore
import PyProof.EnumMake
import PyProof.EnumFor
import PyProof.P3In
import PyProof.Rows.Range3
import PyProof.ZipIter
import PyProof.TupleKey
import PyProof.DictKinds
import PyProof.Rows.SumAny
import PyProof.Rows.SortRev
import PyProof.Rows.SeqMore
import PyProof.ReprRoads
import PyProof.ReprText
import PyProof.ReprBulk
import PyProof.Rows.AssignMoreSeq
import KE.KMinKey
import KE.KLam
import PyProof.DictItems
import PyProof.DictItemsLoops
import KE.KPairComp
import PySem.Challenge.RW_manyleaves_k64_ladders
set_option maxHeartbeats 8000000
local macro_rules | `(tactic| omega) => `(tactic| first | lia | omega +splitDisjunctions)
local macro_rules | `(∅) => `(by omega)
local macro_rules | `(⋯) => `(List (Int × Int))
local macro_rules | `(~~~$x) => `(by simpa using $x)
open List renaming length_map->ae,mem_singleton->ag,mem_append->aj,length_append->ak,map_append->ap,getElem?_eq_some_iff->aq,getElem?_eq_getElem->au,length_cons->aD,getElem?_map->aF,mem_of_getElem?->aG,map_cons->aH,mem_cons_of_mem->aI,mem_cons->aJ,mem_append_left->aL,mem_cons_self->aM,mem_append_right->aN,size_toArray->aQ,mem_map->aR,mem_filter->aS,length_take->aW,mem_range->bh,getElem?_append_left->bj,append_nil->bp,append_assoc->br,length_filter_le->bu,take_length->bz,filter_append->bA,take_add_one->bD,length_singleton->bG,take_append_drop->bI,not_mem_nil->bJ,getElem?_append_right->bP,getElem?_eq_none->bS,pairwise_map->bT,nodup_cons->bW,nodup_append->b9,mem_iff_getElem?->ca,map_map->cb,perm_ext_iff_of_nodup->cc,zip->cf,pairwise_append->ck,filterMap_cons_some->cr,map_nil->cu,pairwise_singleton->cw,filter_cons_of_pos->cz,getD_eq_getElem?_getD->cB,pairwise_lt_range->cE,extract_eq_take_drop->cF,map_congr_left->cI,take_succ->cN,range_succ->cO,filter_cons_of_neg->cP,filter_cons->cR,take_of_length_le->cS,getElem?_set_self->cT,length_nil->cX,filterMap_cons_none->da,getElem?_set_ne->dh,length_eq_zero_iff->dj,ext_getElem?->dw,getElem_of_mem->dy,perm_append_comm->dE,length_replicate->dF,pairwise_iff_getElem->dG,getElem?_zip_eq_some->dH,length_range->dI,length_erase_of_mem->dJ,filterMap_cons->dM,mem_flatMap->dP,drop_of_length_le->dS,dropLast_concat_getLast->dY,nil_append->eG,length_set->eI,filter_nil->eJ,replicate_succ'->eM,mem_erase_of_ne->eN,take_zero->eS,cons_append->eV,any_eq_true->eY,replicate_succ->eZ,zip_cons_cons->fj,find?_cons->fk,any_cons->fm,length_pos_of_mem->fz,reverse_cons->fA,flatMap_cons->fB,mem_map_of_mem->fS,flatMap_append->fT,perm_append_singleton->fZ,pairwise_cons->gb,getElem?_drop->gc,drop_eq_getElem_cons->gf,getElem?_take_of_lt->gj,flatten_cons->gk,sum_cons->gp,getElem_mem->gv,all_eq_true->gw,foldl_cons->gL,range_eq_range'->gQ,length_reverse->gW,length_pos_iff->gX,getElem?_range->gY,ne_nil_of_mem->ic,map_singleton->ie,all_cons->ig,take_sublist->iw,eraseIdxIfInBounds_toArray->iy,all_map->iD,length_drop->iG,of_mem_zip->iS,length->iT,getElem?_concat_length->iU,exists_cons_of_ne_nil->i9,nodup_nil->je,getLast?_eq_getElem?->jf,getElem?_replicate->jq,getElem?_cons_zero->jr,getElem?_cons_succ->js,flatMap_singleton->jz,pairwise_reverse->jD,pairwise_flatMap->jE,getElem?_toArray->jF,length_dropLast->jM,filter_eq_self->jR,mem_filterMap->jY,map_inj_right->jZ,find?_eq_none->j0,reverse_perm->j6,getElem?_inj->j7,foldl->j8,drop_sublist->j9
open PySem renaming wpAny_bind->af,wpAny_pure->ao,boot_len->ba,wpAny_newObj_type->bZ,wpAny_callSpecial?_slot->ci,wpAny_call_entry->cn,wpAny_Call_Name_kw->cG,wpAny_mono->cH,wpAny_holding->cK,wpAny_truthy_bool->cY,wpAny_setState_of->cZ,wpAny_field->dB,wpAny_typeNameOfWhole_keyiter->eB,wpAny_passesOwn->eQ,mem_of_lookup->eT,wpAny_setField->fh,wpAny_askSetting->fi,wpAny_typeNameOf_keyiter->fu,wpAny_standAt->fD,wpAny_setField_rec->fE,wpAny_pyIter_tuple->fF,wpAny_ite_split->fG,wpAny_attempt->fH,wpAny_isInstance->fU,wpAny_seqItems->gr,wpAny_pyIter_enum->gC,wpAny_comprehension_free->gD,wpAny_of_eq->gM,wpAny_typeOf->gZ,wpAny_specialOf->g8,wpAny_loadPart'->g9,wpAny_execs_nil->hG,call_meets->h8,Addr->il,wpAny_fieldsOf->ip,wpAny_setEntries_of->iA,wpAny_rule->iY,wpAny_pyIter_slot->iZ,wpAny_pyIter_list->i5,wpAny_dictEntries->i6,wpAny_forIn_list->ji,wpAny_dictEpoch->jv,wpAny_letOwnedTupleGo_enum->jA,wpAny_newList->jU,wpAny_handled->jV,call->jW,wpAny_isTrue_Compare1->ka,wpAny_isOneOf_keyiter->kc,wpAny_eqIsQuiet_tuple->kd,wpAny_newFunctionEnv->kf,wpAny_throw->kh,wpAny_eqBool_tuple->ki,wpAny_storeSet_of->ko,wpAny_assign_Name->kq,wpAny_Name->kr,slot_list_getitem->ku,fits_of_scanBound->kw
open PySem.W renaming Frag->ah,mg_of->bf,mg_none_of->bO,nsIn->cA,kia_one->cL,emptyDict->di,instObj->dU,fnOf->eR,keepIn->gH,codeIn->gI,methodObj->hV,OpenLaw->iB,cellsFrom_some->jc,kitx_list->jG,kitx_dict->jH
open PySem.Heap renaming get?_push_of_some->am,lt_size->aE,get?_push_size->aK,SameBut->cj,size_push->cV,get?_update_self->cW,get?_update_other->gz,ExtBut->iL,get?_push_ne->j4
open PyProof.Rows renaming wpS_pure->aA,wpS_bind->aB,callWith_type1->bR,wpS_forRange->cq,boot_sorted->dq,boot_tuple->dz,wpS_mono->dX,wpS_modify->fv,boot_isinstance->gi,wpS_get->gu,slot_tuple_getitem->gK,callWith_builtin1->gN,boot_list->iK,setArr->iP,mirror->iQ,bubble->iR,mirror_perm->jx,boot_enumerate->jI,boot_range->jP,boot_min->kj,boot_max->km,boot_int->kn
open Nat renaming le_refl->aC,ne_of_lt->aU,zero_le->bo,lt_of_lt_of_le->bB,le_trans->bH,lt_or_ge->cv,not_lt_zero->cQ,lt_trichotomy->cU,lt_irrefl->dr,zero_add->du,le_of_lt->dv,lt_succ_self->dD,le_of_lt_succ->dL,succ_mul->fe,ne_of_gt->fg,succ_pos->fK,min_le_left->fV,le_succ->fW,le_of_eq->ge,lt_succ_of_lt->gn,le_add_right->gB,mul_le_mul_right->gT,lt_of_le_of_ne->im,mod_lt->iC,lt_trans->iF,exists_eq_add_of_le->jy,succ_add->jK,add_zero->jL,lt_of_le_of_lt->j5
open Bool renaming false_eq_true->aO,false_ne_true->aV,and_eq_true->bU,not_true->dm,eq_iff_iff->fq,true_and->ii,not_eq_true'->iz,not_false->jg,false_and->jh,and_self->jt,and_eq_true_iff->jN
open Option.some renaming inj->aP
open Array renaming getElem?_eq_getElem->aT,getElem?_toList->aZ,toList_push->bC,length_toList->bF,getElem?_eq_none->bM,toList_append->bV,toList_extract->df,toList_reverse->fL,getElem_setIfInBounds->fR,size_extract->ga,size_push->gF,replicate->gG,toArray_toList->gO,size_map->gR,ext'->io,perm_iff_toList_perm->iV,getElem?_eq_none_iff->iW,toList_filterMap->ju,forIn_toList->jS,append_assoc->jT
open Classical renaming byContradiction->aX,choose->gg,choose_spec->jb
open Int renaming toNat_of_nonneg->aY,toNat_natCast->bN,emod_lt_of_pos->d9,emod_nonneg->ft,le_refl->h7,zero_add->iH,mul_one->j3
open PyProof.Rows.KeyOrd renaming kle_of_klt->bb,kle_trans->bn,kle_refl->cM,kle_antisymm->jB
open PySem.Value renaming bool->bE,ref->bX,none->cJ,type->dA,int->dO,isInt_shape->fw,str->iJ
open PySem.PassesOwn renaming never->bK
open Option renaming map_eq_some_iff->bL,isSome_iff_exists->eU,toList_some->fc,map_some->gA,getD_none->ir,none->jC,isSome_map->jQ
open PySem.NameKind renaming free->bQ,cell->cD
open PySem.Heap.SameBut renaming update->bY,refl->jd
open ForInStep renaming yield->b8,done->fQ
open PySem.PyData renaming int->cg
open PySem.Str renaming ofString->cC
open PySem.Obj renaming data_mapFields->db,isFreed_of_fields->fJ,putSet->gl,cls_mapFields->gm,mapFields->ij
open PySem.F renaming slot_tuple_iterator_next->dC,slot_enumerate_next->dW,slot_dict_keyiterator_next->eD,plainAttrs_list->fb,args_tuple_iterator_next_1->gP,entry_tuple_iterator_next->gS,args_enumerate_next_1->ik,entry_enumerate_next->iq,args_dict_keyiterator_next_1->iM,entry_dict_keyiterator_next->i8,type_list_pop->jl,slot_set_iter->jm,slot_list_pop->jn,plain_set_new->jo
open Sum renaming inl->dN,inr->iX
open False renaming elim->dQ
open True renaming intro->dR
open Ne renaming symm->dZ
open PySem.Builtin.Tuple renaming tupleExact->eF,tupleHashOf->hX
open List.Perm renaming eq_of_pairwise->eO,swap->iE,append_left->ja
open Prod renaming ext->fI
open PyProof.Rows.SortSt renaming mk'->fM
open List.Pairwise renaming imp_of_mem->fN,and->fO
open Nat.succ renaming inj->fP
open PySem.SetTable renaming insertAt->fX,insertAt_perm->i7
open PySem.Calls renaming spliced_cons->fY,spliced_nil->gh,Name_function_global->iO,callWith_builtin->jp
open PySem.Builtin.Dict_items renaming ownsTuple->gt
open PyProof.Rows.F renaming plain_set_update_loop->gE,entry_set_update_loop->jJ
open PySem.Around renaming under_plainId->gJ
open PySem.Paired renaming length->gU
open PySem.Data renaming cell->h9,fields->iN
open PySem.W.OpenRow renaming toRowW->iI
open PySem.SeqAt.EqAt renaming str_int->jj,int_str->jk
open PySem.W.OpenLaw renaming row->jw
open And renaming intro->jO
open PySem.Code renaming quiet_builtin->jX
set_option Elab.async false
set_option linter.all false
set_option maxRecDepth 100000
set_option maxHeartbeats 8000000
set_option compiler.extract_closed false
section
namespace L2
open PySem PySem.Spec PyProof.Rows
abbrev Key:=Sum Int Str
def a3p:Key->Value->Bool
 | .inl k,v=>Value.isInt k v
 | .inr x,v=>Value.isStrOf x v
def b4N (w:World):Key->Int
 | .inl k=>hashInt k
 | .inr x=>hashStr w x
theorem L4:∀ {k:Key} {v:Value},a3p k v=true->(∃ i t,k=dN i/\v=dO i t)\/(∃ x t,k=iX x/\v=iJ x t)
 | .inl i,v,h=>by
  obtain⟨t,e⟩:=fw (k:=i) (v:=v) h;exact .inl ⟨i,t,rfl,e⟩
 | .inr x,v,h=>by
  obtain⟨t,e⟩:=Value.isStrOf_shape (x:=x) (v:=v) h;exact .inr ⟨x,t,rfl,e⟩
theorem a7s (i:Int)(t:Tok):a3p (.inl i) (.int i t)=true:=by simp[a3p,Value.isInt]
theorem a7r (x:Str)(t:Tok):a3p (.inr x) (.str x t)=true:=by simp[a3p,Value.isStrOf]
theorem b2s (a b:Int):decide ((dN a:Key)=dN b)=(a == b):=by
 by_cases e:a=b
 ·subst e;simp
 ·have h:¬ (dN a:Key)=dN b:=λq=>e (Sum.inl.inj q)
  rw[decide_eq_false h];exact (beq_eq_false_iff_ne.mpr e).symm
theorem b2p (a b:Str):decide ((iX a:Key)=iX b)=decide (a=b):=by
 by_cases e:a=b
 ·subst e;simp
 ·have h:¬ (iX a:Key)=iX b:=λq=>e (Sum.inr.inj q)
  rw[decide_eq_false h,decide_eq_false e]
theorem b2r (a:Int)(b:Str):decide ((dN a:Key)=iX b)=false:=decide_eq_false (λq=>nomatch q)
theorem b2q (a:Str)(b:Int):decide ((iX a:Key)=dN b)=false:=decide_eq_false (λq=>nomatch q)
def L1 (prog:Program)(w:World):PySem.KeyKind prog w Key where
 is:=a3p
 hash:=b4N w
 inj:=λv a b ha hb=>by
  rcases L4 ha with ⟨i,t,rfl,rfl⟩ | ⟨x,t,rfl,rfl⟩
  ·rcases L4 hb with ⟨j,u,rfl,e⟩ | ⟨y,u,rfl,e⟩
   ·injection e with e1 _;rw[e1]
   ·exact nomatch e
  ·rcases L4 hb with ⟨j,u,rfl,e⟩ | ⟨y,u,rfl,e⟩
   ·exact nomatch e
   ·injection e with e1 _;rw[e1]
 byValue:=λk v h=>by
  rcases L4 h with ⟨i,t,rfl,rfl⟩ | ⟨x,t,rfl,rfl⟩<;>rfl
 pyHash:=λhv h=>by
  rcases L4 hv with ⟨i,t,rfl,rfl⟩ | ⟨x,t,rfl,rfl⟩
  ·exact wpAny_pyHash_int h
  ·exact wpAny_pyHash_str h
 eqBool:=λhu hv h=>by
  rcases L4 hu with ⟨i,t,rfl,rfl⟩ | ⟨x,t,rfl,rfl⟩
  ·rcases L4 hv with ⟨j,u,rfl,rfl⟩ | ⟨y,u,rfl,rfl⟩
   ·rw[b2s] at h;exact wpAny_eqBool_int h
   ·rw[b2r] at h;exact jk i t y u _ _ _ _ h
  ·rcases L4 hv with ⟨j,u,rfl,rfl⟩ | ⟨y,u,rfl,rfl⟩
   ·rw[b2q] at h;exact jj x t j u _ _ _ _ h
   ·rw[b2p] at h;exact wpAny_eqBool_str h
 «strs»:=λk x t v h=>by
  rcases L4 h with ⟨i,u,rfl,e⟩ | ⟨y,u,rfl,e⟩
  ·exact nomatch e
  ·injection e with e1 _
   subst e1;cases v<;>rfl
theorem a5d (prog:Program)(w:World)(i:Int)(t:Tok):(L1 prog w).is (.inl i) (.int i t)=true:=a7s i t
theorem a5c (prog:Program)(w:World)(x:Str)(t:Tok):(L1 prog w).is (.inr x) (.str x t)=true:=a7r x t
end L2
namespace L2
open PySem PySem.Spec PyProof.Rows
inductive V where
 | non | bl (b:Bool) | int (i:Int) | str (x:Str) | byt (b:Array UInt8) | flt (b:UInt64) | ref (a:Addr) | ty (n:String)
 deriving DecidableEq
def J2:V->Value->Prop
 | .non,u=>u=cJ
 | .bl b,u=>u=bE b
 | .int i,u=>∃ t,u=dO i t
 | .str x,u=>∃ t,u=iJ x t
 | .byt b,u=>∃ t,u=Value.bytes b t
 | .flt b,u=>∃ t,u=Value.float b t
 | .ref a,u=>u=bX a
 | .ty n,u=>u=dA n
abbrev E2:List V->List Value->Prop:=Paired J2
theorem E2.length {xs:List V}{us:List Value}(r:E2 xs us):xs.length=us.length:=gU r
theorem E2.get:∀ {xs:List V} {us:List Value} {i:Nat} {x:V},E2 xs us->xs[i]?=some x->∃ u,us[i]?=some u/\J2 x u
 | _,_,_,_,.nil,e=>by simp at e
 | _,_,0,_,.cons r _,e=>by simp at e;subst e;exact⟨_,rfl,r⟩
 | _,_,i+1,x,.cons _ t,e=>by
  obtain⟨u,h1,h2⟩:=E2.get (i:=i) (x:=x) t (~~~e);exact⟨u, ~~~h1,h2⟩
theorem E2.set {x:V}{u:Value}(r:J2 x u):∀ {xs:List V} {us:List Value} (i:Nat),E2 xs us->E2 (xs.set i x) (us.set i u)
 | _,_,_,.nil=>.nil
 | _,_,0,.cons _ t=>.cons r t
 | _,_,i+1,.cons q t=>.cons q (E2.set r i t)
theorem E2.append:∀ {xs ys:List V} {us ws:List Value},E2 xs us->E2 ys ws->E2 (xs++ys) (us++ws)
 | _,_,_,_,.nil,s=>s
 | _,_,_,_,.cons r t,s=>.cons r (E2.append t s)
theorem E2.take:∀ {xs:List V} {us:List Value} (n:Nat),E2 xs us->E2 (xs.take n) (us.take n)
 | _,_,0,_=>.nil
 | _,_,_+1,.nil=>.nil
 | _,_,n+1,.cons r t=>.cons r (E2.take n t)
theorem E2.drop:∀ {xs:List V} {us:List Value} (n:Nat),E2 xs us->E2 (xs.drop n) (us.drop n)
 | _,_,0,r=>r
 | _,_,_+1,.nil=>.nil
 | _,_,n+1,.cons _ t=>E2.drop n t
def a4o:Option V->Option Value->Prop
 | some v,some u=>J2 v u
 | none,none=>True
 | _,_=>False
def KV {κ:Type}:List (κ×V)->List (κ×Value)->Prop:=Paired λ(p:κ×V) (q:κ×Value)=>p.1=q.1/\J2 p.2 q.2
def kV:Key->V
 | .inl i=>.int i
 | .inr x=>.str x
inductive HO where
 /-- a list -/
 | lst (xs:List V)
 /-- a tuple (never changes) -/
 | tup (xs:List V)
 /-- a dict whose keys are ints and texts;one whose keys are tuples of ints and texts (the empty one is both) -/
 | dK (kvs:List (Key×V)) | dT (kvs:List (List Key×V))
 /-- a set of ints: its members,its size -/
 | set (S:Int->Bool) (n:Nat)
 /-- an instance of the class at C,its dict at dx,its attributes -/
 | ins (C dx:Addr) (fs:List (Str×V))
 /-- the dict of the instance at x -/
 | own (x:Addr)
 /-- the dict of an exception -/
 | xd (fs:List (Str×V))
 /-- a bound method,f of x -/
 | met (f x:Addr)
 /-- a range object lo,lo+1,.. below hi -/
 | rng (lo hi:Int)
 /-- a thing that is known to the object (the script;a dict while a loop walks it): read,never written while it is so -/
 | frz (o:Obj) (u:HO)
 /-- a code object's table -/
 | tbl (ps:Array Value)
 /-- any other thing,by what is true of its one object (a def of one's own: SetO a S n:=HO.ext λh=>..) -/
 | ext (φ:Heap->Prop)
abbrev Hp:=Addr->Option HO
def upd (H:Hp)(a:Addr)(o:HO):Hp:=λb=>if b=a then some o else H b
theorem A3 {H:Hp}{a:Addr}{o:HO}:upd H a o a=some o:=by unfold upd;rw[if_pos rfl]
theorem B3 {H:Hp}{a b:Addr}{o:HO}(h:b≠a):upd H a o b=H b:=by unfold upd;rw[if_neg h]
theorem a1D {H:Hp}{a:Addr}{o u:HO}:upd (upd H a o) a u=upd H a u:=by
 funext b;unfold upd;split<;>rfl
theorem b3W {H:Hp}{a b:Addr}{o u:HO}(h:H a=some o)(h':H b=some u)(d:o≠u):a≠b:=by
 intro e;subst e;rw[h] at h';exact d (aP h')
theorem E4 {H:Hp}{a b:Addr}{o:HO}(h:H a=some o)(h':H b=none):a≠b:=by
 intro e;subst e;rw[h] at h';cases h'
section
variable (P:Program)(w:World)
def L8 (H:Hp)(h:Heap)(a:Addr):HO->Prop
 | .lst xs=>xs.length<=sizeLine/\∃(its:List Value) (n:Nat),E2 xs its/\h.get? a=some {cls:=.type "list",data:=.seq its.toArray n}
 | .tup xs=>xs.length<=sizeLine/\∃ its:List Value,E2 xs its/\IsTup h a its.toArray
 | .dK kvs=>kvs.length<=sizeLine/\(a == sysModules)=false/\∃ vs,KV kvs vs/\h.DictOf (L1 P w) a vs
 | .dT kvs=>kvs.length<=sizeLine/\(a == sysModules)=false/\∃ xs:List (List Key×Addr×Value),
   Paired (λ(p:List Key×V) (q:List Key×Addr×Value)=>p.1=q.1/\H q.2.1=some (.tup (p.1.map kV))/\J2 p.2 q.2.2) kvs xs /\
   ∃ o es ep,h.get? a=some o/\o.ExactDict/\o.data=.dict es ep/\es.toList=xs.map (entryOfKey (tupleKind (L1 P w)))/\(xs.map (·.1)).Nodup
 | .set S n=>h.SetOf (intKind P w) a S n
 | .ins C dx fs=>H dx=some (.own a)/\fs.length<=1000/\dx≠a/\h.get? a=some (dU C dx) /\
   ∃ mA,h.Ns1 dx mA/\(∀ f,a4o (fs.lookup f) (mA f))/\PySem.Within mA (fs.map (·.1))
 | .own _=>∃ o,h.get? a=some o
 | .xd fs=>∃ mA,h.Ns1 a mA/\∀ f,a4o (fs.lookup f) (mA f)
 | .rng lo hi=>∃ t u v,h.get? a=some {cls:=.type "range",data:=.fields #[.int lo t,.int hi u,.int 1 v]}
 | .frz o u=>h.get? a=some o/\L8 H h a u
 | .tbl ps=>h.get? a=some {cls:=.none,data:=.fields ps}
 | .met f x=>h.get? a=some (hV (.ref f) (.ref x))
 | .ext φ=>φ h/\(∃ o,h.get? a=some o)/\∀ h1 h2:Heap,φ h1->(∀ o,h1.get? a=some o->h2.get? a=some o)->φ h2
def HOk (H:Hp)(h:Heap):Prop:=∀ a o,H a=some o->L8 P w H h a o
end
section
variable {P:Program}{w:World}{H H':Hp}{h h':Heap}{a:Addr}{o:HO}
theorem L8.lt (x:L8 P w H h a o):a<h.objs.size:=by
 cases o with
 | lst xs=>obtain⟨_,_,_,_,e⟩:=x;exact aE e
 | tup xs=>obtain⟨_,_,_,p⟩:=x;exact p.lt
 | dK kvs=>obtain⟨_,_,_,_,o,_,_,e,_⟩:=x;exact aE e
 | dT kvs=>obtain⟨_,_,_,_,o,_,_,e,_⟩:=x;exact aE e
 | set S n=>obtain⟨o,_,_,_,e,_⟩:=x;exact aE e
 | ins C dx fs=>obtain⟨_,_,_,e,_⟩:=x;exact aE e
 | own y=>obtain⟨_,e⟩:=x;exact aE e
 | xd fs=>obtain⟨_,⟨_,_,_,e,_⟩,_⟩:=x;exact aE e
 | rng lo hi=>obtain⟨_,_,_,e⟩:=x;exact aE e
 | frz ob u=>obtain⟨e,_⟩:=x;exact aE e
 | tbl ps=>exact aE (show h.get? a=some _ from x)
 | met f y=>exact aE (show h.get? a=some _ from x)
 | ext φ=>obtain⟨_,⟨_,e⟩,_⟩:=x;exact aE e
theorem Paired.mapP {α β:Type}{F G:α->β->Prop}:∀ {lq:List α} {lz:List β},Paired F lq lz->(∀ a b,F a b->G a b)->Paired G lq lz
 | _,_,.nil,_=>.nil
 | _,_,.cons r t,f=>.cons (f _ _ r) (Paired.mapP t f)
theorem L8.stay (x:L8 P w H h a o)(k:∀ b u,(b=a\/H b=some (.own a))->h.get? b=some u->h'.get? b=some u)
  (ho:∀ b,H b=some (.own a)->H' b=some (.own a)) (ht:∀ b xs,H b=some (.tup xs)->H' b=some (.tup xs)):L8 P w H' h' a o:=by
 induction o with
 | lst xs=>obtain⟨z,its,n,r,e⟩:=x;exact⟨z,its,n,r,k _ _ (.inl rfl) e⟩
 | tup xs=>obtain⟨z,its,r,ob,e,c⟩:=x;exact⟨z,its,r,ob,k _ _ (.inl rfl) e,c⟩
 | dK kvs=>obtain⟨z,y,vs,r,ob,es,ep,e,c⟩:=x;exact⟨z,y,vs,r,ob,es,ep,k _ _ (.inl rfl) e,c⟩
 | dT kvs =>
  obtain⟨z,y,xs,r,ob,es,ep,e,c⟩:=x;exact⟨z,y,xs,Paired.mapP r λp q z=>⟨z.1,ht _ _ z.2.1,z.2.2⟩,ob,es,ep,k _ _ (.inl rfl) e,c⟩
 | set S n=>obtain⟨ob,es,ep,t,e,c⟩:=x;exact⟨ob,es,ep,t,k _ _ (.inl rfl) e,c⟩
 | ins C dx fs =>
  obtain⟨d,z,ne,e,mA,⟨od,es,ep,e2,c⟩,r⟩:=x;exact⟨ho _ d,z,ne,k _ _ (.inl rfl) e,mA,⟨od,es,ep,k _ _ (.inr d) e2,c⟩,r⟩
 | own y=>obtain⟨ob,e⟩:=x;exact⟨ob,k _ _ (.inl rfl) e⟩
 | xd fs=>obtain⟨mA,⟨od,es,ep,e,c⟩,r⟩:=x;exact⟨mA,⟨od,es,ep,k _ _ (.inl rfl) e,c⟩,r⟩
 | rng lo hi=>obtain⟨t,u,v,e⟩:=x;exact⟨t,u,v,k _ _ (.inl rfl) e⟩
 | frz ob u ih=>obtain⟨e,q⟩:=x;exact⟨k _ _ (.inl rfl) e,ih q⟩
 | tbl ps =>
  have e:h.get? a=some {cls:=.none,data:=.fields ps}:=x;show h'.get? a=some {cls:=.none,data:=.fields ps};exact k a _ (.inl rfl) e
 | met f y =>
  have e:h.get? a=some (hV (.ref f) (.ref y)):=x;show h'.get? a=some (hV (.ref f) (.ref y));exact k a _ (.inl rfl) e
 | ext φ=>obtain⟨p,⟨o,e⟩,st⟩:=x;exact⟨st _ _ p λo q=>k _ _ (.inl rfl) q,⟨o,k _ _ (.inl rfl) e⟩,st⟩
theorem HOk.lt (x:HOk P w H h)(e:H a=some o):a<h.objs.size:=(x a o e).lt
theorem HOk.fresh (x:HOk P w H h)(e:h.objs.size<=a):H a=none:=by
 cases q:H a with
 | none=>rfl
 | some u=>exact absurd (bB (x.lt q) e) (dr _)
theorem HOk.kept (x:HOk P w H h)(k:∀ b u,h.get? b=some u->h'.get? b=some u):HOk P w H h':=λa o e =>
 (x a o e).stay (λb u _ q=>k b u q) (λ_ q=>q) λ_ _ q=>q
theorem HOk.laid (x:HOk P w H h)(k:∀ b u,h.get? b=some u->h'.get? b=some u)(hp:h.objs.size<=a)(new:L8 P w (upd H a o) h' a o):HOk P w (upd H a o) h':=λb u e=>by
 have hn:=x.fresh hp;by_cases hb:b=a
 ·subst hb;rw[A3] at e;cases e;exact new
 ·rw[B3 hb] at e;exact (x b u e).stay (λc v _ q=>k c v q) (λc q=>by rw[B3 (E4 q hn)];exact q) λc xs q=>by rw[B3 (E4 q hn)];exact q
end
def Rd (H:Hp)(a:Addr)(u:HO):Prop:=H a=some u\/∃ o,H a=some (.frz o u)
theorem Rd.of {H:Hp}{a:Addr}{u:HO}(h:H a=some u):Rd H a u:=.inl h
theorem Rd.ok {P:Program}{w:World}{H:Hp}{h:Heap}{a:Addr}{u:HO}(r:Rd H a u)(x:HOk P w H h):L8 P w H h a u:=by
 rcases r with r | ⟨o,r⟩
 ·exact x a u r
 ·obtain⟨_,q⟩:=x a _ r;exact q
def Mut:Option HO->Prop
 | some (.lst _)=>True
 | some (.dK _)=>True
 | some (.dT _)=>True
 | some (.set _ _)=>True
 | some (.ins _ _ _)=>True
 | some (.ext _)=>True
 | _=>False
section
variable {P:Program}{w:World}{H:Hp}{h h':Heap}{x e:Addr}{o':HO}
theorem HOk.write (ok:HOk P w H h)(mu:Mut (H x))(he:e=x\/H e=some (.own x))(k:∀ b u,b≠e->h.get? b=some u->h'.get? b=some u)(heo:∃ u,h'.get? e=some u)
  (new:L8 P w (upd H x o') h' x o'):HOk P w (upd H x o') h':=λb u q=>by
 have nown:∀ c y,H c=some (.own y)->c≠x:=λc y r z=>by subst z;rw[r] at mu;exact mu
 have ntup:∀ c xs,H c=some (.tup xs)->c≠x:=λc xs r z=>by subst z;rw[r] at mu;exact mu
 by_cases hb:b=x
 ·subst hb;rw[A3] at q;cases q;exact new
 ·rw[B3 hb] at q;by_cases hbe:b=e
  ·have q':H b=some (.own x):=by
    rcases he with z | z
    ·exact absurd (hbe.trans z) hb
    ·rw[hbe];exact z
   rw[q] at q';cases q';obtain⟨v,hv⟩:=heo;exact⟨v,by rw[hbe];exact hv⟩
  ·refine (ok b u q).stay (λc v hc r=>k c v ?_ r) (λc r=>by rw[B3 (nown c b r)];exact r) λc xs r=>by rw[B3 (ntup c xs r)];exact r
   rcases hc with rfl | hc
   ·exact hbe
   ·rintro rfl;rcases he with z | z
    ·exact nown c b hc z
    ·rw[hc] at z;cases z;exact hb rfl
end
structure Un (fs ex:List Addr)(H H':Hp)(h h':Heap):Prop where
 keep:∀ b o,h.get? b=some o->H b=none->b∉fs->b∉ex->h'.get? b=some o
 slot:∀ b o,h.get? b=some o->H b=none->b∈fs->b∉ex->∃ sl,h'.get? b=some {o with slots:=sl}
 free:∀ b o,h.get? b=some o->H b=none->b∉ex->H' b=none
 there:∀ b o,h.get? b=some o->b∉ex->∃ o',h'.get? b=some o'
 tups:∀ b xs,H b=some (.tup xs)->H' b=some (.tup xs)
 frzs:∀ b o u,H b=some (.frz o u)->H' b=some (.frz o u)
 tbls:∀ b ps,H b=some (.tbl ps)->∃ more,H' b=some (.tbl (ps++more))
section
variable {fs fs' ex ex':List Addr}{H H1 H2:Hp}{h h1 h2 h':Heap}{a x e:Addr}{o:HO}
theorem Un.any (u:Un fs ex H H1 h h1){b:Addr}{ob:Obj}(q:h.get? b=some ob)(n:H b=none)(hx:b∉ex):∃ sl,h1.get? b=some {ob with slots:=sl}:=by
 by_cases hb:b∈fs
 ·exact u.slot b ob q n hb hx
 ·exact⟨ob.slots,u.keep b ob q n hb hx⟩
theorem Un.trans (a:Un fs ex H H1 h h1)(b:Un fs ex H1 H2 h1 h2):Un fs ex H H2 h h2 where
 keep:=λc ob q n hc hx=>b.keep c ob (a.keep c ob q n hc hx) (a.free c ob q n hx) hc hx
 slot:=λc ob q n hc hx=>by
  obtain⟨sl,e1⟩:=a.slot c ob q n hc hx;obtain⟨sl',e2⟩:=b.slot c _ e1 (a.free c ob q n hx) hc hx;exact⟨sl',e2⟩
 free:=λc ob q n hx=>by
  obtain⟨o',e1⟩:=a.there c ob q hx;exact b.free c o' e1 (a.free c ob q n hx) hx
 there:=λc ob q hx=>by
  obtain⟨o',e1⟩:=a.there c ob q hx;exact b.there c o' e1 hx
 tups:=λc xs q=>b.tups c xs (a.tups c xs q)
 frzs:=λc ob xs q=>b.frzs c ob xs (a.frzs c ob xs q)
 tbls:=λc ps q=>by
  obtain⟨m1,e1⟩:=a.tbls c ps q;obtain⟨m2,e2⟩:=b.tbls c _ e1;exact⟨m1++m2,by rw[e2,jT]⟩
theorem Un.kept (k:∀ b u,h.get? b=some u->h'.get? b=some u):Un fs ex H H h h' :=
 ⟨λb ob q _ _ _=>k b ob q,λb ob q _ _ _=>⟨ob.slots,k b ob q⟩,λ_ _ _ n _=>n,λb ob q _=>⟨ob,k b ob q⟩,λ_ _ q=>q,λ_ _ _ q=>q,λ_ ps q=>⟨#[],by rw[q];simp⟩⟩
theorem Un.refl:Un fs ex H H h h:=Un.kept λ_ _ q=>q
theorem Un.laid (k:∀ b u,h.get? b=some u->h'.get? b=some u)(hp:h.objs.size<=a)(hn:H a=none):Un fs ex H (upd H a o) h h' where
 keep:=λb u q _ _ _=>k b u q
 slot:=λb u q _ _ _=>⟨u.slots,k b u q⟩
 free:=λb u q n _=>by rw[B3 (aU (bB (aE q) hp))];exact n
 there:=λb u q _=>⟨u,k b u q⟩
 tups:=λb xs q=>by rw[B3 (E4 q hn)];exact q
 frzs:=λb u xs q=>by rw[B3 (E4 q hn)];exact q
 tbls:=λb ps q=>⟨#[],by rw[B3 (E4 q hn),q];simp⟩
theorem Un.write (mu:Mut (H x))(he:e=x\/H e=some (.own x))(k:∀ b u,b≠e->h.get? b=some u->h'.get? b=some u)(heo:∃ u,h'.get? e=some u):Un fs ex H (upd H x o) h h':=by
 have hx:∀ b,H b=none->b≠x:=λb n z=>by subst z;rw[n] at mu;exact mu
 have hb:∀ b,H b=none->b≠e:=λb n z=>by
  subst z;rcases he with r | r
  ·exact hx b n r
  ·rw[n] at r;cases r
 have hm:∀ b u,H b=some u->¬ Mut (some u)->b≠x:=λb u q nm z=>by subst z;rw[q] at mu;exact nm mu
 refine⟨λb u q n _ _=>k b u (hb b n) q,λb u q n _ _=>⟨u.slots,k b u (hb b n) q⟩,λb u q n _=>by rw[B3 (hx b n)];exact n,λb u q _=>?_,
  λb xs q=>by rw[B3 (hm b _ q λz=>z)];exact q,λb u xs q=>by rw[B3 (hm b _ q λz=>z)];exact q,λb ps q=>⟨#[],by rw[B3 (hm b _ q λz=>z),q];simp⟩⟩
 by_cases hbe:b=e
 ·subst hbe;exact heo
 ·exact⟨u,k b u hbe q⟩
theorem Un.mono (u:Un fs ex H H1 h h1)(hs:∀ b∈fs,b∈fs')(hx:∀ b∈ex,b∈ex'):Un fs' ex' H H1 h h1 :=
 ⟨λb ob q n hb he=>u.keep b ob q n (λz=>hb (hs b z)) λz=>he (hx b z),λ_ _ q n _ he=>u.any q n λz=>he (hx _ z),λb ob q n he=>u.free b ob q n λz=>he (hx b z),λb ob q he=>u.there b ob q λz=>he (hx b z),u.tups,u.frzs,u.tbls⟩
end
def trk (h:Heap)(H:Hp):List Addr:=(List.range h.objs.size).filter λa=>(H a).isSome
def a4b (h:Heap)(H:Hp):Heap:=PySem.W.hideAll h (trk h H)
theorem a7y (h:Heap)(H:Hp):(a4b h H).objs.size=h.objs.size:=PySem.W.hideAll_size _ _
theorem a8Z {h:Heap}{H:Hp}{b:Addr}{o:Obj}(e:h.get? b=some o)(n:H b=none):(a4b h H).get? b=some o :=
 PySem.W.hideAll_get _ e λhm=>by
  have q:(H b).isSome=true:=(aS.mp hm).2;rw[n] at q;simp at q
theorem b0f {h:Heap}{H:Hp}{b:Addr}{o:Obj}(e:(a4b h H).get? b=some o):h.get? b=some o/\H b=none:=by
 have e':h.get? b=some o:=PySem.W.of_hideAll (trk h H) e;refine⟨e',?_⟩;cases q:H b with
 | none=>rfl
 | some x =>
  have hm:b∈trk h H:=aS.mpr ⟨bh.mpr (aE e'),by simp[q]⟩;have z:(a4b h H).get? b=none:=PySem.W.hideAll_none (trk h H) hm;rw[z] at e;cases e
def b0W (g h:Heap)(L:Addr):List (Addr×Obj):=(List.range h.objs.size).filterMap λa=>if a=L\/(g.get? a).isSome=true then none else (h.get? a).map λo=>(a,o)
def T8 (g h:Heap)(L d:Addr):List (Addr×Obj):=(b0W g h L).filter λp=>decide (p.1≠d)
end L2
namespace L2
open PySem PySem.Spec PyProof.Rows
structure Mod (K:ah)(mg:Str->Option Value)(base:Heap):Prop where
 kin:K.In base
 glob:base.Ns mainGlobals mg
 blt:∃ mb,base.Ns builtinsNs mb/\∀ x:Str,x≠"__name__"->mb x=bootBuiltins x
 nolimit:base.NoLimit
structure Cx where
 prog:Program
 w:World
 K:ah
 mg:Str->Option Value
 base:Heap
 A:Around
 N:List Str
 sj:Shared
 Hz:Hp
 env:Env
 outer:List Env
 stack:List Env
 ex:List Addr
 fn:Str->Bool
 calm:Bool
 pn:List (Addr×Obj)
 xe:Value->Shared->Prop
def frs (l:List Env):List Addr:=l.filterMap (·.frame)
abbrev Cx.fs (X:Cx):List Addr:=frs X.outer
def Vis (sc:Scope)(x:Str):Prop:=sc.names.lookup x=some .local\/sc.names.lookup x=some .cell\/sc.names.lookup x=some .free
def Loc (sc:Scope)(x:Str):Prop:=sc.names.lookup x=some .local\/sc.names.lookup x=some .cell
def b4X (env:Env)(h:Heap)(m:Str->Option Value)(x:Str)(u:Value):Prop :=
 (env.kindOf x=some .local/\m x=some u)\/((env.kindOf x=some .cell\/env.kindOf x=some .free)/\∃ c,env.cells.lookup x=some c/\h.IsCell c (some u))
structure Cx.Ok (X:Cx):Prop where
 mod:Mod X.K X.mg X.base
 kind:X.env.scope.kind=.function
 glob:X.env.globals=mainGlobals
 blt:X.env.builtins=builtinsNs
 above:X.sj.heap.objs.size<=X.env.locals
 inj:∀ x y c,X.env.cells.lookup x=some c->X.env.cells.lookup y=some c->x=y
 has:∀ x,(X.env.kindOf x=some .cell\/X.env.kindOf x=some .free)->∃ c,X.env.cells.lookup x=some c
 cab:∀ x c,X.fn x=true->X.env.cells.lookup x=some c->X.sj.heap.objs.size<=c
 hd:X.calm=true->X.A.handled=none
 frames:X.A.frames=some X.stack
 stk:X.stack=X.outer\/(X.stack=X.env::X.outer/\X.env.frame=some X.env.locals)
 exf:∀ b∈X.ex,b≠X.env.locals/\∀ x c,X.env.cells.lookup x=some c->c≠b
 bs:∀ b o,X.base.get? b=some o->X.sj.heap.get? b=some o/\X.Hz b=none
 bsz:X.base.objs.size<=X.sj.heap.objs.size
 noex:∀ b o,X.base.get? b=some o->b∉X.ex
 exfs:∀ b∈X.ex,b∉X.fs
 funs:X.sj.heap.FunFrames X.base X.outer
 frf:∀ b∈X.fs,X.Hz b=none
structure Inv (X:Cx)(pins:List (Addr×Obj))(σ:List (Option V))(H:Hp)(s:Shared):Prop where
 ok:X.Ok
 os:s.os=X.sj.os
 bare:AllBare s.gens
 base:Un X.fs X.ex X.Hz H X.sj.heap s.heap
 loc:∃ m,s.heap.Ns X.env.locals m/\∀(i:Nat) (x:Str) (v:V),X.N[i]?=some x->σ[i]?=some (some v)->Vis X.env.scope x->∃ u,J2 v u/\b4X X.env s.heap m x u
 cell:∀ x c,X.env.cells.lookup x=some c->∃ v,s.heap.IsCell c v
 free:H X.env.locals=none
 freeC:∀ x c,X.env.cells.lookup x=some c->H c=none
 pin:∀ p∈X.pn++pins,s.heap.get? p.1=some p.2/\H p.1=none/\p.1≠X.env.locals/\p.1∉X.fs/\∀ v,p.2.data≠.cell v
 hok:HOk X.prog X.w H s.heap
 len:σ.length=X.N.length
section
variable {X:Cx}{pins:List (Addr×Obj)}{σ:List (Option V)}{H H':Hp}{s:Shared}{h':Heap}
theorem Cx.Ok.nofr (ok:X.Ok){b:Addr}{o:Obj}(e:X.base.get? b=some o):b∉X.fs:=λhb=>by
 have:=(ok.funs.mem hb).1;rw[e] at this;cases this
theorem Inv.bs (I:Inv X pins σ H s):∀ b o,X.base.get? b=some o->s.heap.get? b=some o/\H b=none:=λb o e =>
 ⟨I.base.keep b o (I.ok.bs b o e).1 (I.ok.bs b o e).2 (I.ok.nofr e) (I.ok.noex b o e),I.base.free b o (I.ok.bs b o e).1 (I.ok.bs b o e).2 (I.ok.noex b o e)⟩
theorem Inv.bk (I:Inv X pins σ H s):∀ b o,X.base.get? b=some o->s.heap.get? b=some o:=λb o e=>(I.bs b o e).1
theorem Inv.mod (I:Inv X pins σ H s):Mod X.K X.mg X.base:=I.ok.mod
theorem Inv.kIn (I:Inv X pins σ H s):X.K.In s.heap:=I.ok.mod.kin.keeps I.bk
theorem Inv.nolimit (I:Inv X pins σ H s):s.heap.NoLimit:=I.ok.mod.nolimit.keeps I.bk
theorem Inv.lt (I:Inv X pins σ H s):X.env.locals<s.heap.objs.size:=let ⟨_,hn,_⟩:=I.loc;hn.lt
theorem Inv.sz (I:Inv X pins σ H s):X.sj.heap.objs.size<=s.heap.objs.size:=bH I.ok.above (dv I.lt)
theorem Inv.nofs (I:Inv X pins σ H s){a:Addr}(h:s.heap.objs.size<=a):a∉X.fs:=λhb=>by
 obtain⟨_,o,ho,_⟩:=I.ok.funs.mem hb;exact absurd (bB (aE ho) (bH I.sz h)) (dr _)
theorem Inv.cne (I:Inv X pins σ H s):∀ x c,X.env.cells.lookup x=some c->c≠X.env.locals:=λx c e z=>by
 obtain⟨v,o,ho,hd⟩:=I.cell x c e;obtain⟨m,⟨o',es,ep,ho',hd',_⟩,_⟩:=I.loc;rw[z,ho'] at ho;cases ho;rw[hd'] at hd;cases hd
theorem Inv.funs (I:Inv X pins σ H s):s.heap.FunFrames X.base X.outer:=by
 have all:∀(l:List Env),(∀ b∈frs l,b∈X.fs)->X.sj.heap.FunFrames X.base l->s.heap.FunFrames X.base l:=by
  intro l;induction l with
  | nil=>intro _ _;trivial
  | cons env r ih =>
   intro hs hl;obtain⟨hk,⟨L,o,hf,hn,ho,hd⟩,hr⟩:=hl;have hL:L∈X.fs:=hs L (by unfold frs;rw[dM,hf];exact aM);obtain⟨sl,e⟩:=I.base.slot L o ho (I.ok.frf L hL) hL λz=>I.ok.exfs L z hL
   exact⟨hk,⟨L,_,hf,hn,e,hd⟩,ih (λb hb=>hs b (by unfold frs;rw[dM,hf];exact aI _ hb)) hr⟩
 exact all X.outer (λ_ hb=>hb) I.ok.funs
theorem Inv.stack (I:Inv X pins σ H s):s.heap.FunFrames X.base X.stack:=by
 rcases I.ok.stk with e | ⟨e,hf⟩
 ·rw[e];exact I.funs
 ·rw[e];obtain⟨m,hn,_⟩:=I.loc;refine .cons (by rw[I.ok.kind];decide) hf hn ?_ I.funs;exact Heap.get?_none_of_le (bH I.ok.bsz I.ok.above)
theorem Inv.stkSub (I:Inv X pins σ H s):∀ b∈frs X.stack,b∈X.env.locals::X.fs:=λb hb=>by
 rcases I.ok.stk with e | ⟨e,hf⟩
 ·rw[e] at hb;exact aI _ hb
 ·rw[e] at hb;unfold frs at hb;rw[dM,hf] at hb;exact hb
theorem Inv.stkFree (I:Inv X pins σ H s):∀ b∈frs X.stack,H b=none:=λb hb=>by
 rcases aJ.mp (I.stkSub b hb) with e | hb
 ·rw[e];exact I.free
 ·obtain⟨_,o,ho,_⟩:=I.ok.funs.mem hb;exact I.base.free b o ho (I.ok.frf b hb) λz=>I.ok.exfs b z hb
theorem Inv.step {g':Array GenState}{t':Nat}{d':Drawn}{ch:List Addr}(I:Inv X pins σ H s)
  (hch:∀ b∈ch,(b∈X.ex\/X.sj.heap.objs.size<=b)/\b≠X.env.locals/\(∀ x c,X.env.cells.lookup x=some c->c≠b)/\∀ p∈X.pn++pins,p.1≠b)
  (keep:∀ b o,b≠X.env.locals->b∉X.fs->b∉ch->s.heap.get? b=some o->H b=none->h'.get? b=some o)
  (slot:∀ b o,b≠X.env.locals->b∈X.fs->b∉ch->s.heap.get? b=some o->H b=none->∃ sl,h'.get? b=some {o with slots:=sl}) (free:∀ b o,b∉ch->s.heap.get? b=some o->H b=none->H' b=none)
  (there:∀ b o,b∉ch->s.heap.get? b=some o->∃ o',h'.get? b=some o')
  (tups:∀ b xs,H b=some (.tup xs)->H' b=some (.tup xs)) (frzs:∀ b o u,H b=some (.frz o u)->H' b=some (.frz o u)) (tbls:∀ b ps,H b=some (.tbl ps)->∃ more,H' b=some (.tbl (ps++more)))
  (ns:∀ m,s.heap.Ns X.env.locals m->h'.Ns X.env.locals m) (hok:HOk X.prog X.w H' h') (hg:AllBare g') :
  Inv X pins σ H' {s with heap:=h',gens:=g',drawn:=d',toks:=t'}:=by
 have neL:∀ b o,X.sj.heap.get? b=some o->b≠X.env.locals:=λb o e=>aU (bB (aE e) I.ok.above)
 have neC:∀ b o,X.sj.heap.get? b=some o->b∉X.ex->b∉ch:=λb o e hx hb=>by
  rcases (hch b hb).1 with z | z
  ·exact hx z
  ·exact absurd (bB (aE e) z) (dr _)
 have cellK:∀ x c,X.env.cells.lookup x=some c->∀ v,s.heap.IsCell c v->h'.IsCell c v:=λx c e v ⟨o,ho,hd⟩=>by
  have nch:c∉ch:=λz=>(hch c z).2.2.1 x c e rfl
  by_cases hc:c∈X.fs
  ·obtain⟨sl,q⟩:=slot c o (I.cne x c e) hc nch ho (I.freeC x c e);exact⟨_,q,hd⟩
  ·exact⟨o,keep c o (I.cne x c e) hc nch ho (I.freeC x c e),hd⟩
 refine⟨I.ok,I.os,hg,⟨λb o e n hb hx=>?_,λb o e n hb hx=>?_,λb o e n hx=>?_,λb o e hx=>?_,λb xs e=>tups b xs (I.base.tups b xs e),λb o xs e=>frzs b o xs (I.base.frzs b o xs e),λb ps e=>?_⟩,?_,λx c e=>?_,?_,λx c e=>?_,λp hp=>?_,hok,I.len⟩
 ·exact keep b o (neL b o e) hb (neC b o e hx) (I.base.keep b o e n hb hx) (I.base.free b o e n hx)
 ·obtain⟨sl,e1⟩:=I.base.slot b o e n hb hx;obtain⟨sl',e2⟩:=slot b _ (neL b o e) hb (neC b o e hx) e1 (I.base.free b o e n hx);exact⟨sl',e2⟩
 ·obtain⟨o',e1⟩:=I.base.there b o e hx;exact free b o' (neC b o e hx) e1 (I.base.free b o e n hx)
 ·obtain⟨o',e1⟩:=I.base.there b o e hx;exact there b o' (neC b o e hx) e1
 ·obtain⟨m1,e1⟩:=I.base.tbls b ps e;obtain⟨m2,e2⟩:=tbls b _ e1;exact⟨m1++m2,by rw[e2,jT]⟩
 ·obtain⟨m,hn,hl⟩:=I.loc;refine⟨m,ns m hn,λi x v e1 e2 e3=>?_⟩;obtain⟨u,r,l⟩:=hl i x v e1 e2 e3;refine⟨u,r,?_⟩;rcases l with l | ⟨k,c,e,z⟩
  ·exact .inl l
  ·exact .inr ⟨k,c,e,cellK x c e _ z⟩
 ·obtain⟨v,z⟩:=I.cell x c e;exact⟨v,cellK x c e v z⟩
 ·obtain⟨m,⟨o,_,_,ho,_⟩,_⟩:=I.loc;exact free _ o (λz=>(hch _ z).2.1 rfl) ho I.free
 ·obtain⟨v,o,ho,hd⟩:=I.cell x c e;exact free c o (λz=>(hch c z).2.2.1 x c e rfl) ho (I.freeC x c e)
 ·obtain⟨e,n,ne,nf,d⟩:=I.pin p hp;have nch:p.1∉ch:=λz=>(hch p.1 z).2.2.2 p hp rfl
  exact⟨keep p.1 p.2 ne nf nch e n,free p.1 p.2 nch e n,ne,nf,d⟩
theorem Inv.un {t':Nat}(I:Inv X pins σ H s)(u:Un X.fs [] H H' s.heap h')(hok:HOk X.prog X.w H' h'):Inv X pins σ H' {s with heap:=h',toks:=t'}:=by
 obtain⟨m,⟨o,es,ep,ho,r⟩,_⟩:=id I.loc;obtain⟨sl,hL⟩:=u.any ho I.free (by simp)
 exact I.step (g':=s.gens) (d':=s.drawn) (ch:=[]) (λ_ z=>nomatch z) (λb o _ hb _ e n=>u.keep b o e n hb (by simp)) (λb o _ hb _ e n=>u.slot b o e n hb (by simp)) (λb o _ e n=>u.free b o e n (by simp)) (λb o _ e=>u.there b o e (by simp)) u.tups u.frzs u.tbls (λm' hm=>by
  obtain⟨o',es',ep',ho',r'⟩:=hm;rw[ho] at ho';cases ho'
  exact⟨_,es',ep',hL,r'⟩) hok I.bare
theorem Inv.call {g':Array GenState}{t':Nat}{d':Drawn}{ch:List Addr}(I:Inv X pins σ H s)(u:Un (frs X.stack) ch H H' s.heap h')(hok:HOk X.prog X.w H' h')(hg:AllBare g')
  (hch:∀ b∈ch,(b∈X.ex\/X.sj.heap.objs.size<=b)/\b≠X.env.locals/\(∀ x c,X.env.cells.lookup x=some c->c≠b)/\∀ p∈X.pn++pins,p.1≠b) :
  Inv X pins σ H' {s with heap:=h',gens:=g',drawn:=d',toks:=t'}:=by
 obtain⟨m,⟨o,es,ep,ho,r⟩,_⟩:=id I.loc;obtain⟨sl,hL⟩:=u.any ho I.free λz=>(hch _ z).2.1 rfl
 exact I.step (ch:=ch) hch (λb o hL hb hc e n=>u.keep b o e n (λz=>(aJ.mp (I.stkSub b z)).elim hL hb) hc) (λb o _ _ hc e n=>u.any e n hc) (λb o hc e n=>u.free b o e n hc) (λb o hc e=>u.there b o e hc) u.tups u.frzs u.tbls (λm' hm=>by
  obtain⟨o',es',ep',ho',r'⟩:=hm;rw[ho] at ho';cases ho'
  exact⟨_,es',ep',hL,r'⟩) hok hg
theorem Inv.turned {t':Nat}{it:Addr}(I:Inv X pins σ H s)(k:∀ b o,b≠it->s.heap.get? b=some o->h'.get? b=some o)(hn:H it=none)(hL:it≠X.env.locals)
  (h1:it∈X.ex\/X.sj.heap.objs.size<=it) (h2:∀ x c,X.env.cells.lookup x=some c->c≠it) (h3:∀ p∈X.pn++pins,p.1≠it):Inv X pins σ H {s with heap:=h',toks:=t'}:=by
 have nit:∀ b u,H b=some u->b≠it:=λb u e z=>by rw[z,hn] at e;cases e
 refine I.step (g':=s.gens) (d':=s.drawn) (ch:=[it]) (λb hb=>?_) (λb o _ _ hc e _=>k b o (λz=>hc (by simp[z])) e) (λb o _ _ hc e _=>⟨o.slots,k b o (λz=>hc (by simp[z])) e⟩) (λ_ _ _ _ n=>n)
  (λb o hc e=>⟨o,k b o (λz=>hc (by simp[z])) e⟩) (λ_ _ e=>e) (λ_ _ _ e=>e) (λb ps e=>⟨#[],by rw[e];simp⟩) (λm hm=>?_) (λb u e=>?_) I.bare
 ·have e:b=it:= ~~~hb
  subst e;exact⟨h1,hL,h2,h3⟩
 ·obtain⟨o,es,ep,ho,r⟩:=hm;exact⟨o,es,ep,k _ o (dZ hL) ho,r⟩
 ·refine (I.hok b u e).stay (λc v hc q=>k c v ?_ q) (λ_ q=>q) λ_ _ q=>q
  rcases hc with z | z
  ·rw[z];exact nit b u e
  ·exact nit c _ z
theorem Inv.tok (I:Inv X pins σ H s)(t:Nat):Inv X pins σ H {s with toks:=t}:=I.un (h':=s.heap) (t':=t) Un.refl I.hok
theorem Inv.kept {t':Nat}(I:Inv X pins σ H s)(k:∀ b u,s.heap.get? b=some u->h'.get? b=some u):Inv X pins σ H {s with heap:=h',toks:=t'}:=I.un (Un.kept k) (I.hok.kept k)
theorem Inv.laid {a:Addr}{o:HO}{t':Nat}(I:Inv X pins σ H s)(k:∀ b u,s.heap.get? b=some u->h'.get? b=some u)(hp:s.heap.objs.size<=a)(new:L8 X.prog X.w (upd H a o) h' a o) :
  Inv X pins σ (upd H a o) {s with heap:=h',toks:=t'}:=I.un (Un.laid k hp (I.hok.fresh hp)) (I.hok.laid k hp new)
theorem Inv.write {x e:Addr}{o:HO}{t':Nat}(I:Inv X pins σ H s)(mu:Mut (H x))(he:e=x\/H e=some (.own x))(k:∀ b u,b≠e->s.heap.get? b=some u->h'.get? b=some u)(heo:∃ u,h'.get? e=some u)
  (new:L8 X.prog X.w (upd H x o) h' x o):Inv X pins σ (upd H x o) {s with heap:=h',toks:=t'}:=I.un (Un.write mu he k heo) (I.hok.write mu he k heo new)
theorem Inv.pins_of {pins':List (Addr×Obj)}(I:Inv X pins σ H s)(h:∀ p∈pins',s.heap.get? p.1=some p.2/\H p.1=none/\p.1≠X.env.locals/\p.1∉X.fs/\∀ v,p.2.data≠.cell v):Inv X pins' σ H s :=
 ⟨I.ok,I.os,I.bare,I.base,I.loc,I.cell,I.free,I.freeC,λp hp=>(aj.mp hp).elim (λz=>I.pin p (aL _ z)) (h p),I.hok,I.len⟩
theorem a4Y {N:List Str}(hN:N.Nodup){i j:Nat}{x:Str}(a:N[i]?=some x)(b:N[j]?=some x):i=j:=by
 obtain⟨h1,e1⟩:=aq.mp a;obtain⟨h2,e2⟩:=aq.mp b;exact (List.getElem_inj hN).mp (e1.trans e2.symm)
theorem a2M {M:Model}{A:Around}{E:Value->Shared->Prop}{i:Nat}{x:Str}{v:V}{u:Value}{Q:Unit->Shared->Prop}(I:Inv X pins σ H s)(hN:X.N.Nodup)(hi:X.N[i]?=some x)(hx:Loc X.env.scope x)(r:J2 v u)
  (h:∀ s',Inv X pins (σ.set i (some v)) H s'->(∃ a,cj a s.heap s'.heap/\(a=X.env.locals\/X.env.cells.lookup x=some a))->Q () s') (hf:X.fn x=true\/X.env.scope.names.lookup x=some .local:=by first | exact .inl rfl | exact .inr rfl | assumption):wpAny M A (storeName X.env x u) Q E s:=by
 obtain⟨m,hn,hl⟩:=id I.loc;have hcls:(X.env.scope.kind == .class || (X.env.scope.kind == .module && X.env.locals != X.env.globals))=false:=by rw[I.ok.kind];rfl
 have hiσ:i<σ.length:=by rw[I.len];exact (aq.mp hi).1
 have cne:=I.cne;have tracked:∀ {a:Addr} {h':Heap},(∃ o,s.heap.get? a=some o/\H a=none)->cj a s.heap h'->HOk X.prog X.w H h':=λ{a h'} ha hs b ob e=>by
  obtain⟨_,_,hfree⟩:=ha;refine (I.hok b ob e).stay (λc w' hc q=>(hs.2 c ?_).trans q) (λ_ q=>q) λ_ _ q=>q
  rintro rfl;rcases hc with rfl | hc
  ·rw[hfree] at e;cases e
  ·rw[hfree] at hc;cases hc
 rcases hx with hk | hk
 ·refine wpAny_storeName_local hk hn (λh' hn' hs=>?_) hcls;obtain⟨oL,_,_,hoL,_⟩:=id hn;refine h _ ⟨I.ok,I.os,I.bare,⟨λb o e n hb hx=>?_,λb o e n hb hx=>?_,I.base.free,λb o e hx=>?_,I.base.tups,I.base.frzs,I.base.tbls⟩,⟨_,hn',λj y v' e1 e2 e3=>?_⟩,λy c e=>?_,I.free,I.freeC,λp hp=>?_,tracked ⟨oL,hoL,I.free⟩ hs, ~~~I.len⟩ ⟨_,hs,.inl rfl⟩
  ·exact (hs.2 b (aU (bB (aE e) I.ok.above))).trans (I.base.keep b o e n hb hx)
  ·obtain⟨sl,e1⟩:=I.base.slot b o e n hb hx;exact⟨sl,(hs.2 b (aU (bB (aE e) I.ok.above))).trans e1⟩
  ·obtain⟨o',e1⟩:=I.base.there b o e hx;exact⟨o',(hs.2 b (aU (bB (aE e) I.ok.above))).trans e1⟩
  ·by_cases hj:j=i
   ·subst hj;rw[hi] at e1;cases e1;rw[cT hiσ] at e2;cases e2;exact⟨u,r,.inl ⟨hk,by simp⟩⟩
   ·rw[dh (dZ hj)] at e2;obtain⟨u',r',q⟩:=hl j y v' e1 e2 e3;refine⟨u',r',?_⟩;rcases q with ⟨k,e⟩ | ⟨k,c,e,z⟩
    ·refine .inl ⟨k,?_⟩;have:y≠x:=λe=>hj (a4Y hN e1 (e ▸ hi))
     simp[this,e]
    ·exact .inr ⟨k,c,e,z.sameBut hs (cne y c e)⟩
  ·obtain⟨w',z⟩:=I.cell y c e;exact⟨w',z.sameBut hs (cne y c e)⟩
  ·obtain⟨e,n,ne,nf,d⟩:=I.pin p hp;exact⟨(hs.2 p.1 ne).trans e,n,ne,nf,d⟩
 ·have hfn:X.fn x=true:=by
   rcases hf with z | z
   ·exact z
   ·rw[z] at hk;cases hk
  obtain⟨c,hc⟩:=I.ok.has x (.inl hk);obtain⟨w',z⟩:=I.cell x c hc;refine wpAny_storeName_cell I.ok.kind hk hc z (λh' hc' hs=>?_);obtain⟨oc,hoc,hocd⟩:=id z;refine h {s with heap:=h'} ⟨I.ok,I.os,I.bare,⟨λb o e n hb hx=>?_,λb o e n hb hx=>?_,I.base.free,λb o e hx=>?_,I.base.tups,I.base.frzs,I.base.tbls⟩,⟨m,hn.sameBut hs (dZ (cne x c hc)),λj y v' e1 e2 e3=>?_⟩,λy c' e=>?_,I.free,I.freeC,λp hp=>?_,tracked ⟨oc,hoc,I.freeC x c hc⟩ hs, ~~~I.len⟩ ⟨c,hs,.inr hc⟩
  ·exact (hs.2 b (aU (bB (aE e) (I.ok.cab x c hfn hc)))).trans (I.base.keep b o e n hb hx)
  ·obtain⟨sl,e1⟩:=I.base.slot b o e n hb hx;exact⟨sl,(hs.2 b (aU (bB (aE e) (I.ok.cab x c hfn hc)))).trans e1⟩
  ·obtain⟨o',e1⟩:=I.base.there b o e hx;exact⟨o',(hs.2 b (aU (bB (aE e) (I.ok.cab x c hfn hc)))).trans e1⟩
  ·by_cases hj:j=i
   ·subst hj;rw[hi] at e1;cases e1;rw[cT hiσ] at e2;cases e2;exact⟨u,r,.inr ⟨.inl hk,c,hc,hc'⟩⟩
   ·rw[dh (dZ hj)] at e2;obtain⟨u',r',q⟩:=hl j y v' e1 e2 e3;refine⟨u',r',?_⟩;rcases q with q | ⟨k,c',e,z'⟩
    ·exact .inl q
    ·refine .inr ⟨k,c',e,z'.sameBut hs ?_⟩;rintro rfl;exact hj (a4Y hN e1 (I.ok.inj _ _ _ e hc ▸ hi))
  ·by_cases hcc:c'=c
   ·subst hcc;exact⟨_,hc'⟩
   ·obtain⟨w2,z2⟩:=I.cell y c' e;exact⟨w2,z2.sameBut hs hcc⟩
  ·obtain⟨e,n,ne,nf,d⟩:=I.pin p hp;refine⟨(hs.2 p.1 ?_).trans e,n,ne,nf,d⟩;intro q;rw[q,hoc] at e;have q':oc=p.2:=aP e;exact d w' (by rw[<- q'];exact hocd)
theorem a4x {M:Model}{A:Around}{E:Value->Shared->Prop}{i:Nat}{x:Str}{v:V}{u:Value}{Q:Unit->Shared->Prop}(I:Inv X pins σ H s)(hN:X.N.Nodup)(hi:X.N[i]?=some x)(hx:Loc X.env.scope x)(r:J2 v u)
  (h:∀ s',Inv X pins (σ.set i (some v)) H s'->Q () s') (hf:X.fn x=true\/X.env.scope.names.lookup x=some .local:=by first | exact .inl rfl | exact .inr rfl | assumption):wpAny M A (storeName X.env x u) Q E s :=
 a2M I hN hi hx r (λs' I' _=>h s' I') hf
theorem Inv.call' {s':Shared}{ch:List Addr}(I:Inv X pins σ H s)(ho:s'.os=s.os)(u:Un (frs X.stack) ch H H' s.heap s'.heap)(hok:HOk X.prog X.w H' s'.heap)(hg:AllBare s'.gens)
  (hch:∀ b∈ch,(b∈X.ex\/X.sj.heap.objs.size<=b)/\b≠X.env.locals/\(∀ x c,X.env.cells.lookup x=some c->c≠b)/\∀ p∈X.pn++pins,p.1≠b):Inv X pins σ H' s':=by
 obtain⟨h',g',d',t',o'⟩:=s';have e:o'=s.os:=ho;subst e;exact I.call (g':=g') (t':=t') (d':=d') u hok hg hch
end
abbrev XK:=Value->Option Addr->Hp->Prop
abbrev St:=List (Option V)
abbrev VK:=V->Hp->Prop
abbrev TE:=St->Hp->VK->Prop
abbrev TT:=St->Hp->(Bool->Hp->Prop)->Prop
abbrev TA:=St->Hp->(List V->Hp->Prop)->Prop
structure U3 where
 nx:St->Hp->Prop
 rt:VK
 bk:St->Hp->Prop:=λ_ _=>False
 ct:St->Hp->Prop:=λ_ _=>False
abbrev TS:=U3->St->Hp->Prop
def EP (X:Cx)(pins:List (Addr×Obj))(σ:St)(Q:VK)(u:Value)(s':Shared):Prop:=∃ v H',Inv X pins σ H' s'/\J2 v u/\Q v H'
def TP (X:Cx)(pins:List (Addr×Obj))(σ:St)(Q:Bool->Hp->Prop)(b:Bool)(s':Shared):Prop:=∃ H',Inv X pins σ H' s'/\Q b H'
def AP (X:Cx)(pins:List (Addr×Obj))(σ:St)(Q:List V->Hp->Prop)(us:List Value)(s':Shared):Prop:=∃ vs H',Inv X pins σ H' s'/\E2 vs us/\Q vs H'
def SP (X:Cx)(pins:List (Addr×Obj))(D:U3)(f:Flow)(s':Shared):Prop :=
 match f with
 | .next=>∃ σ' H',Inv X pins σ' H' s'/\D.nx σ' H'
 | .brk=>∃ σ' H',Inv X pins σ' H' s'/\D.bk σ' H'
 | .cont=>∃ σ' H',Inv X pins σ' H' s'/\D.ct σ' H'
 | .ret u=>∃ v σ' H',Inv X pins σ' H' s'/\J2 v u/\D.rt v H'
def PE (X:Cx)(e:Expr)(t:TE):Prop :=
 ∀(pins:List (Addr×Obj)) (s:Shared) (σ:St) (H:Hp) (Q:VK),Inv X pins σ H s->t σ H Q->wpAny (model X.prog X.w) X.A (eval e X.env) (EP X pins σ Q) X.xe s
def PT (X:Cx)(e:Expr)(t:TT):Prop :=
 ∀(pins:List (Addr×Obj)) (s:Shared) (σ:St) (H:Hp) (Q:Bool->Hp->Prop),Inv X pins σ H s->t σ H Q->wpAny (model X.prog X.w) X.A (isTrue e X.env (eval e X.env)) (TP X pins σ Q) X.xe s
def PW (X:Cx)(e:Expr)(t:TT):Prop :=
 ∀(whole:Sem Value) (pins:List (Addr×Obj)) (s:Shared) (σ:St) (H:Hp) (Q:Bool->Hp->Prop),Inv X pins σ H s->t σ H Q->wpAny (model X.prog X.w) X.A (isTrue e X.env whole) (TP X pins σ Q) X.xe s
theorem PW.pt {X:Cx}{e:Expr}{t:TT}(h:PW X e t):PT X e t:=h _
def PA (X:Cx)(es:List Expr)(t:TA):Prop :=
 ∀(pos:Pos) (pins:List (Addr×Obj)) (s:Shared) (σ:St) (H:Hp) (Q:List V->Hp->Prop),Inv X pins σ H s->t σ H Q->wpAny (model X.prog X.w) X.A (spliced (backTo pos (starEach es X.env))) (AP X pins σ Q) X.xe s
def PS (X:Cx)(st:Stmt)(t:TS):Prop :=
 ∀(pins:List (Addr×Obj)) (s:Shared) (σ:St) (H:Hp) (D:U3),Inv X pins σ H s->t D σ H->wpAny (model X.prog X.w) X.A (exec st X.env) (SP X pins D) X.xe s
def PSs (X:Cx)(st:List Stmt)(t:TS):Prop :=
 ∀(pins:List (Addr×Obj)) (s:Shared) (σ:St) (H:Hp) (D:U3),Inv X pins σ H s->t D σ H->wpAny (model X.prog X.w) X.A (execs st X.env) (SP X pins D) X.xe s
theorem thn {α:Type}{t:Sem α}{Q Q':α->Shared->Prop}{M:Model}{A:Around}{E:Value->Shared->Prop}{s:Shared}(h:wpAny M A t Q E s)(hQ:∀ a s,Q a s->Q' a s):wpAny M A t Q' E s:=cH h hQ λ_ _ x=>x
end L2
namespace L2
open PySem PySem.Spec PyProof.Rows
section
variable {X:Cx}
theorem bin {a b:Expr}{ta tb:TE}(ha:PE X a ta)(hb:PE X b tb){pins:List (Addr×Obj)}{s:Shared}{σ:St}{H:Hp}{R:V->V->Hp->Prop}(I:Inv X pins σ H s)(h:ta σ H λx H1=>tb σ H1 λy H2=>R x y H2)
  {α:Type} {Q:α->Shared->Prop} {f:Value->Value->Sem α}
  (hf:∀ v u s2 x y H2,Inv X pins σ H2 s2->J2 x v->J2 y u->R x y H2->wpAny (model X.prog X.w) X.A (f v u) Q X.xe s2) :
  wpAny (model X.prog X.w) X.A (eval a X.env) (λv ss=>wpAny (model X.prog X.w) X.A (eval b X.env) (λu sk=>wpAny (model X.prog X.w) X.A (f v u) Q X.xe sk) X.xe ss) X.xe s:=by
 refine thn (ha pins s σ H _ I h) λv s1 ⟨x,H1,I1,r1,q1⟩=>?_
 refine thn (hb pins s1 σ H1 _ I1 q1) λu s2 ⟨y,H2,I2,r2,q2⟩=>?_
 exact hf v u s2 x y H2 I2 r1 r2 q2
def W7 (i:Nat):TE:=fun σ H Q=>∃ v,σ[i]?=some (some v)/\Q v H
def tC (v:V):TE:=λ_ H Q=>Q v H
theorem b2b {i:Nat}{x:Str}{pos:Pos}(hN:X.N[i]?=some x)(hv:Vis X.env.scope x)(hd:(x == ("__debug__":Str))=false:=by decide)(hcd:(x == ("__classdict__":Str))=false:=by decide):PE X (.Name x pos) (W7 i):=by
 intro pins s σ H Q I h;obtain⟨v,e,h⟩:=h;obtain⟨m,hn,hl⟩:=I.loc;obtain⟨u,r,l⟩:=hl i x v hN e hv;have fin:EP X pins σ Q u s:=⟨v,H,I,r,h⟩
 rcases l with ⟨hk,hm⟩ | ⟨hk,c,hc,hcell⟩
 ·exact kr (wpAny_loadName_local I.ok.kind hk hn hm fin) hd
 ·rcases hk with hk | hk
  ·exact kr (wpAny_loadName_cell I.ok.kind hk hc hcell fin) hd
  ·exact kr (wpAny_loadName_free I.ok.kind hk hc hcell fin hcd) hd
theorem A4 {i j pos}:PE X (.Constant (.int i) j pos) (tC (.int i)):=λ_ _ _ H _ I h=>wpAny_Constant_int ⟨.int i,H,I.tok _,⟨_,rfl⟩,h⟩
theorem T3 {b j pos}:PE X (.Constant (.bool b) j pos) (tC (.bl b)):=λ_ _ _ H _ I h=>Constant_bool ⟨.bl b,H,I,rfl,h⟩
theorem a5C {j pos}:PE X (.Constant .none j pos) (tC .non):=λ_ _ _ H _ I h=>Constant_none ⟨.non,H,I,rfl,h⟩
theorem Q5 {x j pos}:PE X (.Constant (.str x) j pos) (tC (.str x)):=λ_ _ _ H _ I h=>Calls.Constant_str ⟨.str x,H,I.tok _,⟨_,rfl⟩,h⟩
def Gl (X:Cx)(x:Str):Prop:=X.env.kindOf x=some .globalImplicit
theorem b0n {E:Value->Shared->Prop}{pins:List (Addr×Obj)}{s:Shared}{σ:St}{H:Hp}{x:Str}{u:Value}{pos:Pos}{Q:Value->Shared->Prop}(I:Inv X pins σ H s)(hg:Gl X x)(hm:X.mg x=some u)(h:Q u s)
  (hd:(x == ("__debug__":Str))=false:=by decide):wpAny (model X.prog X.w) X.A (eval (.Name x pos) X.env) Q E s :=
 iO I.ok.kind hg (Calls.loadGlobal_global (by rw[I.ok.glob];exact I.mod.glob.keeps I.bk) hm h) hd
theorem S9 {E:Value->Shared->Prop}{pins:List (Addr×Obj)}{s:Shared}{σ:St}{H:Hp}{x:Str}{u:Value}{pos:Pos}{Q:Value->Shared->Prop}(I:Inv X pins σ H s)(hg:Gl X x)(hm:X.mg x=none)(hv:bootBuiltins x=some u)(h:Q u s)
  (hn:x≠"__name__":=by decide) (hd:(x == ("__debug__":Str))=false:=by decide):wpAny (model X.prog X.w) X.A (eval (.Name x pos) X.env) Q E s:=by
 obtain⟨mb,h1,h2⟩:=I.mod.blt;exact iO I.ok.kind hg (Calls.loadGlobal_builtin (by rw[I.ok.glob];exact I.mod.glob.keeps I.bk) hm (by rw[I.ok.blt];exact h1.keeps I.bk) ((h2 x hn).trans hv) h) hd
variable {a b:Expr}{ta tb:TE}{pos:Pos}
def PC (X:Cx)(op:CmpOp)(a b:Expr)(t:TE):Prop :=
 ∀(pins:List (Addr×Obj)) (s:Shared) (σ:St) (H:Hp) (Q:VK),Inv X pins σ H s->t σ H Q ->
  wpAny (model X.prog X.w) X.A (eval a X.env) (λv ss=>wpAny (model X.prog X.w) X.A (eval b X.env) (λu sk=>wpAny (model X.prog X.w) X.A (compareOp op v u) (EP X pins σ Q) X.xe sk) X.xe ss) X.xe s
theorem a4Z (b:Expr){op:CmpOp}(h:op≠.In)(h2:op≠.NotIn):behindInMarks op b=false:=by
 have e1:(op == CmpOp.In)=false:=by cases op<;>first | rfl | exact absurd rfl h
 have e2:(op == CmpOp.NotIn)=false:=by cases op<;>first | rfl | exact absurd rfl h2
 cases b<;>simp[behindInMarks,e1,e2]
def b3G (ta:TE):TE:=fun σ H Q=>ta σ H λx H1=>Q (.bl (decide (x=.non))) H1
def b1d (ta:TE):TE:=fun σ H Q=>ta σ H λx H1=>Q (.bl (!decide (x=.non))) H1
theorem J2.none_iff {x:V}{v:Value}(r:J2 x v):(v == cJ)=decide (x=.non):=by
 cases x with
 | non=>cases r;rfl
 | bl _=>cases r;rfl
 | int _=>obtain⟨t,rfl⟩:=r;rfl
 | str _=>obtain⟨t,rfl⟩:=r;rfl
 | byt _=>obtain⟨t,rfl⟩:=r;rfl
 | flt _=>obtain⟨t,rfl⟩:=r;rfl
 | ref _=>cases r;rfl
 | ty _=>cases r;rfl
theorem a5E {j pos'}(ha:PE X a ta):PC X .Is a (.Constant .none j pos') (b3G ta):=by
 intro pins s σ H Q I h;refine thn (ha pins s σ H _ I h) λv s1 ⟨x,H1,I1,r1,q1⟩=>?_
 exact Constant_none (is_none_gen ⟨.bl _,H1,I1,by rw[r1.none_iff];rfl,q1⟩)
theorem a9Y {j pos'}(ha:PE X a ta):PC X .IsNot a (.Constant .none j pos') (b1d ta):=by
 intro pins s σ H Q I h;refine thn (ha pins s σ H _ I h) λv s1 ⟨x,H1,I1,r1,q1⟩=>?_
 exact Constant_none (isnot_none_gen ⟨.bl _,H1,I1,by rw[r1.none_iff];rfl,q1⟩)
def tB (t:TE):TT:=fun σ H Q=>t σ H λx H1=>∃ c,x=.bl c/\Q c H1
theorem b2d {op:CmpOp}{t:TE}(h:PC X op a b t)(h1:behindInMarks op b=false:=by first | exact a4Z _ (by decide) (by decide) | rfl):PE X (.Compare a [op] [b] pos) t:=λpins s σ H Q I hw=>wpAny_Compare1 (h pins s σ H Q I hw) h1
theorem a0X {op:CmpOp}{t:TE}(h:PC X op a b t)(h1:behindInMarks op b=false:=by first | exact a4Z _ (by decide) (by decide) | rfl):PT X (.Compare a [op] [b] pos) (tB t):=by
 intro pins s σ H Q I hw;refine ka (thn (h pins s σ H _ I hw) λv s1 h1=>thn h1 λu s2 h2=>thn h2 λc s3 ⟨x,H1,I1,r1,q1⟩=>?_) h1;obtain⟨d,rfl,q⟩:=q1;cases r1;exact cY ⟨H1,I1,q⟩
theorem U0 {e:Expr}{t:TE}(h:PE X e t)(he:∀ whole,isTrue e X.env whole=(do let v <- whole;standAt e.pos;holding [v] (truthy v)):=by intro _;rfl):PT X e (tB t):=by
 intro pins s σ H Q I hw;refine isTrue_plain (thn (h pins s σ H _ I hw) λv s1 ⟨x,H1,I1,r1,q1⟩=>?_) (he _);obtain⟨d,rfl,q⟩:=q1;cases r1;exact cY ⟨H1,I1,q⟩
variable {tA tB':TT}{T8:List Expr}
def b3N (t u:TT):TT:=fun σ H Q=>t σ H λc H1=>if c=true then u σ H1 Q else Q false H1
def tOr (t u:TT):TT:=fun σ H Q=>t σ H λc H1=>if c=true then Q true H1 else u σ H1 Q
def b3A (t:TT):TT:=fun σ H Q=>t σ H λc H1=>Q (!c) H1
theorem U5 (ha:PT X a tA):PW X (.BoolOp .And [a] pos) tA:=by
 intro wh pins s σ H Q I h;refine isTrue_and (thn (ha pins s σ H Q I h) λc s1 e=>?_);cases c with
 | true=>exact isTrue_and_nil e
 | false=>exact e
theorem a3Q (ha:PT X a tA):PW X (.BoolOp .Or [a] pos) tA:=by
 intro wh pins s σ H Q I h;refine isTrue_or (thn (ha pins s σ H Q I h) λc s1 e=>?_);cases c with
 | false=>exact isTrue_or_nil e
 | true=>exact e
theorem X9 (ha:PT X a tA)(hb:PW X (.BoolOp .And (b::T8) pos) tB'):PW X (.BoolOp .And (a::b::T8) pos) (b3N tA tB'):=by
 intro wh pins s σ H Q I h;refine isTrue_and (thn (ha pins s σ H _ I h) λc s1 ⟨H1,I1,q1⟩=>?_);cases c with
 | true=>exact hb wh pins s1 σ H1 Q I1 q1
 | false=>exact⟨H1,I1,q1⟩
theorem a1Y (ha:PT X a tA)(hb:PW X (.BoolOp .Or (b::T8) pos) tB'):PW X (.BoolOp .Or (a::b::T8) pos) (tOr tA tB'):=by
 intro wh pins s σ H Q I h;refine isTrue_or (thn (ha pins s σ H _ I h) λc s1 ⟨H1,I1,q1⟩=>?_);cases c with
 | true=>exact⟨H1,I1,q1⟩
 | false=>exact hb wh pins s1 σ H1 Q I1 q1
theorem a0l (ha:PT X a tA):PT X (.UnaryOp .Not a pos) (b3A tA):=by
 intro pins s σ H Q I h;exact isTrue_not (ha pins s σ H (λc H1=>Q (!c) H1) I h)
def b1i (ta tb:TE):TE:=fun σ H Q=>ta σ H λx H1=>∃ c,x=.bl c/\if c=true then tb σ H1 Q else Q (.bl false) H1
def b3y (ta tb:TE):TE:=fun σ H Q=>ta σ H λx H1=>∃ c,x=.bl c/\if c=true then Q (.bl true) H1 else tb σ H1 Q
def b1c (ta:TE):TE:=fun σ H Q=>ta σ H λx H1=>∃ c,x=.bl c/\Q (.bl (!c)) H1
theorem S7 {op}{t:TE}(h:PE X a t):PE X (.BoolOp op [a] pos) t:=λpins s σ H Q I hw=>BoolOp_one (h pins s σ H Q I hw)
theorem U8 (ha:PE X a ta)(hb:PE X (.BoolOp .And (b::T8) pos) tb):PE X (.BoolOp .And (a::b::T8) pos) (b1i ta tb):=by
 intro pins s σ H Q I h;refine BoolOp_and (thn (ha pins s σ H _ I h) λv s1 ⟨x,H1,I1,r1,q1⟩=>?_);obtain⟨c,rfl,q1⟩:=q1;cases r1;refine cY ?_;cases c with
 | true=>exact hb pins s1 σ H1 Q I1 q1
 | false=>exact⟨.bl false,H1,I1,rfl,q1⟩
theorem a8n (ha:PE X a ta)(hb:PE X (.BoolOp .Or (b::T8) pos) tb):PE X (.BoolOp .Or (a::b::T8) pos) (b3y ta tb):=by
 intro pins s σ H Q I h;refine BoolOp_or (thn (ha pins s σ H _ I h) λv s1 ⟨x,H1,I1,r1,q1⟩=>?_);obtain⟨c,rfl,q1⟩:=q1;cases r1;refine cY ?_;cases c with
 | false=>exact hb pins s1 σ H1 Q I1 q1
 | true=>exact⟨.bl true,H1,I1,rfl,q1⟩
theorem b2c (ha:PE X a ta):PE X (.UnaryOp .Not a pos) (b1c ta):=by
 intro pins s σ H Q I h;refine UnaryOp_ (thn (ha pins s σ H _ I h) λv s1 ⟨x,H1,I1,r1,q1⟩=>?_);obtain⟨c,rfl,q1⟩:=q1;cases r1;exact not_of (cY ⟨.bl (!c),H1,I1,rfl,q1⟩)
def tIf (t:TT)(ta tb:TE):TE:=fun σ H Q=>t σ H λc H1=>if c=true then ta σ H1 Q else tb σ H1 Q
theorem a8o {c:Expr}(hc:PT X c tA)(ha:PE X a ta)(hb:PE X b tb):PE X (.IfExp c a b pos) (tIf tA ta tb):=by
 intro pins s σ H Q I h;refine wpAny_IfExp (thn (hc pins s σ H _ I h) λd s1 ⟨H1,I1,q1⟩=>?_);cases d with
 | true=>exact ha pins s1 σ H1 Q I1 q1
 | false=>exact hb pins s1 σ H1 Q I1 q1
end
end L2
namespace L2
open PySem PySem.Spec PyProof.Rows
def SqL (K:ah)(H:Hp)(a:Addr)(xs:List V):Prop :=
 Rd H a (.lst xs) \/
  ∃(o:Obj) (its:Array Value) (n:Nat),K.lookup a=some o/\o.cls=.type "list"/\o.dict=none/\o.data=.seq its n/\its.size<=sizeLine/\E2 xs its.toList
def SqT (K:ah)(H:Hp)(a:Addr)(xs:List V):Prop :=
 Rd H a (.tup xs) \/
  ∃(o:Obj) (its:Array Value) (n:Nat),K.lookup a=some o/\o.cls=.type "tuple"/\o.data=.seq its n/\its.size<=sizeLine/\E2 xs its.toList
def b4V:Value->Option V
 | .none=>some .non
 | .bool b=>some (.bl b)
 | .int i _=>some (.int i)
 | .str x _=>some (.str x)
 | .bytes b _=>some (.byt b)
 | .float b _=>some (.flt b)
 | .ref a=>some (.ref a)
 | .type n=>some (.ty n)
 | _=>none
theorem J2.abs {x:V}{u:Value}(r:J2 x u):b4V u=some x:=by
 cases x with
 | non=>cases r;rfl
 | bl _=>cases r;rfl
 | int _=>obtain⟨t,rfl⟩:=r;rfl
 | str _=>obtain⟨t,rfl⟩:=r;rfl
 | byt _=>obtain⟨t,rfl⟩:=r;rfl
 | flt _=>obtain⟨t,rfl⟩:=r;rfl
 | ref _=>cases r;rfl
 | ty _=>cases r;rfl
theorem J2.inj {x y:V}{u:Value}(r:J2 x u)(q:J2 y u):x=y:=aP (r.abs.symm.trans q.abs)
theorem E2.inj:∀ {xs ys:List V} {us:List Value},E2 xs us->E2 ys us->xs=ys
 | _,_,_,.nil,.nil=>rfl
 | _,_,_,.cons r t,.cons r' t'=>by rw[r.inj r',E2.inj t t']
section
variable {X:Cx}{pins:List (Addr×Obj)}{σ:St}{H:Hp}{s:Shared}{a:Addr}{xs ys:List V}
theorem SqL.of {K:ah}(h:H a=some (.lst xs)):SqL K H a xs:=.inl (.inl h)
theorem SqT.of {K:ah}(h:H a=some (.tup xs)):SqT K H a xs:=.inl (.inl h)
theorem Inv.list (I:Inv X pins σ H s)(h:SqL X.K H a xs):∃ its:List Value,E2 xs its/\PlainL s.heap a its.toArray/\xs.length<=sizeLine:=by
 rcases h with h | ⟨o,its,n,hk,hc,hd,hs,hz,r⟩
 ·obtain⟨z,its,n,r,e⟩:=h.ok I.hok;exact⟨its,r,⟨_,n,e,rfl,rfl,rfl⟩,z⟩
 ·refine⟨its.toList,r,⟨o,n,I.kIn a o hk,hc,hd, ~~~hs⟩,?_⟩;have e:=r.length;simp only[bF] at e;omega
theorem Inv.tuple (I:Inv X pins σ H s)(h:SqT X.K H a xs):∃ its:List Value,E2 xs its/\IsTup s.heap a its.toArray/\xs.length<=sizeLine:=by
 rcases h with h | ⟨o,its,n,hk,hc,hs,hz,r⟩
 ·obtain⟨z,its,r,p⟩:=h.ok I.hok;exact⟨its,r,p,z⟩
 ·refine⟨its.toList,r,⟨o,I.kIn a o hk,hc,n, ~~~hs⟩,?_⟩;have e:=r.length;simp only[bF] at e;omega
theorem Inv.list_inj (I:Inv X pins σ H s)(h:SqL X.K H a xs)(h':SqL X.K H a ys):xs=ys:=by
 obtain⟨its,r,⟨o,n,e,_,_,d⟩,_⟩:=I.list h;obtain⟨its',r',⟨o',n',e',_,_,d'⟩,_⟩:=I.list h';rw[e] at e';cases e';rw[d] at d';injection d' with d1 _
 have:its=its':=by simpa using congrArg Array.toList d1
 subst this;exact r.inj r'
theorem Inv.tuple_inj (I:Inv X pins σ H s)(h:SqT X.K H a xs)(h':SqT X.K H a ys):xs=ys:=by
 obtain⟨its,r,⟨o,e,_,n,d⟩,_⟩:=I.tuple h;obtain⟨its',r',⟨o',e',_,n',d'⟩,_⟩:=I.tuple h';rw[e] at e';cases e';rw[d] at d';injection d' with d1 _
 have:its=its':=by simpa using congrArg Array.toList d1
 subst this;exact r.inj r'
end
abbrev Cx.wish (X:Cx)(E:Value->Shared->Prop):Cx:={X with xe:=E}
abbrev Cx.nox (X:Cx):Cx:=X.wish λ_ _=>False
theorem Cx.Ok.wish {X:Cx}(ok:X.Ok)(E:Value->Shared->Prop):(X.wish E).Ok :=
 ⟨ok.mod,ok.kind,ok.glob,ok.blt,ok.above,ok.inj,ok.has,ok.cab,ok.hd,ok.frames,ok.stk,ok.exf,ok.bs,ok.bsz,ok.noex,ok.exfs,ok.funs,ok.frf⟩
theorem Cx.Ok.unwish {X:Cx}{E:Value->Shared->Prop}(ok:(X.wish E).Ok):X.Ok :=
 ⟨ok.mod,ok.kind,ok.glob,ok.blt,ok.above,ok.inj,ok.has,ok.cab,ok.hd,ok.frames,ok.stk,ok.exf,ok.bs,ok.bsz,ok.noex,ok.exfs,ok.funs,ok.frf⟩
section
variable {X:Cx}{pins:List (Addr×Obj)}{σ:St}{H:Hp}{s:Shared}{E:Value->Shared->Prop}
theorem Inv.wish (I:Inv X pins σ H s)(E:Value->Shared->Prop):Inv (X.wish E) pins σ H s:=⟨I.ok.wish E,I.os,I.bare,I.base,I.loc,I.cell,I.free,I.freeC,I.pin,I.hok,I.len⟩
theorem Inv.unwish (I:Inv (X.wish E) pins σ H s):Inv X pins σ H s:=⟨I.ok.unwish,I.os,I.bare,I.base,I.loc,I.cell,I.free,I.freeC,I.pin,I.hok,I.len⟩
theorem SP.unwish {D:U3}{f:Flow}{s':Shared}(h:SP (X.wish E) pins D f s'):SP X pins D f s':=by
 cases f with
 | next=>obtain⟨σ',H',I,q⟩:=h;exact⟨σ',H',I.unwish,q⟩
 | brk=>obtain⟨σ',H',I,q⟩:=h;exact⟨σ',H',I.unwish,q⟩
 | cont=>obtain⟨σ',H',I,q⟩:=h;exact⟨σ',H',I.unwish,q⟩
 | ret u=>obtain⟨v,σ',H',I,r,q⟩:=h;exact⟨v,σ',H',I.unwish,r,q⟩
theorem PE.nox {e:Expr}{t:TE}(h:PE X.nox e t):PE X e t:=λpins s σ H Q I hw =>
 cH (h pins s σ H Q (I.wish _) hw) (λ_ _ ⟨v,H',I',r,q⟩=>⟨v,H',I'.unwish,r,q⟩) λ_ _ z=>dQ z
theorem PT.nox {e:Expr}{t:TT}(h:PT X.nox e t):PT X e t:=λpins s σ H Q I hw =>
 cH (h pins s σ H Q (I.wish _) hw) (λ_ _ ⟨H',I',q⟩=>⟨H',I'.unwish,q⟩) λ_ _ z=>dQ z
theorem PSs.nox {st:List Stmt}{t:TS}(h:PSs X.nox st t):PSs X st t:=λpins s σ H D I hw =>
 cH (h pins s σ H D (I.wish _) hw) (λ_ _ q=>q.unwish) λ_ _ z=>dQ z
end
section
variable {X:Cx}{st:Stmt}{T8:List Stmt}{t u:TS}{e:Expr}{te:TE}{pos:Pos}
def b1e:TS:=λD σ H=>D.nx σ H
def b1D (t u:TS):TS:=λD σ H=>t {D with nx:=u D} σ H
theorem C9:PSs X [] b1e:=λ_ _ σ H _ I h=>hG ⟨σ,H,I,h⟩
theorem A2 (h1:PS X st t)(h2:PSs X T8 u):PSs X (st::T8) (b1D t u):=by
 intro pins s σ H D I h;refine wpAny_execs_cons (thn (h1 pins s σ H {D with nx:=u D} I h) λf s1 q=>?_);cases f with
 | next =>
  obtain⟨σ',H',I',q⟩:=q;exact h2 pins s1 σ' H' D I' q
 | ret v=>exact q
 | brk=>exact q
 | cont=>exact q
theorem A6 (h1:PS X st t):PSs X [st] t:=by
 intro pins s σ H D I h;refine wpAny_execs_cons (thn (h1 pins s σ H D I h) λf s1 q=>?_);cases f with
 | next=>exact hG q
 | ret v=>exact q
 | brk=>exact q
 | cont=>exact q
theorem Inv.quiet {pins:List (Addr×Obj)}{σ:St}{H:Hp}{s:Shared}(I:Inv X pins σ H s):interactive X.env=false:=by simp[interactive,I.ok.kind]
def b1f (te:TE):TS:=λD σ H=>te σ H λ_ H1=>D.nx σ H1
theorem M9 (he:PE X e te)(hs:swapsWith e none pos.line X.env=pure false:=by rfl):PS X (.Expr e pos) (b1f te):=by
 intro pins s σ H D I h;exact wpAny_Expr_any (thn (he pins s σ H _ I h) λv s1 ⟨x,H1,I1,r1,q1⟩=>⟨σ,H1,I1,q1⟩) I.quiet hs
def b3w (te:TE):TS:=λD σ H=>te σ H D.rt
theorem B9 (he:PE X e te):PS X (.Return (some e) pos) (b3w te):=by
 intro pins s σ H D I h;exact wpAny_Return_some (thn (he pins s σ H _ I h) λv s1 ⟨x,H1,I1,r1,q1⟩=>⟨x,σ,H1,I1,r1,q1⟩)
def b3u:TS:=λD _ H=>D.rt .non H
def b3I (c:TT)(t u:TS):TS:=λD σ H=>c σ H λb H1=>if b=true then t D σ H1 else u D σ H1
theorem J6 {c:Expr}{a b:List Stmt}{tc:TT}(hc:PT X c tc)(ha:PSs X a t)(hb:PSs X b u):PS X (.If c a b pos) (b3I tc t u):=by
 intro pins s σ H D I h;refine wpAny_If (thn (hc pins s σ H _ I h) λd s1 ⟨H1,I1,q1⟩=>?_);cases d with
 | true=>exact ha pins s1 σ H1 D I1 q1
 | false=>exact hb pins s1 σ H1 D I1 q1
end
abbrev TG:=V->St->Hp->(St->Hp->Prop)->Prop
abbrev TGs:=List V->St->Hp->(St->Hp->Prop)->Prop
def PG (X:Cx)(target:Expr)(t:TG):Prop :=
 ∀(pins:List (Addr×Obj)) (s:Shared) (σ:St) (H:Hp) (v:V) (u:Value) (Q:St->Hp->Prop),Inv X pins σ H s->J2 v u->t v σ H Q ->
  wpAny (model X.prog X.w) X.A (assign target X.env u) (λ_ s'=>∃ σ' H',Inv X pins σ' H' s'/\Q σ' H') X.xe s
def PGs (X:Cx)(ts:List Expr)(t:TGs):Prop :=
 ∀(pins:List (Addr×Obj)) (s:Shared) (σ:St) (H:Hp) (vs:List V) (us:List Value) (Q:St->Hp->Prop),Inv X pins σ H s->E2 vs us->t vs σ H Q ->
  wpAny (model X.prog X.w) X.A (assignInOrder ((assignEach ts X.env).map (·.2)) us) (λ_ s'=>∃ σ' H',Inv X pins σ' H' s'/\Q σ' H') X.xe s
abbrev b0X:=V->V->V->Hp->(Hp->Prop)->Prop
def b4m (X:Cx)(t:b0X):Prop :=
 ∀(pins:List (Addr×Obj)) (s:Shared) (σ:St) (H:Hp) (o i v:V) (ov iv u:Value) (Q:Hp->Prop),Inv X pins σ H s->J2 o ov->J2 i iv->J2 v u->t o i v H Q ->
  wpAny (model X.prog X.w) X.A (setItem ov iv u) (λ_ s'=>∃ H',Inv X pins σ H' s'/\Q H') X.xe s
section
variable {X:Cx}{pos:Pos}
def Q3 (i:Nat):TG:=λv σ H Q=>Q (σ.set i (some v)) H
theorem A8 {i:Nat}{x:Str}(hN:X.N.Nodup)(hi:X.N[i]?=some x)(hx:Loc X.env.scope x)(hf:X.fn x=true\/X.env.scope.names.lookup x=some .local:=by first | exact .inl rfl | exact .inr rfl | assumption):PG X (.Name x pos) (Q3 i):=by
 intro pins s σ H v u Q I r h;exact kq (a4x I hN hi hx r (λs' I'=>⟨_,H,I',h⟩) hf)
def b4c:TGs:=λvs σ H Q=>vs=[]/\Q σ H
def b1u (t:TG)(u:TGs):TGs:=λvs σ H Q=>∃ v r,vs=v::r/\t v σ H fun σ' H'=>u r σ' H' Q
theorem K0:PGs X [] b4c:=by
 intro pins s σ H vs us Q I r h;obtain⟨e,h⟩:=h;subst e;cases r;exact assignInOrder_nil ⟨σ,H,I,h⟩
theorem C1 {e:Expr}{es:List Expr}{t:TG}{u:TGs}(h1:PG X e t)(h2:PGs X es u)
  (hs:(assignEach (e::es) X.env).map (·.2)=assign e X.env::(assignEach es X.env).map (·.2):=by rfl):PGs X (e::es) (b1u t u):=by
 intro pins s σ H vs us Q I r h;obtain⟨v,vr,e1,h⟩:=h;subst e1;cases r with
 | cons r rr =>
  rw[hs];refine assignInOrder_cons (thn (h1 pins s σ H _ _ _ I r h) λ_ s1 ⟨σ1,H1,I1,q1⟩=>?_);exact h2 pins s1 σ1 H1 _ _ Q I1 rr q1
def b2Q (K:ah)(n:Nat)(t:TGs):TG:=λv σ H Q=>∃ a xs,v=.ref a/\SqT K H a xs/\xs.length=n/\t xs σ H Q
theorem b2a {es:List Expr}{k:Nat}{t:TGs}{n:Nat}(hc:X.calm=true)(h:PGs X es t)
  (hn:(assignEach es X.env).length=n:=by rfl) (hst:(assignEach es X.env).findIdx? (·.1)=none:=by rfl):PG X (.Tuple es k pos) (b2Q X.K n t):=by
 intro pins s σ H v u Q I r hw;obtain⟨a,xs,e1,hq,hl,hw⟩:=hw;subst e1;cases r;obtain⟨its,rv,ht,hz⟩:=I.tuple hq;refine assign_Tuple_tuple (I.ok.hd hc) ht (by simp[hn,<- hl,rv.length]) hst λh' hx=>?_
 have I1:Inv X pins σ H {s with heap:=h'}:=I.kept (t':=s.toks) λb o e=>hx b o (aU (aE e)) e
 exact h pins _ σ H xs _ Q I1 (~~~rv) hw
def b4a (to ti:TE)(t:b0X):TG:=λv σ H Q=>to σ H λo H1=>ti σ H1 λi H2=>t o i v H2 λH3=>Q σ H3
theorem a8m {o i:Expr}{to ti:TE}{t:b0X}(ho:PE X o to)(hi:PE X i ti)(hs:b4m X t)
  (ha:∀ v,assign (.Subscript o i pos) X.env v=(do
   let ov <- holding [v] (eval o X.env)
   let iv <- holding [v,ov] (eval i X.env)
   standAt pos
   holding [v,ov,iv] (setItem ov iv v)
   release [v,ov,iv] []):=by intro _;rfl):PG X (.Subscript o i pos) (b4a to ti t):=by
 intro pins s σ H v u Q I r h;rw[ha];refine af (cK (thn (ho pins s σ H _ I h) λov s1 ⟨x,H1,I1,r1,q1⟩=>?_));refine af (cK (thn (hi pins s1 σ H1 _ I1 q1) λiv s2 ⟨y,H2,I2,r2,q2⟩=>?_));refine af (fD (af (cK (thn (hs pins s2 σ H2 x y v ov iv u _ I2 r1 r2 r q2) λ_ s3 ⟨H3,I3,q3⟩=>?_))));exact wpAny_release ⟨σ,H3,I3,q3⟩
def a9D (te:TE)(g:TG):TS:=λD σ H=>te σ H λx H1=>g x σ H1 D.nx
theorem a0Y {tg e:Expr}{te:TE}{g:TG}(he:PE X e te)(hg:PG X tg g)(hs:swapsWithSole [tg] e pos.line X.env=pure false:=by rfl)(hw:swappedStores [tg] e X.env=pure none:=by rfl)
  (h1:(assignEach [tg] X.env).map (·.2)=[assign tg X.env]:=by rfl):PS X (.Assign [tg] e pos) (a9D te g):=by
 intro pins s σ H D I h;refine wpAny_Assign_stores (thn (he pins s σ H _ I h) λv s1 ⟨x,H1,I1,r1,q1⟩=>?_) hs hw;rw[h1];exact thn (hg pins s1 σ H1 x v _ I1 r1 q1) λ_ s2 q=>q
theorem C6 {i:Nat}{x:Str}{e:Expr}{te:TE}{pos':Pos}(hN:X.N.Nodup)(hi:X.N[i]?=some x)(hx:Loc X.env.scope x)(he:PE X e te)(hs:swapsWith e (some (.Name x pos')) pos.line X.env=pure false:=by rfl)(hf:X.fn x=true\/X.env.scope.names.lookup x=some .local:=by first | exact .inl rfl | exact .inr rfl | assumption) :
  PS X (.Assign [.Name x pos'] e pos) (a9D te (Q3 i)):=by
 intro pins s σ H D I h;refine wpAny_Assign_Name (thn (he pins s σ H _ I h) λv s1 ⟨y,H1,I1,r1,q1⟩=>?_) hs;exact a4x I1 hN hi hx r1 (λs2 I2=>⟨_,H1,I2,q1⟩) hf
end
section
variable {X:Cx}{pos:Pos}
def a7Y (c:TT)(tb:TS):TS:=λD σ H=>∃ W:Nat->St->Hp->Prop,(∃ m,W m σ H)/\∀ m σ H,W m σ H ->
 c σ H λb H1=>if b=true then ∃ N:St->Hp->Prop,(∀ σ' H',N σ' H'->∃ m',m'<m/\W m' σ' H')/\tb {D with nx:=N,ct:=N,bk:=D.nx} σ H1 else D.nx σ H1
theorem a0B {c:Expr}{body:List Stmt}{tc:TT}{tb:TS}(hp:PassesOwn (model X.prog X.w) X.A X.env X.xe)(hc:PT X c tc)(hb:PSs X body tb):PS X (.While c body [] pos) (a7Y tc tb):=by
 intro pins s σ H D I h;obtain⟨W,⟨m0,w0⟩,turn⟩:=h;refine wpAny_While (codeAny_whileLoop (λn s'=>∃ σ' H',Inv X pins σ' H' s'/\W n σ' H') ?_ m0 ⟨σ,H,I,w0⟩);rintro n s1 ⟨σ1,H1,I1,w1⟩;refine eQ hp (thn (hc pins s1 σ1 H1 _ I1 (turn n σ1 H1 w1)) λb s2 ⟨H2,I2,q2⟩=>?_);cases b with
 | true =>
  obtain⟨N,hN,q2⟩:=q2;rw[if_pos rfl];refine eQ hp (thn (hb pins s2 σ1 H2 _ I2 q2) λf s3 q3=>?_);cases f with
  | next =>
   obtain⟨σ3,H3,I3,n3⟩:=q3;obtain⟨m',hm,w3⟩:=hN σ3 H3 n3;exact⟨m',hm,σ3,H3,I3,w3⟩
  | cont =>
   obtain⟨σ3,H3,I3,n3⟩:=q3;obtain⟨m',hm,w3⟩:=hN σ3 H3 n3;exact⟨m',hm,σ3,H3,I3,w3⟩
  | brk=>exact q3
  | ret v=>exact q3
 | false =>
  rw[if_neg aV];exact hG ⟨σ1,H2,I2,q2⟩
end
structure It where
 go:Nat->Hp->Prop
 yld:Nat->Hp->V->Hp->Prop
 stop:Nat->Hp->Prop
def W6 (X:Cx)(pins:List (Addr×Obj))(H:Hp)(b:Addr):Prop :=
 H b=none/\b≠X.env.locals/\b∉X.fs/\(b∈X.ex\/X.sj.heap.objs.size<=b)/\(∀ x c,X.env.cells.lookup x=some c->c≠b)/\∀ p∈X.pn++pins,p.1≠b
theorem Inv.fpOk {X:Cx}{pins:List (Addr×Obj)}{σ:St}{H H':Hp}{s:Shared}{b:Addr}(I:Inv X pins σ H s)(hb:s.heap.objs.size<=b)(hn:H' b=none):W6 X pins H' b:=by
 refine⟨hn,fg (bB I.lt hb),I.nofs hb,.inr (bH I.sz hb),λx c e z=>?_,λp hp z=>?_⟩
 ·obtain⟨v,q⟩:=I.cell x c e;exact absurd (bB q.lt (by rw[z];exact hb)) (dr _)
 ·exact absurd (bB (aE (I.pin p hp).1) (by rw[z];exact hb)) (dr _)
structure a2G (P:Program)(w:World)(K:ah)(tg:Expr)(J:It)(fp:List Addr)(it:Addr)(tn:Nat->Heap->Prop):Prop where
 mem:it∈fp
 obj:∀ i h,tn i h->∀ b∈fp,∃ o,h.get? b=some o/\∀ v,o.data≠.cell v
 keep:∀ i h h',tn i h->(∀ b∈fp,∀ o,h.get? b=some o->h'.get? b=some o)->tn i h'
 item:∀(X:Cx),X.prog=P->X.w=w->X.K=K->X.calm=true->∀(i:Nat) (pins:List (Addr×Obj)) (s:Shared) (σ:St) (H:Hp) (E:Value->Shared->Prop),Inv X pins σ H s->(∀ b∈fp,W6 X pins H b)->tn i s.heap->J.go i H ->
  wpAny (model P w) X.A (pyNext (.ref it)) (λr s1=>∃ u,r=some u /\
   wpAny (model P w) X.A (letOwnedTupleGo tg (.ref it) u) (λ_ s2=>∃ x H',Inv X pins σ H' s2/\J2 x u/\J.yld i H x H'/\tn (i+1) s2.heap/\∀ b∈fp,H' b=none) E s1) E s
 done:∀(X:Cx),X.prog=P->X.w=w->X.K=K->X.calm=true->∀(i:Nat) (pins:List (Addr×Obj)) (s:Shared) (σ:St) (H:Hp) (E:Value->Shared->Prop),Inv X pins σ H s->(∀ b∈fp,W6 X pins H b)->tn i s.heap->J.stop i H ->
  wpAny (model P w) X.A (pyNext (.ref it)) (λr s1=>r=none/\Inv X pins σ H s1) E s
 self:∀(A:Around) (i:Nat) (s:Shared) (Q:Value->Shared->Prop) (E:Value->Shared->Prop),tn i s.heap->Q (.ref it) s->wpAny (model P w) A (pyIter (.ref it)) Q E s
abbrev TI:=St->Hp->(It->Hp->Prop)->Prop
def PIE (X:Cx)(pins:List (Addr×Obj))(σ:St)(tg:Expr)(R:It->Hp->Prop)(itv:Value)(s2:Shared):Prop :=
 ∃(it:Addr) (fp:List Addr) (tn:Nat->Heap->Prop) (J:It) (H':Hp),itv=.ref it/\Inv X pins σ H' s2/\a2G X.prog X.w X.K tg J fp it tn/\tn 0 s2.heap/\(∀ b∈fp,W6 X pins H' b)/\R J H'
def PI (X:Cx)(tg iter:Expr)(wi:TI):Prop :=
 ∀(pins:List (Addr×Obj)) (s:Shared) (σ:St) (H:Hp) (R:It->Hp->Prop),Inv X pins σ H s->wi σ H R ->
  wpAny (model X.prog X.w) X.A (eval iter X.env) (λv s1=>wpAny (model X.prog X.w) X.A (pyIter v) (PIE X pins σ tg R) X.xe s1) X.xe s
theorem a9a {M:Model}{A:Around}{E:Value->Shared->Prop}{s:Shared}{tg:Expr}{it:Addr}{u:Value}{o:Obj}{n:String}{vs:Array Value}{Q:Unit->Shared->Prop}(ho:s.heap.get? it=some o)(hc:o.cls=.type n)(hd:o.data=.fields vs)
    (hn:["enumerate", "zip", "dict_itemiterator", "dict_reverseitemiterator", "odict_iterator", "itertools.zip_longest", "itertools.pairwise"].contains n=false) (hQ:Q () s):wpAny M A (letOwnedTupleGo tg (.ref it) u) Q E s:=by
  unfold letOwnedTupleGo;cases tg<;>first
    | exact ao hQ
    | (cases u<;>first
        | exact ao hQ
        | (refine af (wpAny_load ho ?_)
           rw[hc,hd];show wpAny M A (if (["enumerate", "zip", "dict_itemiterator", "dict_reverseitemiterator", "odict_iterator", "itertools.zip_longest", "itertools.pairwise"].contains n && vs[0]? == some (rawInt _))=true then _ else _) Q E s;rw[if_neg (by intro h;rw[hn,jh] at h;cases h)]
           exact ao hQ))
def Itl (K:ah)(a:Addr):It :=
 ⟨λi H=>∃ xs x,SqL K H a xs/\xs[i]?=some x,λi H x H'=>H'=H/\∀ xs,SqL K H a xs->xs[i]?=some x,λi H=>∃ xs,SqL K H a xs/\xs.length<=i⟩
def Itt (K:ah)(a:Addr):It :=
 ⟨λi H=>∃ xs x,SqT K H a xs/\xs[i]?=some x,λi H x H'=>H'=H/\∀ xs,SqT K H a xs->xs[i]?=some x,λi H=>∃ xs,SqT K H a xs/\xs.length<=i⟩
def Itr (lo:Int)(n:Nat):It:=⟨λi _=>i<n,λi H x H'=>H'=H/\x=.int (lo+i),λi _=>n<=i⟩
theorem a6U {P:Program}{w:World}{K:ah}{tg:Expr}(a it:Addr):a2G P w K tg (Itl K a) [it] it (λi h=>h.IsListIter it a i) where
 mem:=by simp
 obj:=λi h st b hb=>by
  have e:b=it:= ~~~hb
  subst e;obtain⟨o,e,c,d⟩:=st;exact⟨o,e,λv z=>by rw[d] at z;cases z⟩
 keep:=λi h h' st k=>st.at λo e=>k it (by simp) o e
 item:=by
  intro X hP hw hK hc i pins s σ H E I hf st hg;subst hP hw hK;obtain⟨xs,x,hq,hx⟩:=hg;obtain⟨its,rv,p,hz⟩:=I.list hq;obtain⟨u,hu,ru⟩:=rv.get hx;obtain⟨f0,f1,f2,f3,f4,f5⟩:=hf it (by simp);refine wpAny_pyNext_list_item st p.isList (x:=u) (~~~hu) λh' st' sb=>?_
  have I1:Inv X pins σ H {s with heap:=h'}:=I.turned (t':=s.toks) (λb o hb e=>(sb.2 b hb).trans e) f0 f1 f3 f4 f5;obtain⟨o,e,c,d⟩:=id st';exact⟨u,rfl,a9a (s:={s with heap:=h'}) e c d (by decide) ⟨x,H,I1,ru,⟨rfl,λys hy=>by rw[I.list_inj hy hq];exact hx⟩,st',λb hb=>(hf b hb).1⟩⟩
 done:=by
  intro X hP hw hK hc i pins s σ H E I hf st hg;subst hP hw hK;obtain⟨xs,hq,hx⟩:=hg;obtain⟨its,rv,p,hz⟩:=I.list hq;obtain⟨f0,f1,f2,f3,f4,f5⟩:=hf it (by simp);have hl:=rv.length;exact wpAny_pyNext_list_end (I.ok.hd hc) st p.isList (by simp;omega) λh' eb=>⟨rfl,I.turned (t':=s.toks) (λb o hb e=>eb b o hb e) f0 f1 f3 f4 f5⟩
 self:=λ_ _ _ _ _ st h=>wpAny_pyIter_listiter st h
theorem a5w {P:Program}{w:World}{K:ah}{tg:Expr}(a it:Addr):a2G P w K tg (Itt K a) [it] it (λi h=>h.IsTupleIter it a i) where
 mem:=by simp
 obj:=λi h st b hb=>by
  have e:b=it:= ~~~hb
  subst e;obtain⟨o,e,c,d⟩:=st;exact⟨o,e,λv z=>by rw[d] at z;cases z⟩
 keep:=λi h h' st k=>st.at λo e=>k it (by simp) o e
 item:=by
  intro X hP hw hK hc i pins s σ H E I hf st hg;subst hP hw hK;obtain⟨xs,x,hq,hx⟩:=hg;obtain⟨its,rv,p,hz⟩:=I.tuple hq;obtain⟨u,hu,ru⟩:=rv.get hx;obtain⟨f0,f1,f2,f3,f4,f5⟩:=hf it (by simp);refine wpAny_pyNext_tuple_item st (show s.heap.IsTuple a its.toArray from p) (x:=u) (~~~hu) λh' st' sb=>?_
  have I1:Inv X pins σ H {s with heap:=h'}:=I.turned (t':=s.toks) (λb o hb e=>(sb.2 b hb).trans e) f0 f1 f3 f4 f5;obtain⟨o,e,c,d⟩:=id st';exact⟨u,rfl,a9a (s:={s with heap:=h'}) e c d (by decide) ⟨x,H,I1,ru,⟨rfl,λys hy=>by rw[I.tuple_inj hy hq];exact hx⟩,st',λb hb=>(hf b hb).1⟩⟩
 done:=by
  intro X hP hw hK hc i pins s σ H E I hf st hg;subst hP hw hK;obtain⟨xs,hq,hx⟩:=hg;obtain⟨its,rv,p,hz⟩:=I.tuple hq;obtain⟨f0,f1,f2,f3,f4,f5⟩:=hf it (by simp);have hl:=rv.length;exact wpAny_pyNext_tuple_end (I.ok.hd hc) st (show s.heap.IsTuple a its.toArray from p) (by simp;omega) λh' eb=>⟨rfl,I.turned (t':=s.toks) (λb o hb e=>eb b o hb e) f0 f1 f3 f4 f5⟩
 self:=λ_ _ _ _ _ st h=>wpAny_pyIter_tupleiter st h
theorem a5x {P:Program}{w:World}{K:ah}{tg:Expr}(it:Addr)(lo:Int)(n:Nat):a2G P w K tg (Itr lo n) [it] it (λi h=>IsRangeIter h it (lo+(i:Nat)*1) ((n:Int)-(i:Nat)) 1) where
 mem:=by simp
 obj:=λi h st b hb=>by
  have e:b=it:= ~~~hb
  subst e
  exact⟨_,st,λv z=>by
   have z':iN _=h9 v:=z
   cases z'⟩
 keep:=λi h h' st k=>k it (by simp) _ st
 item:=by
  intro X hP hw hK hc i pins s σ H E I hf st hg;subst hP hw hK;obtain⟨f0,f1,f2,f3,f4,f5⟩:=hf it (by simp);have W:=Walks.range (prog:=X.prog) (w:=X.w) (I.ok.hd hc) it lo 1 n;refine W.item i s _ _ hg st λv h' tk hv st' kk=>?_
  obtain⟨t,rfl⟩:=hv;have I1:Inv X pins σ H {s with heap:=h',toks:=tk}:=I.turned (λb o hb e=>kk b o (~~~hb) e) f0 f1 f3 f4 f5;refine⟨_,rfl,a9a (s:={s with heap:=h',toks:=tk}) (n:="range_iterator") st' rfl rfl (by decide) ⟨.int (lo+i),H,I1,⟨t,?_⟩,⟨rfl,rfl⟩,st',λb hb=>(hf b hb).1⟩⟩;rw[j3]
 done:=by
  intro X hP hw hK hc i pins s σ H E I hf st hg;subst hP hw hK;obtain⟨f0,f1,f2,f3,f4,f5⟩:=hf it (by simp);exact wpAny_pyNext_range_end (I.ok.hd hc) st (by have:n<=i:=hg;omega) λh' eb=>⟨rfl,I.turned (t':=s.toks) (λb o hb e=>eb b o hb e) f0 f1 f3 f4 f5⟩
 self:=λ_ _ _ _ _ st h=>wpAny_pyIter_rangeiter st h
end L2
namespace L2
open PySem PySem.Spec PyProof.Rows
section
variable {X:Cx}{tg:Expr}
def a8X (K:ah)(tl:TE):TI:=fun σ H R=>tl σ H λx H1=>∃ a,x=.ref a/\(∃ xs,SqL K H1 a xs)/\R (Itl K a) H1
def b2M (K:ah)(tl:TE):TI:=fun σ H R=>tl σ H λx H1=>∃ a,x=.ref a/\(∃ xs,SqT K H1 a xs)/\R (Itt K a) H1
theorem a9V {l:Expr}{tl:TE}(hl:PE X l tl):PI X tg l (a8X X.K tl):=by
 intro pins s σ H R I h;refine thn (hl pins s σ H _ I h) λv s1 ⟨x,H1,I1,r1,q1⟩=>?_
 obtain⟨a,e,⟨xs,hq⟩,q⟩:=q1;subst e;cases r1;obtain⟨its,rv,p,hz⟩:=I1.list hq;refine i5 p.isList ?_;refine⟨s1.heap.objs.size,[s1.heap.objs.size],_,_,H1,rfl,I1.kept (t':=s1.toks) λb o e=>am _ e,a6U a _,⟨_,aK _ rfl,rfl,rfl⟩,λb hb=>?_,q⟩;have e:b=s1.heap.objs.size:= ~~~hb
 subst e;exact I1.fpOk (aC _) (I1.hok.fresh (aC _))
theorem b1Y {l:Expr}{tl:TE}(hl:PE X l tl):PI X tg l (b2M X.K tl):=by
 intro pins s σ H R I h;refine thn (hl pins s σ H _ I h) λv s1 ⟨x,H1,I1,r1,q1⟩=>?_
 obtain⟨a,e,⟨xs,hq⟩,q⟩:=q1;subst e;cases r1;obtain⟨its,rv,p,hz⟩:=I1.tuple hq;refine fF (show s1.heap.IsTuple a its.toArray from p) ?_;refine⟨s1.heap.objs.size,[s1.heap.objs.size],_,_,H1,rfl,I1.kept (t':=s1.toks) λb o e=>am _ e,a5w a _,⟨_,aK _ rfl,rfl,rfl⟩,λb hb=>?_,q⟩;have e:b=s1.heap.objs.size:= ~~~hb
 subst e;exact I1.fpOk (aC _) (I1.hok.fresh (aC _))
theorem a4Q {pins:List (Addr×Obj)}{σ:St}{H:Hp}{s:Shared}{R:It->Hp->Prop}{E:Value->Shared->Prop}{lo hi:Int}{t u v:Tok}{tk:Nat}(I:Inv X pins σ H s)(h1:-(2 ^ 62)<=lo)(h2:lo<2 ^ 62)(h3:-(2 ^ 62)<=hi)(h4:hi<2 ^ 62)
  (q:R (Itr lo (hi-lo).toNat) H):wpAny (model X.prog X.w) X.A (pyIter (.ref s.heap.objs.size)) (PIE X pins σ tg R) E {s with heap:=s.heap.push {cls:=.type "range",data:=.fields #[.int lo t,.int hi u,.int 1 v]},toks:=tk}:=by
 refine wpAny_pyIter_range (IsRange.new ..) (small_one h1 h2 h3 h4) ?_;have I1:Inv X pins σ H {s with heap:=s.heap.push {cls:=.type "range",data:=.fields #[.int lo t,.int hi u,.int 1 v]},toks:=tk}:=I.kept λb o e=>am _ e
 refine⟨(s.heap.push {cls:=.type "range",data:=.fields #[.int lo t,.int hi u,.int 1 v]}).objs.size,[(s.heap.push {cls:=.type "range",data:=.fields #[.int lo t,.int hi u,.int 1 v]}).objs.size],_,_,H,rfl,
  I1.kept (t':=tk) λb o e=>am _ e,a5x _ lo (hi-lo).toNat,?_,λb hb=>?_,q⟩
 ·have e1:lo+((0:Nat):Int)*1=lo:=by simp
  have e2:(((hi-lo).toNat:Nat):Int)-((0:Nat):Int)=Builtin.Range.rangeSize lo hi 1:=by rw[rangeSize_one];split<;>omega
  show IsRangeIter _ _ (lo+((0:Nat):Int)*1) ((((hi-lo).toNat:Nat):Int)-((0:Nat):Int)) 1;rw[e1,e2];exact aK _ rfl
 ·have e:b=(s.heap.push {cls:=.type "range",data:=.fields #[.int lo t,.int hi u,.int 1 v]}).objs.size:= ~~~hb
  subst e;exact I1.fpOk (aC _) (I1.hok.fresh (aC _))
def b1s (ta:TA):TI:=fun σ H R=>ta σ H λvs H1=>∃ j:Int,vs=[.int j]/\-(2 ^ 62)<=j/\j<2 ^ 62/\R (Itr 0 j.toNat) H1
def b1r (ta:TA):TI:=fun σ H R=>ta σ H λvs H1=>∃ i j:Int,vs=[.int i,.int j]/\(-(2 ^ 62)<=i/\i<2 ^ 62/\-(2 ^ 62)<=j/\j<2 ^ 62)/\R (Itr i (j-i).toNat) H1
theorem O0 {a:Expr}{ta:TA}{p pos:Pos}(hg:Gl X "range")(hm:X.mg "range"=none)(ha:PA X [a] ta)(hs:starEach [a] X.env=[(false,eval a X.env)]:=by rfl):PI X tg (.Call (.Name "range" p) [a] [] pos) (b1s ta):=by
 intro pins s σ H R I h;refine Call_ (S9 I hg hm jP (bR (thn (ha pos pins s σ H _ I h) λus s1 ⟨vs,H1,I1,r1,q1⟩=>?_) hs rfl));obtain⟨j,e,q1,q2,q⟩:=q1;subst e;cases r1 with
 | cons r rr =>
  cases rr;obtain⟨t,rfl⟩:=r;exact call_range_1 (a4Q I1 ∅ ∅ q1 q2 (~~~q))
theorem a1a {a b:Expr}{ta:TA}{p pos:Pos}(hg:Gl X "range")(hm:X.mg "range"=none)(ha:PA X [a,b] ta)(hs:starEach [a,b] X.env=[(false,eval a X.env),(false,eval b X.env)]:=by rfl)(hs2:starEach [b] X.env=[(false,eval b X.env)]:=by rfl) :
  PI X tg (.Call (.Name "range" p) [a,b] [] pos) (b1r ta):=by
 intro pins s σ H R I h;refine Call_ (S9 I hg hm jP (bR (thn (ha pos pins s σ H _ I h) λus s1 ⟨vs,H1,I1,r1,q1⟩=>?_) (by rw[hs,hs2]) (by rw[hs2];rfl)));obtain⟨i,j,e,⟨q1,q2,q3,q4⟩,q⟩:=q1;subst e;cases r1 with
 | cons r rr =>
  cases rr with
  | cons r' rr =>
   cases rr;obtain⟨t,rfl⟩:=r;obtain⟨t',rfl⟩:=r';exact call_range_2 (a4Q I1 q1 q2 q3 q4 q)
def b1K (wi:TI)(g:TG)(tb:TS):TS:=λD σ H=>wi σ H λJ H1=>∃ W:Nat->Nat->St->Hp->Prop,(∃ m,W 0 m σ H1)/\∀ i m σ H,W i m σ H ->
 (J.stop i H/\D.nx σ H)\/(J.go i H/\∃ N:St->Hp->Prop,(∀ σ' H',N σ' H'->∃ m',m'<m/\W (i+1) m' σ' H')/\∀ x H',J.yld i H x H'->g x σ H' fun σ2 H2=>tb {D with nx:=N,ct:=N,bk:=D.nx} σ2 H2)
def a0Z (fp:List Addr)(h:Heap):List (Addr×Obj):=fp.filterMap λb=>(h.get? b).map λo=>(b,o)
theorem R7 {fp:List Addr}{h:Heap}{b:Addr}{o:Obj}(hb:b∈fp)(e:h.get? b=some o):(b,o)∈a0Z fp h:=List.mem_filterMap.mpr ⟨b,hb,by rw[e];rfl⟩
theorem a7l {fp:List Addr}{h:Heap}{p:Addr×Obj}(hp:p∈a0Z fp h):p.1∈fp/\h.get? p.1=some p.2:=by
 obtain⟨b,hb,e⟩:=List.mem_filterMap.mp hp;cases q:h.get? b with
 | none=>rw[q] at e;cases e
 | some o =>
  rw[q] at e;have e':(b,o)=p:=aP e;subst e';exact⟨hb,q⟩
theorem Inv.pinned {pins:List (Addr×Obj)}{σ:St}{H:Hp}{s:Shared}{fp:List Addr}(I:Inv X pins σ H s)(hf:∀ b∈fp,W6 X pins H b)(ho:∀ b∈fp,∃ o,s.heap.get? b=some o/\∀ v,o.data≠.cell v):Inv X (pins++a0Z fp s.heap) σ H s :=
 I.pins_of λp hp=>(aj.mp hp).elim (λz=>I.pin p (aN _ z)) λz=>by
  obtain⟨hb,e⟩:=a7l z;obtain⟨f0,f1,f2,_⟩:=hf p.1 hb;obtain⟨o,e',d⟩:=ho p.1 hb;rw[e] at e';cases e';exact⟨e,f0,f1,f2,d⟩
theorem Inv.unpinned {pins pl:List (Addr×Obj)}{σ:St}{H:Hp}{s:Shared}(I:Inv X (pins++pl) σ H s):Inv X pins σ H s:=I.pins_of λp hp=>I.pin p (aN _ (aL _ hp))
theorem P6 {iter:Expr}{body:List Stmt}{wi:TI}{g:TG}{tb:TS}{pos:Pos}(hp:PassesOwn (model X.prog X.w) X.A X.env X.xe)(hc:X.calm=true)(hi:PI X tg iter wi)(hg:PG X tg g)(hb:PSs X body tb)
  (hs:∀ x,foldedSetIterable iter X.env x=pure x:=by intro _;rfl):PS X (.For tg iter body [] pos) (b1K wi g tb):=by
 intro pins s σ H D I h;refine wpAny_For (thn (hi pins s σ H _ I h) λv s1 h1=>thn h1 λitv s2 h2=>?_) hs;obtain⟨it,fp,tn,J,H2,e,I2,T,st2,f2,W,⟨m0,w0⟩,turn⟩:=h2;subst e;have stat:∀ {H':Hp},(∀ b∈fp,H' b=none)->∀ b∈fp,W6 X pins H' b:=λhn b hb=>⟨hn b hb,(f2 b hb).2⟩
 refine codeAny_forLoop_any (λn s'=>∃ i σ' H',Inv X pins σ' H' s'/\tn i s'.heap/\(∀ b∈fp,H' b=none)/\W i n σ' H') ?_ m0 ⟨0,σ,H2,I2,st2,λb hb=>(f2 b hb).1,w0⟩;rintro n s3 ⟨i,σ3,H3,I3,st3,fr3,w3⟩;rcases turn i n σ3 H3 w3 with ⟨stop,qn⟩ | ⟨go,N,hN,step⟩
 ·refine eQ hp (thn (T.done X rfl rfl rfl hc i pins s3 σ3 H3 X.xe I3 (stat fr3) st3 stop) λr s4 ⟨hr,I4⟩=>?_);subst hr;exact hG ⟨σ3,H3,I4,qn⟩
 ·refine eQ hp (thn (T.item X rfl rfl rfl hc i pins s3 σ3 H3 X.xe I3 (stat fr3) st3 go) λr s4 ⟨u,hr,h4⟩=>?_);subst hr;refine eQ hp (thn h4 λ_ s5 ⟨x,H5,I5,r5,y5,st5,fr5⟩=>?_);have I5':=I5.pinned (stat fr5) (T.obj _ _ st5);refine eQ hp (thn (hg _ s5 σ3 H5 x u _ I5' r5 (step x H5 y5)) λ_ s6 ⟨σ6,H6,I6,q6⟩=>?_);refine eQ hp (thn (hb _ s6 σ6 H6 _ I6 q6) λf s7 q7=>?_);have again:∀ {σ7:St} {H7:Hp},Inv X (pins++a0Z fp s5.heap) σ7 H7 s7->N σ7 H7->∃ m,m<n/\∃ i σ' H',Inv X pins σ' H' s7/\tn i s7.heap/\(∀ b∈fp,H' b=none)/\W i m σ' H':=λ{σ7 H7} I7 n7=>by
   obtain⟨m',hm,w7⟩:=hN σ7 H7 n7;refine⟨m',hm,i+1,σ7,H7,I7.unpinned,T.keep _ _ _ st5 λb hb o e=>(I7.pin (b,o) (aN _ (aN _ (R7 hb e)))).1,λb hb=>?_,w7⟩;obtain⟨o,e,d⟩:=T.obj _ _ st5 b hb;exact (I7.pin (b,o) (aN _ (aN _ (R7 hb e)))).2.1
  cases f with
  | next=>obtain⟨σ7,H7,I7,n7⟩:=q7;exact again I7 n7
  | cont=>obtain⟨σ7,H7,I7,n7⟩:=q7;exact again I7 n7
  | brk=>obtain⟨σ7,H7,I7,q7⟩:=q7;exact⟨σ7,H7,I7.unpinned,q7⟩
  | ret v=>obtain⟨x7,σ7,H7,I7,r7,q7⟩:=q7;exact⟨x7,σ7,H7,I7.unpinned,r7,q7⟩
end
theorem Y6 {K:ah}{a:Addr}{xs:List V}{g:TG}{tb:TS}{D:U3}{σ:St}{H:Hp}(Pv:Nat->St->Hp->Prop)(h0:Pv 0 σ H)(hl:∀ i σ H,i<=xs.length->Pv i σ H->SqL K H a xs)
  (hs:∀ i x σ H,xs[i]?=some x->Pv i σ H->g x σ H fun σ2 H2=>tb {D with nx:=Pv (i+1),ct:=Pv (i+1),bk:=D.nx} σ2 H2) (hd:∀ σ H,Pv xs.length σ H->D.nx σ H) :
  ∃ W:Nat->Nat->St->Hp->Prop,(∃ m,W 0 m σ H)/\∀ i m σ H,W i m σ H ->
   ((Itl K a).stop i H/\D.nx σ H)\/((Itl K a).go i H/\∃ N:St->Hp->Prop,(∀ σ' H',N σ' H'->∃ m',m'<m/\W (i+1) m' σ' H')/\∀ x H',(Itl K a).yld i H x H'->g x σ H' fun σ2 H2=>tb {D with nx:=N,ct:=N,bk:=D.nx} σ2 H2):=by
 refine⟨λi m σ H=>m=xs.length-i/\i<=xs.length/\Pv i σ H,⟨xs.length,by simp,bo _,h0⟩,?_⟩;rintro i m σ H ⟨rfl,hi,p⟩;have q:=hl i σ H hi p;by_cases hlt:i<xs.length
 ·refine .inr ⟨⟨xs,xs[i],q,by simp[hlt]⟩,Pv (i+1),fun σ' H' p'=>⟨xs.length-(i+1),∅,rfl,hlt,p'⟩,λx H' y=>?_⟩;obtain⟨e,y⟩:=y;subst e;exact hs i x σ _ (y xs q) p
 ·have e:i=xs.length:=∅
  subst e;exact .inl ⟨⟨xs,q,aC _⟩,hd σ H p⟩
theorem a0I {K:ah}{a:Addr}{xs:List V}{g:TG}{tb:TS}{D:U3}{σ:St}{H:Hp}(Pv:Nat->St->Hp->Prop)(h0:Pv 0 σ H)(hl:∀ i σ H,i<=xs.length->Pv i σ H->SqT K H a xs)
  (hs:∀ i x σ H,xs[i]?=some x->Pv i σ H->g x σ H fun σ2 H2=>tb {D with nx:=Pv (i+1),ct:=Pv (i+1),bk:=D.nx} σ2 H2) (hd:∀ σ H,Pv xs.length σ H->D.nx σ H) :
  ∃ W:Nat->Nat->St->Hp->Prop,(∃ m,W 0 m σ H)/\∀ i m σ H,W i m σ H ->
   ((Itt K a).stop i H/\D.nx σ H)\/((Itt K a).go i H/\∃ N:St->Hp->Prop,(∀ σ' H',N σ' H'->∃ m',m'<m/\W (i+1) m' σ' H')/\∀ x H',(Itt K a).yld i H x H'->g x σ H' fun σ2 H2=>tb {D with nx:=N,ct:=N,bk:=D.nx} σ2 H2):=by
 refine⟨λi m σ H=>m=xs.length-i/\i<=xs.length/\Pv i σ H,⟨xs.length,by simp,bo _,h0⟩,?_⟩;rintro i m σ H ⟨rfl,hi,p⟩;have q:=hl i σ H hi p;by_cases hlt:i<xs.length
 ·refine .inr ⟨⟨xs,xs[i],q,by simp[hlt]⟩,Pv (i+1),fun σ' H' p'=>⟨xs.length-(i+1),∅,rfl,hlt,p'⟩,λx H' y=>?_⟩;obtain⟨e,y⟩:=y;subst e;exact hs i x σ _ (y xs q) p
 ·have e:i=xs.length:=∅
  subst e;exact .inl ⟨⟨xs,q,aC _⟩,hd σ H p⟩
theorem Z4 {lo:Int}{n:Nat}{g:TG}{tb:TS}{D:U3}{σ:St}{H:Hp}(Pv:Nat->St->Hp->Prop)(h0:Pv 0 σ H)
  (hs:∀ i σ H,i<n->Pv i σ H->g (.int (lo+i)) σ H fun σ2 H2=>tb {D with nx:=Pv (i+1),ct:=Pv (i+1),bk:=D.nx} σ2 H2) (hd:∀ σ H,Pv n σ H->D.nx σ H) :
  ∃ W:Nat->Nat->St->Hp->Prop,(∃ m,W 0 m σ H)/\∀ i m σ H,W i m σ H ->
   ((Itr lo n).stop i H/\D.nx σ H)\/((Itr lo n).go i H/\∃ N:St->Hp->Prop,(∀ σ' H',N σ' H'->∃ m',m'<m/\W (i+1) m' σ' H')/\∀ x H',(Itr lo n).yld i H x H'->g x σ H' fun σ2 H2=>tb {D with nx:=N,ct:=N,bk:=D.nx} σ2 H2):=by
 refine⟨λi m σ H=>m=n-i/\i<=n/\Pv i σ H,⟨n,by simp,bo _,h0⟩,?_⟩;rintro i m σ H ⟨rfl,hi,p⟩;by_cases hlt:i<n
 ·refine .inr ⟨hlt,Pv (i+1),fun σ' H' p'=>⟨n-(i+1),∅,rfl,hlt,p'⟩,λx H' y=>?_⟩;obtain⟨e,y⟩:=y;subst e y;exact hs i σ _ hlt p
 ·have e:i=n:=∅
  subst e;exact .inl ⟨aC _,hd σ H p⟩
theorem a7M {c:TT}{tb:TS}{D:U3}{σ:St}{H:Hp}(Pv:St->Hp->Prop)(μ:St->Hp->Nat)(h0:Pv σ H)
  (hs:∀ σ H,Pv σ H->c σ H λb H1=>if b=true then tb {D with nx:=fun σ' H'=>Pv σ' H'/\μ σ' H'<μ σ H,ct:=fun σ' H'=>Pv σ' H'/\μ σ' H'<μ σ H,bk:=D.nx} σ H1 else D.nx σ H1)
  (mono:∀ σ H Q Q',(∀ b H1,Q b H1->Q' b H1)->c σ H Q->c σ H Q'):a7Y c tb D σ H:=by
 refine⟨λm σ H=>m=μ σ H/\Pv σ H,⟨_,rfl,h0⟩,?_⟩;rintro m σ H ⟨rfl,p⟩;refine mono σ H _ _ (λb H1 q=>?_) (hs σ H p);cases b with
 | true=>exact⟨_,fun σ' H' ⟨p',l⟩=>⟨_,l,rfl,p'⟩,q⟩
 | false=>exact q
end L2
namespace L2
open PySem PySem.Spec PyProof.Rows
abbrev R2:=V->V->Hp->VK->Prop
def OpR (X:Cx)(f:Value->Value->Sem Value)(r:R2):Prop :=
 ∀(pins:List (Addr×Obj)) (s:Shared) (σ:St) (H:Hp) (x y:V) (v u:Value) (Q:VK),Inv X pins σ H s->J2 x v->J2 y u->r x y H Q ->
  wpAny (model X.prog X.w) X.A (f v u) (EP X pins σ Q) X.xe s
def UnR (X:Cx)(f:Value->Sem Value)(r:V->Hp->VK->Prop):Prop :=
 ∀(pins:List (Addr×Obj)) (s:Shared) (σ:St) (H:Hp) (x:V) (v:Value) (Q:VK),Inv X pins σ H s->J2 x v->r x H Q ->
  wpAny (model X.prog X.w) X.A (f v) (EP X pins σ Q) X.xe s
def P3 (X:Cx)(f:Value)(r:List V->Hp->VK->Prop):Prop :=
 ∀(pins:List (Addr×Obj)) (s:Shared) (σ:St) (H:Hp) (xs:List V) (us:List Value) (Q:VK),Inv X pins σ H s->E2 xs us->r xs H Q ->
  wpAny (model X.prog X.w) X.A (call f us) (EP X pins σ Q) X.xe s
def b4W (X:Cx)(r:V->Hp->(Bool->Hp->Prop)->Prop):Prop :=
 ∀(pins:List (Addr×Obj)) (s:Shared) (σ:St) (H:Hp) (x:V) (v:Value) (Q:Bool->Hp->Prop),Inv X pins σ H s->J2 x v->r x H Q ->
  wpAny (model X.prog X.w) X.A (truthy v) (TP X pins σ Q) X.xe s
def tOp (r:R2)(ta tb:TE):TE:=fun σ H Q=>ta σ H λx H1=>tb σ H1 λy H2=>r x y H2 Q
def tUn (r:V->Hp->VK->Prop)(ta:TE):TE:=fun σ H Q=>ta σ H λx H1=>r x H1 Q
def rI (C:Int->Int->Prop)(g:Int->Int->V):R2:=λx y H Q=>∃ i j,x=.int i/\y=.int j/\C i j/\Q (g i j) H
def rI0 (g:Int->Int->V):R2:=λx y H Q=>∃ i j,x=.int i/\y=.int j/\Q (g i j) H
def rU (g:Int->V):V->Hp->VK->Prop:=λx H Q=>∃ i,x=.int i/\Q (g i) H
section
variable {X:Cx}{a b c:Expr}{ta tb tc:TE}{pos:Pos}
theorem b3a (ha:PE X a ta)(hb:PE X b tb){pins:List (Addr×Obj)}{s:Shared}{σ:St}{H:Hp}{R:V->V->Hp->Prop}(I:Inv X pins σ H s)
  (h:ta σ H λx H1=>tb σ H1 λy H2=>R x y H2) {Q:Value->Shared->Prop} {f:Value->Value->Sem Value}
  (hf:∀ v u s2 x y H2,Inv X pins σ H2 s2->J2 x v->J2 y u->R x y H2->wpAny (model X.prog X.w) X.A (f v u) Q X.xe s2) :
  wpAny (model X.prog X.w) X.A (eval a X.env) (λv ss=>wpAny (model X.prog X.w) X.A (eval b X.env) (λu sk=>wpAny (model X.prog X.w) X.A (f v u) Q X.xe sk) X.xe ss) X.xe s:=by
 refine thn (ha pins s σ H _ I h) λv s1 ⟨x,H1,I1,r1,q1⟩=>?_
 refine thn (hb pins s1 σ H1 _ I1 q1) λu s2 ⟨y,H2,I2,r2,q2⟩=>?_
 exact hf v u s2 x y H2 I2 r1 r2 q2
theorem B2 {op:Operator}{r:R2}(ho:OpR X (binaryOp op) r)(ha:PE X a ta)(hb:PE X b tb):PE X (.BinOp a op b pos) (tOp r ta tb):=by
 intro pins s σ H Q I h;exact wpAny_BinOp (b3a ha hb I h λv u s2 x y H2 I2 rx ry q=>ho pins s2 σ H2 x y v u Q I2 rx ry q)
theorem b1m {op:UnaryOp}{r:V->Hp->VK->Prop}(ho:UnR X (unaryOp op) r)(ha:PE X a ta):PE X (.UnaryOp op a pos) (tUn r ta):=by
 intro pins s σ H Q I h;exact UnaryOp_ (thn (ha pins s σ H _ I h) λv s1 ⟨x,H1,I1,r1,q1⟩=>ho pins s1 σ H1 x v Q I1 r1 q1)
theorem opI {f:Value->Value->Sem Value}{C:Int->Int->Prop}{g:Int->Int->Int}
  (rule:∀(i j:Int) (t u:Tok) (s:Shared) (Q:Value->Shared->Prop) (E:Value->Shared->Prop),C i j->Q (.int (g i j) s.toks) {s with toks:=s.toks+1}->wpAny (model X.prog X.w) X.A (f (.int i t) (.int j u)) Q E s) :
  OpR X f (rI C λi j=>.int (g i j)):=by
 intro pins s σ H x y v u Q I rx ry h;obtain⟨i,j,rfl,rfl,hc,q⟩:=h;obtain⟨t,rfl⟩:=rx;obtain⟨t',rfl⟩:=ry;exact rule i j t t' s _ _ hc ⟨.int (g i j),H,I.tok _,⟨_,rfl⟩,q⟩
theorem b3U {f:Value->Value->Sem Value}{g:Int->Int->Int}
  (rule:∀(i j:Int) (t u:Tok) (s:Shared) (Q:Value->Shared->Prop) (E:Value->Shared->Prop),Q (.int (g i j) s.toks) {s with toks:=s.toks+1}->wpAny (model X.prog X.w) X.A (f (.int i t) (.int j u)) Q E s) :
  OpR X f (rI0 λi j=>.int (g i j)):=by
 intro pins s σ H x y v u Q I rx ry h;obtain⟨i,j,rfl,rfl,q⟩:=h;obtain⟨t,rfl⟩:=rx;obtain⟨t',rfl⟩:=ry;exact rule i j t t' s _ _ ⟨.int (g i j),H,I.tok _,⟨_,rfl⟩,q⟩
theorem a9Z {f:Value->Value->Sem Value}{g:Int->Int->Bool}
  (rule:∀(i j:Int) (t u:Tok) (s:Shared) (Q:Value->Shared->Prop) (E:Value->Shared->Prop),Q (.bool (g i j)) s->wpAny (model X.prog X.w) X.A (f (.int i t) (.int j u)) Q E s) :
  OpR X f (rI0 λi j=>.bl (g i j)):=by
 intro pins s σ H x y v u Q I rx ry h;obtain⟨i,j,rfl,rfl,q⟩:=h;obtain⟨t,rfl⟩:=rx;obtain⟨t',rfl⟩:=ry;exact rule i j t t' s _ _ ⟨.bl (g i j),H,I,rfl,q⟩
def a9v (i j:Int):Prop:=0<j/\j<1073741824
def b4Z (i j:Int):Prop:=0<=j/\j<=1000000/\i.natAbs<2 ^ 64
def a1n (i j:Int):Prop:=(-(2 ^ 64)<i/\i<2 ^ 64)\/(-(2 ^ 64)<j/\j<2 ^ 64)
theorem a1n.ok {i j:Int}(h:a1n i j):IntMulOk i j:=by
 rcases h with ⟨h1,h2⟩ | ⟨h1,h2⟩
 ·exact .of_left (intBits_le_64 h1 h2)
 ·exact .of_right (intBits_le_64 h1 h2)
theorem K3:OpR X (binaryOp .Add) (rI0 λi j=>.int (i+j)):=b3U λ_ _ _ _ _ _ _ q=>add_int q
theorem N0:OpR X (binaryOp .Sub) (rI0 λi j=>.int (i-j)):=b3U λ_ _ _ _ _ _ _ q=>sub_int q
theorem N6:OpR X (binaryOp .Mult) (rI a1n λi j=>.int (i*j)):=opI λ_ _ _ _ _ _ _ hc q=>mul_int q hc.ok
theorem Z2:OpR X (binaryOp .FloorDiv) (rI a9v λi j=>.int (i / j)):=opI λi j _ _ _ _ _ hc q=>by
 have h1:(0:Int)<j:=hc.1;have h2:j<1073741824:=hc.2;exact floordiv_int ∅ (by rw[Int.fdiv_eq_ediv_of_nonneg i ∅];exact q) (.inl (PyProof.noPylong_small ∅))
theorem P9:OpR X (binaryOp .Mod) (rI (λ_ j=>0<j) λi j=>.int (i % j)):=opI λi j _ _ _ _ _ hc q=>by
 have h1:(0:Int)<j:=hc;exact mod_int' ∅ (by rw[Int.fmod_eq_emod_of_nonneg i ∅];exact q)
theorem b2h:OpR X (binaryOp .Pow) (rI b4Z λi j=>.int (i ^ j.toNat)):=opI λ_ _ _ _ _ _ _ hc q=>pow_int_small hc.1 hc.2.1 hc.2.2 q
theorem unI {f:Value->Sem Value}{g:Int->Int}
  (rule:∀(i:Int) (t:Tok) (s:Shared) (Q:Value->Shared->Prop) (E:Value->Shared->Prop),Q (.int (g i) s.toks) {s with toks:=s.toks+1}->wpAny (model X.prog X.w) X.A (f (.int i t)) Q E s) :
  UnR X f (rU λi=>.int (g i)):=by
 intro pins s σ H x v Q I rx h;obtain⟨i,rfl,q⟩:=h;obtain⟨t,rfl⟩:=rx;exact rule i t s _ _ ⟨.int (g i),H,I.tok _,⟨_,rfl⟩,q⟩
theorem a7Q:UnR X (unaryOp .USub) (rU λi=>.int (-i)):=unI λ_ _ _ _ _ q=>neg_int q
end
def a8h:V->V->Bool
 | .non,.non=>true | .non,.int _=>true | .int _,.non=>true | .non,.bl _=>true | .bl _,.non=>true | .non,.str _=>true | .str _,.non=>true
 | .int _,.int _=>true | .bl _,.bl _=>true | .str _,.str _=>true | .byt _,.byt _=>true
 | .int _,.str _=>true | .str _,.int _=>true | .bl _,.str _=>true | .str _,.bl _=>true
 | _,_=>false
def rEq:R2:=λx y H Q=>a8h x y=true/\Q (.bl (decide (x=y))) H
def rNe:R2:=λx y H Q=>a8h x y=true/\Q (.bl (!decide (x=y))) H
theorem a6P {i j:Int}:decide (V.int i=V.int j)=(i == j):=by
 rw[fq];simp
theorem a9k {i j:Bool}:decide (V.bl i=V.bl j)=(i == j):=by
 rw[fq];simp
theorem a6O {i j:Str}:decide (V.str i=V.str j)=(i == j):=by
 rw[fq];simp
theorem a6Q {i j:Array UInt8}:decide (V.byt i=V.byt j)=(i.toList == j.toList):=by
 rw[fq];cases i;cases j;simp
section
variable {X:Cx}{a b c:Expr}{ta tb tc:TE}{pos:Pos}
theorem J5 {pins:List (Addr×Obj)}{σ:St}{H:Hp}{s:Shared}{Q:VK}{k k':Bool}(I:Inv X pins σ H s)(q:Q (.bl k) H)(e:k=k'):EP X pins σ Q (.bool k') s:=by
 subst e;exact⟨.bl k,H,I,rfl,q⟩
theorem J7:OpR X (compareOp .Eq) rEq:=by
 intro pins s σ H x y v u Q I rx ry h;obtain⟨hs,q⟩:=h;cases x with
 | non =>
  cases rx;cases y with
  | non=>cases ry;exact PySem.EqNone.eq_none_none (J5 I q (by simp))
  | bl j=>cases ry;exact PySem.EqNone.eq_none_bool (J5 I q (by simp))
  | int j=>obtain⟨t',rfl⟩:=ry;exact PySem.EqNone.eq_none_int (J5 I q (by simp))
  | str j=>obtain⟨t',rfl⟩:=ry;exact PySem.EqNone.eq_none_str (J5 I q (by simp))
  | _=>exact absurd (show false=true from hs) aV
 | bl i =>
  cases rx;cases y with
  | non=>cases ry;exact PySem.EqNone.eq_bool_none (J5 I q (by simp))
  | bl j=>cases ry;exact eq_bool (J5 I q a9k)
  | str j=>obtain⟨t',rfl⟩:=ry;exact PySem.EqMixed.eq_bool_str (J5 I q (by simp))
  | _=>exact absurd (show false=true from hs) aV
 | int i =>
  obtain⟨t,rfl⟩:=rx;cases y with
  | non=>cases ry;exact PySem.EqNone.eq_int_none (J5 I q (by simp))
  | int j=>obtain⟨t',rfl⟩:=ry;exact eq_int (J5 I q a6P)
  | str j=>obtain⟨t',rfl⟩:=ry;exact PySem.EqMixed.eq_int_str (J5 I q (by simp))
  | _=>exact absurd (show false=true from hs) aV
 | str i =>
  obtain⟨t,rfl⟩:=rx;cases y with
  | non=>cases ry;exact PySem.EqNone.eq_str_none (J5 I q (by simp))
  | bl j=>cases ry;exact PySem.EqMixed.eq_str_bool (J5 I q (by simp))
  | int j=>obtain⟨t',rfl⟩:=ry;exact PySem.EqMixed.eq_str_int (J5 I q (by simp))
  | str j=>obtain⟨t',rfl⟩:=ry;exact eq_str (J5 I q a6O)
  | _=>exact absurd (show false=true from hs) aV
 | byt i =>
  obtain⟨t,rfl⟩:=rx;cases y with
  | byt j=>obtain⟨t',rfl⟩:=ry;exact PySem.W.eq_bytes (J5 I q a6Q)
  | _=>exact absurd (show false=true from hs) aV
 | _=>cases y<;>exact absurd (show false=true from hs) aV
theorem a0E:OpR X (compareOp .NotEq) rNe:=by
 intro pins s σ H x y v u Q I rx ry h;obtain⟨hs,q⟩:=h;cases x with
 | non =>
  cases rx;cases y with
  | non=>cases ry;exact PySem.EqNone.ne_none_none (J5 I q (by simp))
  | bl j=>cases ry;exact PySem.EqNone.ne_none_bool (J5 I q (by simp))
  | int j=>obtain⟨t',rfl⟩:=ry;exact PySem.EqNone.ne_none_int (J5 I q (by simp))
  | str j=>obtain⟨t',rfl⟩:=ry;exact PySem.EqNone.ne_none_str (J5 I q (by simp))
  | _=>exact absurd (show false=true from hs) aV
 | bl i =>
  cases rx;cases y with
  | non=>cases ry;exact PySem.EqNone.ne_bool_none (J5 I q (by simp))
  | bl j=>cases ry;exact ne_bool (J5 I q (congrArg not a9k))
  | str j=>obtain⟨t',rfl⟩:=ry;exact PySem.EqMixed.ne_bool_str (J5 I q (by simp))
  | _=>exact absurd (show false=true from hs) aV
 | int i =>
  obtain⟨t,rfl⟩:=rx;cases y with
  | non=>cases ry;exact PySem.EqNone.ne_int_none (J5 I q (by simp))
  | int j=>obtain⟨t',rfl⟩:=ry;exact ne_int (J5 I q (congrArg not a6P))
  | str j=>obtain⟨t',rfl⟩:=ry;exact PySem.EqMixed.ne_int_str (J5 I q (by simp))
  | _=>exact absurd (show false=true from hs) aV
 | str i =>
  obtain⟨t,rfl⟩:=rx;cases y with
  | non=>cases ry;exact PySem.EqNone.ne_str_none (J5 I q (by simp))
  | bl j=>cases ry;exact PySem.EqMixed.ne_str_bool (J5 I q (by simp))
  | int j=>obtain⟨t',rfl⟩:=ry;exact PySem.EqMixed.ne_str_int (J5 I q (by simp))
  | str j=>obtain⟨t',rfl⟩:=ry;exact ne_str (J5 I q (congrArg not a6O))
  | _=>exact absurd (show false=true from hs) aV
 | byt i =>
  obtain⟨t,rfl⟩:=rx;cases y with
  | byt j=>obtain⟨t',rfl⟩:=ry;exact PySem.W.ne_bytes (J5 I q (congrArg not a6Q))
  | _=>exact absurd (show false=true from hs) aV
 | _=>cases y<;>exact absurd (show false=true from hs) aV
theorem a8t:OpR X (compareOp .Lt) (rI0 λi j=>.bl (decide (i<j))):=a9Z λ_ _ _ _ _ _ _ q=>lt_int q
theorem b1n:OpR X (compareOp .LtE) (rI0 λi j=>.bl (decide (i<=j))):=a9Z λ_ _ _ _ _ _ _ q=>le_int q
theorem a3h:OpR X (compareOp .Gt) (rI0 λi j=>.bl (decide (j<i))):=a9Z λ_ _ _ _ _ _ _ q=>gt_int q
theorem b1o:OpR X (compareOp .GtE) (rI0 λi j=>.bl (decide (j<=i))):=a9Z λ_ _ _ _ _ _ _ q=>ge_int q
theorem B5 (b:Expr){op:CmpOp}(h:op≠.In:=by decide)(h2:op≠.NotIn:=by decide):behindInMarks op b=false:=by
 have e1:(op == CmpOp.In)=false:=by cases op<;>first | rfl | exact absurd rfl h
 have e2:(op == CmpOp.NotIn)=false:=by cases op<;>first | rfl | exact absurd rfl h2
 cases b<;>simp[behindInMarks,e1,e2]
theorem J0 {op:CmpOp}{r:R2}(ho:OpR X (compareOp op) r)(ha:PE X a ta)(hb:PE X b tb)(hm:behindInMarks op b=false):PE X (.Compare a [op] [b] pos) (tOp r ta tb):=by
 intro pins s σ H Q I h;exact wpAny_Compare1 (b3a ha hb I h λv u s2 x y H2 I2 rx ry q=>ho pins s2 σ H2 x y v u Q I2 rx ry q) hm
def a7Z (t:TE):TT:=fun σ H Q=>t σ H λx H'=>∃ k,x=.bl k/\Q k H'
theorem B4 {op:CmpOp}{r:R2}(ho:OpR X (compareOp op) r)(ha:PE X a ta)(hb:PE X b tb)(hm:behindInMarks op b=false):PT X (.Compare a [op] [b] pos) (a7Z (tOp r ta tb)):=by
 intro pins s σ H Q I h
 refine ka (thn (ha pins s σ H _ I h) λv s1 ⟨x,H1,I1,r1,q1⟩=>thn (hb pins s1 σ H1 _ I1 q1) λu s2 ⟨y,H2,I2,r2,q2⟩ =>
  thn (ho pins s2 σ H2 x y v u _ I2 r1 r2 q2) λc s3 ⟨z,H3,I3,r3,k,e,q3⟩=>?_) hm
 subst e;cases r3;exact cY ⟨H3,I3,q3⟩
def a8d (r r':R2)(ta tb tc:TE):TE:=fun σ H Q=>ta σ H λx H1=>tb σ H1 λy H2=>r x y H2 λz H3=>∃ k,z=.bl k /\
 (if k=true then tc σ H3 λw' H4=>r' y w' H4 Q else Q (.bl false) H3)
theorem a8q {op op':CmpOp}{r r':R2}(ho:OpR X (compareOp op) r)(ho':OpR X (compareOp op') r')(ha:PE X a ta)(hb:PE X b tb)(hc:PE X c tc)
  (hm:lastMarks [op,op'] [b,c]=false:=by with_unfolding_all rfl):PE X (.Compare a [op,op'] [b,c] pos) (a8d r r' ta tb tc):=by
 intro pins s σ H Q I h
 refine Compare_chain (thn (ha pins s σ H _ I h) λv s1 ⟨x,H1,I1,r1,q1⟩=>chain_link (thn (hb pins s1 σ H1 _ I1 q1) λu s2 ⟨y,H2,I2,r2,q2⟩ =>
  thn (ho pins s2 σ H2 x y v u _ I2 r1 r2 q2) λd s3 ⟨z,H3,I3,r3,k,e,q3⟩=>?_)) hm
 subst e;cases r3;refine cY ?_;cases k with
 | false=>exact ite_ff ⟨.bl false,H3,I3,rfl,q3⟩
 | true=>exact ite_tt (chain_last (thn (hc pins s3 σ H3 _ I3 q3) λw' s4 ⟨z',H4,I4,r4,q4⟩=>ho' pins s4 σ H4 y z' u w' Q I4 r2 r4 q4))
def b3f (K:ah)(x:V)(H:Hp)(k:Bool):Prop :=
 match x with
 | .non=>k=false
 | .bl b=>k=b
 | .int i=>k=(i != 0)
 | .str y=>y.length<=sizeLine/\k=((y.length:Int) != 0)
 | .byt y=>y.size<=sizeLine/\k=((y.size:Int) != 0)
 | .ref p=>(∃ xs,SqL K H p xs/\k=!xs.isEmpty)\/(∃ xs,SqT K H p xs/\k=!xs.isEmpty)\/∃ kvs,H p=some (.dK kvs)/\k=!kvs.isEmpty
 | _=>False
theorem a5P {κ:Type}{kvs:List (κ×V)}{vs:List (κ×Value)}(r:KV kvs vs):(!vs.isEmpty)=!kvs.isEmpty:=by
 cases r<;>rfl
theorem a2n {xs:List V}{its:List Value}(r:E2 xs its):(!its.toArray.isEmpty)=!xs.isEmpty:=by
 cases r<;>simp
theorem a2g:(sizeLine:Nat)<2 ^ 63:=by rw[sizeLine_eq];decide
theorem b1z:b4W X (λx H Q=>∃ k,b3f X.K x H k/\Q k H):=by
 intro pins s σ H x v Q I rx h;obtain⟨k,e,q⟩:=h;have hl:=a2g;have hs:sizeLine=16777216:=sizeLine_eq;cases x with
 | non =>
  cases rx;have e':k=false:=e;subst e';exact truthy_none ⟨H,I,q⟩
 | bl b =>
  cases rx;have e':k=b:=e;subst e';exact cY ⟨H,I,q⟩
 | int i =>
  obtain⟨t,rfl⟩:=rx;have e':k=(i != 0):=e;subst e';exact PySem.P.truthy_int ⟨H,I,q⟩
 | str y =>
  obtain⟨t,rfl⟩:=rx;obtain⟨hy,e'⟩:y.length<=sizeLine/\k=((y.length:Int) != 0):=e;subst e';exact PySem.P.truthy_str ∅ ⟨H,I.tok _,q⟩
 | byt y =>
  obtain⟨t,rfl⟩:=rx;obtain⟨hy,e'⟩:y.size<=sizeLine/\k=((y.size:Int) != 0):=e;subst e';exact PySem.W.truthy_bytes ∅ ⟨H,I.tok _,q⟩
 | ref p =>
  cases rx;have e':(∃ xs,SqL X.K H p xs/\k=!xs.isEmpty)\/(∃ xs,SqT X.K H p xs/\k=!xs.isEmpty)\/∃ kvs,H p=some (.dK kvs)/\k=!kvs.isEmpty:=e;rcases e' with ⟨xs,hx,e'⟩ | ⟨xs,hx,e'⟩ | ⟨kvs,hx,e'⟩
  ·subst e';obtain⟨its,r,pl,hz⟩:=I.list hx;have hlen:=r.length;exact wpAny_truthy_list pl.isList (by simp only[aQ];omega) ⟨H,I.tok _,by rw[a2n r];exact q⟩
  ·subst e';obtain⟨its,r,pl,hz⟩:=I.tuple hx;have hlen:=r.length;exact truthy_tuple pl (by simp only[aQ];omega) ⟨H,I.tok _,by rw[a2n r];exact q⟩
  ·subst e';obtain⟨hz,hS,vs,r,m⟩:kvs.length<=sizeLine/\(p == sysModules)=false/\∃ vs,KV kvs vs/\s.heap.DictOf (L1 X.prog X.w) p vs:=I.hok p _ hx;have hlen:kvs.length=vs.length:=gU r;exact wpAny_truthy_dict hS m ∅ ⟨H,I.tok _,by rw[a5P r];exact q⟩
 | _=>exact (show False from e).elim
theorem a8k (ha:PE X a ta)(he:∀ whole,isTrue a X.env whole=(do let v <- whole;standAt a.pos;holding [v] (truthy v))) :
  PT X a (fun σ H Q=>ta σ H λx H'=>∃ k,b3f X.K x H' k/\Q k H'):=by
 intro pins s σ H Q I h;exact isTrue_plain (thn (ha pins s σ H _ I h) λv s1 ⟨x,H1,I1,r1,q1⟩=>b1z pins s1 σ H1 x v Q I1 r1 q1) (he _)
theorem V4 {x:V}{us:List Value}(r:E2 [x] us):∃ u,us=[u]/\J2 x u:=by
 cases r with
 | cons r1 r2=>cases r2;exact⟨_,rfl,r1⟩
theorem a6c {x y:V}{us:List Value}(r:E2 [x,y] us):∃ u w',us=[u,w']/\J2 x u/\J2 y w':=by
 cases r with
 | cons r1 r2 =>
  cases r2 with
  | cons r3 r4=>cases r4;exact⟨_,_,rfl,r1,r3⟩
theorem Z7 (hc:X.calm=true):P3 X (.builtin "max") (λxs H Q=>∃ i j,xs=[.int i,.int j]/\Q (.int (if j>i then j else i)) H):=by
 intro pins s σ H xs us Q I r h;obtain⟨i,j,rfl,q⟩:=h;obtain⟨u,w',rfl,⟨t,rfl⟩,⟨t',rfl⟩⟩:=a6c r;refine max_two_ints (I.ok.hd hc) λh' tk k=>⟨_,H,I.kept k,?_,q⟩
 by_cases hj:j>i
 ·rw[if_pos hj,if_pos hj];exact⟨_,rfl⟩
 ·rw[if_neg hj,if_neg hj];exact⟨_,rfl⟩
theorem Z6 (hc:X.calm=true):P3 X (.builtin "min") (λxs H Q=>∃ i j,xs=[.int i,.int j]/\Q (.int (if j<i then j else i)) H):=by
 intro pins s σ H xs us Q I r h;obtain⟨i,j,rfl,q⟩:=h;obtain⟨u,w',rfl,⟨t,rfl⟩,⟨t',rfl⟩⟩:=a6c r;refine min_two_ints (I.ok.hd hc) λh' tk k=>⟨_,H,I.kept k,?_,q⟩
 by_cases hj:j<i
 ·rw[if_pos hj,if_pos hj];exact⟨_,rfl⟩
 ·rw[if_neg hj,if_neg hj];exact⟨_,rfl⟩
theorem a7G:P3 X (.type "int") (λxs H Q=>(∃ i,xs=[.int i]/\Q (.int i) H)\/∃ k,xs=[.bl k]/\Q (.int (if k then 1 else 0)) H):=by
 intro pins s σ H xs us Q I r h;rcases h with ⟨i,rfl,q⟩ | ⟨k,rfl,q⟩
 ·obtain⟨u,rfl,t,rfl⟩:=V4 r;exact call_int_int ⟨.int i,H,I,⟨_,rfl⟩,q⟩
 ·obtain⟨u,rfl,r1⟩:=V4 r;cases r1;exact call_int_bool ⟨.int (if k then 1 else 0),H,I.tok _,⟨_,rfl⟩,q⟩
end
end L2
namespace L2
open PySem PySem.Spec PyProof.Rows
structure b3k (h:Heap)(x dx C:Addr)(mA:Str->Option Value):Prop where
 obj:h.get? x=some (dU C dx)
 ns:h.Ns1 dx mA
 ne:dx≠x
theorem a7p {h:Heap}{dx:Addr}{mA:Str->Option Value}(n:h.Ns1 dx mA):∃ od,h.get? dx=some od/\∀ name,PySem.W.lookIn name od=some (mA name):=by
 obtain⟨o,es,ep,ho,hd,hk,_,hm⟩:=n;refine⟨o,ho,λname=>?_⟩;have e:=hm name;unfold nsFind findBy at e;rw[<- Array.find?_toList] at e;unfold PySem.W.lookIn;rw[hd];dsimp only;split
 ·rename_i y q;rw[q] at e;exact congrArg some e
 ·rename_i q;rw[q] at e;have a:es.toList.any (·.refKey)=false:=by
   rw[List.any_eq_false];intro y hy;obtain⟨z,t,hkey⟩:=hk y (Array.mem_toList_iff.mp hy);simp[DictEntry.refKey,hkey]
  have a':¬ es.toList.any (·.refKey)=true:=by rw[a];exact aV
  rw[if_neg a'];exact congrArg some e
theorem b3k.look {h:Heap}{x dx C:Addr}{mA:Str->Option Value}(I:b3k h x dx C mA):∃ od,PySem.W.InstAt h x (dU C dx) C (some od)/\∀ name,PySem.W.lookIn name od=some (mA name) :=
 let ⟨od,ho,hl⟩:=a7p I.ns
 ⟨od,⟨I.obj,rfl,rfl,ho⟩,hl⟩
section
variable {P:Program}{w:World}{H H':Hp}{h h':Heap}{a C dx:Addr}{fs fs':List (Str×V)}
theorem b0G (hok:HOk P w H h)(e:H a=some (.ins C dx fs)):∃ mA,b3k h a dx C mA/\(∀ f,a4o (fs.lookup f) (mA f))/\PySem.Within mA (fs.map (·.1))/\fs.length<=1000/\H dx=some (.own a):=by
 obtain⟨d,z,ne,ob,mA,n,r,q⟩:=(show L8 P w H h a (.ins C dx fs) from hok a _ e)
 exact⟨mA,⟨ob,n,ne⟩,r,q,z,d⟩
end
structure Cls (K:ah)(C:Addr):Prop where
 pg:PySem.W.plainGet K C Str.empty=true
 hd:PySem.W.hasDictIn K C=true
 po:PySem.W.plainOver K C=true
 sa:PySem.W.findIn K (.ref C) "__setattr__"=some (some (.builtin "object.__setattr__"))
theorem Cls.get {K:ah}{C:Addr}(c:Cls K C)(f:Str):PySem.W.plainGet K C f=true:=c.pg
section
variable {X:Cx}{pins:List (Addr×Obj)}{σ:St}{H:Hp}{s:Shared}{a C dx:Addr}{fs:List (Str×V)}{f:Str}{v:V}{A:Around}{E:Value->Shared->Prop}
theorem Inv.made (I:Inv X pins σ H s):Inv X pins σ (upd (upd H s.heap.objs.size (.own (s.heap.objs.size+1))) (s.heap.objs.size+1) (.ins C s.heap.objs.size []))
  {s with heap:=(s.heap.push di).push (dU C s.heap.objs.size)}:=by
 have e1:(s.heap.push di).get? s.heap.objs.size=some di:=aK s.heap rfl;have e2:((s.heap.push di).push (dU C s.heap.objs.size)).get? (s.heap.objs.size+1)=some (dU C s.heap.objs.size):=by
  have:=aK (s.heap.push di) (o:=dU C s.heap.objs.size) rfl
  rwa [cV] at this
 have e3:(s.heap.push di).Ns s.heap.objs.size (λ_=>none):=⟨di,#[],_,e1,rfl,(λe he=>absurd he (by simp)),λ_=>rfl⟩
 have I1:=I.laid (a:=s.heap.objs.size) (o:=.own (s.heap.objs.size+1)) (h':=s.heap.push di) (t':=s.toks) (λb u q=>am _ q) (aC _) ⟨_,e1⟩;refine I1.laid (a:=s.heap.objs.size+1) (o:=.ins C s.heap.objs.size []) (t':=s.toks) (λb u q=>am _ q) (ge (cV _ _)) ?_;have ne:s.heap.objs.size≠s.heap.objs.size+1:=aU (dD _);refine⟨by rw[B3 ne,A3],bo _,ne,e2,λ_=>none,(Heap.Ns1.of_empty e3).at λo q=>am _ q,λ_=>dR,λy hy=>absurd rfl hy⟩
end
section
variable {X:Cx}{pins:List (Addr×Obj)}{σ:St}{H:Hp}{s:Shared}{A:Around}{E:Value->Shared->Prop}{Q:Value->Shared->Prop}{c:Value}{b:Bool}
inductive a1k (K:ah)(H:Hp):V->Value->Prop where
 | non:a1k K H .non (.type "NoneType")
 | bl (x:Bool):a1k K H (.bl x) (.type "bool")
 | int (i:Int):a1k K H (.int i) (.type "int")
 | str (x:Str):a1k K H (.str x) (.type "str")
 | flt (x:UInt64):a1k K H (.flt x) (.type "float")
 | lst {a:Addr} {xs:List V} (e:H a=some (.lst xs)):a1k K H (.ref a) (.type "list")
 | frz {a:Addr} {o:Obj} {xs:List V} (e:H a=some (.frz o (.lst xs))):a1k K H (.ref a) (.type "list")
 | tup {a:Addr} {xs:List V} (e:H a=some (.tup xs)):a1k K H (.ref a) (.type "tuple")
 | dK {a:Addr} {kvs:List (Key×V)} (e:H a=some (.dK kvs)):a1k K H (.ref a) (.type "dict")
 | dT {a:Addr} {kvs:List (List Key×V)} (e:H a=some (.dT kvs)):a1k K H (.ref a) (.type "dict")
 | ins {a C dx:Addr} {fs:List (Str×V)} (e:H a=some (.ins C dx fs)) (cl:Cls K C) (ha:PySem.W.findIn K (.ref C) "__class__"=some (some (.builtin "object.__class__")))
   (hn:PySem.W.specialIn K (.builtin "object.__class__") "__get__"=some (some (.builtin "getset_descriptor.__get__"))) (htk:PySem.W.takesIn K (.builtin "object.__class__")=some true)
   (hm:PySem.W.mroIn K C (.type "object")=some true):a1k K H (.ref a) (.ref C)
theorem a7t {x:V}{u t:Value}(I:Inv X pins σ H s)(rx:J2 x u)(ty:a1k X.K H x t)(e:PySem.W.kitOne X.K t c=some b)(h:∀ tk,Q (.bool b) {s with toks:=tk}) :
  wpAny (model X.prog X.w) A (call (.builtin "isinstance") [u,c]) Q E s:=by
 cases ty with
 | non=>cases (show u=cJ from rx);exact cL PySem.W.kitx_none I.kIn dR e (λz=>nomatch z) h
 | bl y=>cases (show u=bE y from rx);exact cL PySem.W.kitx_bool I.kIn dR e (λz=>nomatch z) h
 | int i=>obtain⟨t,q⟩:=(show ∃ t,u=dO i t from rx);cases q;exact cL PySem.W.kitx_int I.kIn dR e (λz=>nomatch z) h
 | str y=>obtain⟨t,q⟩:=(show ∃ t,u=iJ y t from rx);cases q;exact cL PySem.W.kitx_str I.kIn dR e (λz=>nomatch z) h
 | flt y=>obtain⟨t,q⟩:=(show ∃ t,u=Value.float y t from rx);cases q;exact cL PySem.W.kitx_float I.kIn dR e (λz=>nomatch z) h
 | @lst a xs ea =>
  cases (show u=bX a from rx);obtain⟨_,_,n,_,h1⟩:=(show L8 X.prog X.w H s.heap a (.lst xs) from I.hok a _ ea)
  exact cL jG I.kIn ⟨_,h1,rfl⟩ e (λz=>nomatch z) h
 | @frz a ob xs ea =>
  cases (show u=bX a from rx);obtain⟨_,_,_,n,_,h1⟩:=(show L8 X.prog X.w H s.heap a (.frz ob (.lst xs)) from I.hok a _ ea)
  exact cL jG I.kIn ⟨_,h1,rfl⟩ e (λz=>nomatch z) h
 | @tup a xs ea =>
  cases (show u=bX a from rx);obtain⟨_,_,_,p⟩:=(show L8 X.prog X.w H s.heap a (.tup xs) from I.hok a _ ea)
  obtain⟨o,h1,h2,_⟩:=p;exact cL PySem.W.kitx_tuple I.kIn ⟨o,h1,h2⟩ e (λz=>nomatch z) h
 | @dK a kvs ea =>
  cases (show u=bX a from rx);obtain⟨_,_,vs,_,p⟩:=(show L8 X.prog X.w H s.heap a (.dK kvs) from I.hok a _ ea)
  obtain⟨o,es,ep,h1,h2,_⟩:=p;exact cL jH I.kIn ⟨o,h1,h2.1⟩ e (λz=>nomatch z) h
 | @dT a kvs ea =>
  cases (show u=bX a from rx);obtain⟨_,_,xs,_,o,es,ep,h1,h2,_⟩:=(show L8 X.prog X.w H s.heap a (.dT kvs) from I.hok a _ ea)
  exact cL jH I.kIn ⟨o,h1,h2.1⟩ e (λz=>nomatch z) h
 | @ins a C dx fs ea cl ha hn htk hm =>
  cases (show u=bX a from rx);obtain⟨mA,O,_⟩:=b0G I.hok ea;obtain⟨od,J,_⟩:=O.look;exact cL (PySem.W.kitx_own (cl.get _) cl.hd ha hn htk hm) I.kIn J e (λz=>nomatch z) h
end
end L2
namespace L2
open PySem PySem.Spec PyProof.Rows
structure T2 (k:Nat)(A:Around):Prop where
 hd:A.handled=none
 dp:A.depth+3*k+5<recursionLimit
 un:A.units+16*k+200<cLine
 gd:A.guards=some []
theorem T2.mono {j k:Nat}{A:Around}(r:T2 k A)(h:j<=k):T2 j A:=⟨r.hd,by have:=r.dp;omega,by have:=r.un;omega,r.gd⟩
theorem T2.deeper {k:Nat}{A:Around}(r:T2 (k+1) A)(env:Env):T2 k (A.deeper env) :=
 ⟨r.hd,by have:=r.dp;show A.depth+1+3*k+5<_;omega,by have:=r.un;show A.units+3+16*k+200<_;omega,r.gd⟩
theorem T2.in1 {k:Nat}{A:Around}(r:T2 (k+1) A):T2 k A.in1 :=
 ⟨r.hd,by have:=r.dp;show A.depth+3*k+5<_;omega,by have:=r.un;show A.units+1+16*k+200<_;omega,r.gd⟩
theorem T2.depth {k:Nat}{A:Around}(r:T2 k A):A.depth<recursionLimit:=by have:=r.dp;omega
theorem T2.units {k:Nat}{A:Around}(r:T2 k A):A.units+64<cLine:=by have:=r.un;omega
def b3C:TA:=λ_ H Q=>Q [] H
def b1h (ta:TE)(tr:TA):TA:=fun σ H Q=>ta σ H λx H1=>tr σ H1 λxs H2=>Q (x::xs) H2
section
variable {X:Cx}{e:Expr}{es:List Expr}{te:TE}{t:TA}{pos:Pos}
theorem A1:PA X [] b3C:=λ_ _ _ _ H Q I h=>gh ⟨[],H,I,.nil,h⟩
theorem A0 (ha:PE X e te)(hr:PA X es t)(hs:starEach (e::es) X.env=(false,eval e X.env)::starEach es X.env:=by rfl):PA X (e::es) (b1h te t):=by
 intro pos pins s σ H Q I h;rw[hs];show wpAny _ _ (spliced ((false,eval e X.env)::backTo pos (starEach es X.env))) _ _ s;refine fY (thn (ha pins s σ H _ I h) λu s1 ⟨x,H1,I1,r1,q1⟩=>?_);exact thn (hr pos pins s1 σ H1 _ I1 q1) λus s2 ⟨xs,H2,I2,r2,q2⟩=>⟨x::xs,H2,I2,.cons r1 r2,q2⟩
def b3s (t:TA):TE:=fun σ H Q=>t σ H λxs H1=>xs.length<=sizeLine/\∀ p,H1 p=none->Q (.ref p) (upd H1 p (.tup xs))
def b3E (t:TA):TE:=fun σ H Q=>t σ H λxs H1=>xs.length<=sizeLine/\∀ p,H1 p=none->Q (.ref p) (upd H1 p (.lst xs))
theorem E9 {x1}(h:PA X es t):PE X (.Tuple es x1 pos) (b3s t):=by
 intro pins s σ H Q I hq;refine wpAny_Tuple_spliced (thn (h pos pins s σ H _ I hq) λus s1 ⟨xs,H1,I1,r,z,q⟩=>⟨by rw[<- r.length];exact z,?_⟩);have hf:H1 s1.heap.objs.size=none:=I1.hok.fresh (aC _);refine⟨.ref s1.heap.objs.size,upd H1 s1.heap.objs.size (.tup xs),I1.laid (t':=s1.toks) (λb u e=>am _ e) (aC _) ?_,rfl,q _ hf⟩;exact⟨z,us,r,⟨_,aK _ rfl,rfl,_,rfl⟩⟩
theorem J3 (h:PA X es t):PE X (.List es pos) (b3E t):=by
 intro pins s σ H Q I hq;refine wpAny_List_spliced (thn (h pos pins s σ H _ I hq) λus s1 ⟨xs,H1,I1,r,z,q⟩=>⟨by rw[<- r.length];exact z,?_⟩);have hf:H1 s1.heap.objs.size=none:=I1.hok.fresh (aC _);refine⟨.ref s1.heap.objs.size,upd H1 s1.heap.objs.size (.lst xs),I1.laid (t':=s1.toks) (λb u e=>am _ e) (aC _) ?_,rfl,q _ hf⟩;exact⟨z,us,0,r,aK _ rfl⟩
end
abbrev Sp:=List V->Hp->VK->XK->Prop
abbrev CXT:=List Env->Hp->Shared->XK->Value->Shared->Prop
structure a5Z (P:Program)(w:World)(K:ah)(mg:Str->Option Value)(base:Heap)(A:Around)(outer:List Env)(s:Shared)(H:Hp):Prop where
 frames:A.frames=some outer
 mod:Mod K mg base
 bs:∀ b o,base.get? b=some o->s.heap.get? b=some o/\H b=none
 bsz:base.objs.size<=s.heap.objs.size
 funs:s.heap.FunFrames base outer
 frf:∀ b∈frs outer,H b=none
 hok:HOk P w H s.heap
 bare:AllBare s.gens
def CE (outer:List Env)(P:Program)(w:World)(H:Hp)(s:Shared)(Q:VK)(u:Value)(s':Shared):Prop :=
 ∃ v H',s'.os=s.os/\AllBare s'.gens/\Un (frs outer) [] H H' s.heap s'.heap/\HOk P w H' s'.heap/\J2 v u/\Q v H'
def CR (CX:CXT)(outer:List Env)(P:Program)(w:World)(H:Hp)(s:Shared)(Q:VK)(E:XK)(r:Result)(s':Shared):Prop :=
 match r with
 | .ok (.ret u)=>CE outer P w H s Q u s'
 | .ok _=>False
 | .error e=>CX outer H s E e s'
structure E1 (P:Program)(w:World)(K:ah)(mg:Str->Option Value)(base:Heap)(CX:CXT)(k:Nat)(f:Addr)(fd:FuncData)(ps:List Str)(sp:Sp):Prop where
 len:∀ vs H Q E,sp vs H Q E->vs.length=ps.length
 run:∀(A:Around) (outer:List Env) (s:Shared) (H:Hp) (args:Args) (us:List Value) (vs:List V) (Q:VK) (E:XK),T2 k A->a5Z P w K mg base A outer s H->BindsTo s fd args (ps.zip us)->E2 vs us->sp vs H Q E ->
  codeAny (model P w) A (.call (.ref f) args) (CR CX outer P w H s Q E) s
theorem E1.mono {P:Program}{w:World}{K:ah}{mg:Str->Option Value}{base:Heap}{CX:CXT}{j k:Nat}{f:Addr}{fd:FuncData}{ps:List Str}{sp:Sp}(F:E1 P w K mg base CX j f fd ps sp)(h:j<=k) :
  E1 P w K mg base CX k f fd ps sp:=⟨F.len,λA outer s H args us vs Q E hr=>F.run A outer s H args us vs Q E (hr.mono h)⟩
theorem E1.imp {P:Program}{w:World}{K:ah}{mg:Str->Option Value}{base:Heap}{CX:CXT}{k:Nat}{f:Addr}{fd:FuncData}{ps:List Str}{sp sp':Sp}(F:E1 P w K mg base CX k f fd ps sp)
  (h:∀ vs H Q E,sp' vs H Q E->sp vs H Q E):E1 P w K mg base CX k f fd ps sp' :=
 ⟨λvs H Q E q=>F.len vs H Q E (h _ _ _ _ q),λA outer s H args us vs Q E hr he hb hv hs=>F.run A outer s H args us vs Q E hr he hb hv (h _ _ _ _ hs)⟩
theorem a5Z.in1 {P:Program}{w:World}{K:ah}{mg:Str->Option Value}{base:Heap}{A:Around}{outer:List Env}{s:Shared}{H:Hp}(e:a5Z P w K mg base A outer s H) :
  a5Z P w K mg base A.in1 outer s H:=⟨e.frames,e.mod,e.bs,e.bsz,e.funs,e.frf,e.hok,e.bare⟩
section
variable {X:Cx}{pins:List (Addr×Obj)}{σ:St}{H:Hp}{s s':Shared}
theorem Inv.env0 (I:Inv X pins σ H s):a5Z X.prog X.w X.K X.mg X.base X.A X.stack s H :=
 ⟨I.ok.frames,I.ok.mod,I.bs,bH I.ok.bsz I.sz,I.stack,I.stkFree,I.hok,I.bare⟩
theorem Inv.after {Q:VK}{u:Value}(I:Inv X pins σ H s)(h:CE X.stack X.prog X.w H s Q u s'):EP X pins σ Q u s':=by
 obtain⟨v,H',os,bare,un,hok,r,q⟩:=h;obtain⟨hh,g,d,t,os'⟩:=s';obtain rfl:os'=s.os:=os;exact⟨v,H',I.call (h':=hh) (g':=g) (d':=d) (t':=t) (ch:=[]) un hok bare (λb z=>absurd z (by simp)),r,q⟩
end
def a8e (sp:Sp)(dvs:List V)(E:XK)(t:TA):TE:=fun σ H Q=>t σ H λvs H1=>sp (vs++dvs) H1 Q E
def a3F (K:ah)(fd:FuncData)(ps:List Str)(ds:List Value):Prop :=
 ∀(s:Shared) (us:List Value),K.In s.heap->(us++ds).length=ps.length->BindsTo s fd ⟨us,[]⟩ (ps.zip (us++ds))
theorem a3F.all {K:ah}{fd:FuncData}{ps:List Str}(h:∀ us:List Value,us.length=ps.length->bindArgs fd ⟨us,[]⟩=pure (ps.zip us)):a3F K fd ps []:=λs us _ hl=>by
 rw[bp] at hl ⊢;exact .of_eq (h us hl)
def a5X (CX:CXT)(X:Cx)(E:XK):Prop:=∀(pins:List (Addr×Obj)) (σ:St) (H:Hp) (s:Shared) (e:Value) (s':Shared),Inv X pins σ H s->CX X.stack H s E e s'->X.xe e s'
section
variable {X:Cx}{CX:CXT}{k:Nat}{f C:Addr}{fd:FuncData}{ps:List Str}{sp:Sp}{dvs:List V}{ds:List Value}{E:XK}{x m:Str}{p pos apos:Pos}{e o:Expr}{es:List Expr}{ta:TE}{t:TA}
theorem b1U {pins:List (Addr×Obj)}{σ:St}{H:Hp}{s:Shared}{Q:VK}{us:List Value}{vs:List V}(F:E1 X.prog X.w X.K X.mg X.base CX k f fd ps sp)(hr:T2 k X.A)(hb:a3F X.K fd ps ds)(hd:E2 dvs ds)(hx:a5X CX X E)
  (I:Inv X pins σ H s) (r:E2 vs us) (h:sp (vs++dvs) H Q E):wpAny (model X.prog X.w) X.A (call (.ref f) us) (EP X pins σ Q) X.xe s:=by
 have r2:E2 (vs++dvs) (us++ds):=r.append hd;have hl:(us++ds).length=ps.length:=by rw[<- r2.length];exact F.len _ _ _ _ h
 refine wpAny_call (codeAny_mono (F.run X.A X.stack s H ⟨us,[]⟩ (us++ds) (vs++dvs) Q E hr I.env0 (hb s us I.kIn hl) r2 h) λr s' hq=>?_);cases r with
 | error e=>exact hx pins σ H s e s' I hq
 | ok fl =>
  cases fl with
  | ret u=>exact I.after hq
  | next=>exact dQ hq
  | brk=>exact dQ hq
  | cont=>exact dQ hq
theorem a9X (F:E1 X.prog X.w X.K X.mg X.base CX k f fd ps sp)(hr:T2 k X.A)(hg:Gl X x)(hm:X.mg x=some (.ref f))(hk:gH X.K (.ref f)=true)(hb:a3F X.K fd ps ds)(hd:E2 dvs ds)(hx:a5X CX X E)
  (ha:PA X (e::es) t) (hdb:(x == ("__debug__":Str))=false:=by decide) (he:starEach (e::es) X.env=(false,eval e X.env)::starEach es X.env:=by rfl) (hpl:(backTo pos (starEach es X.env)).any (·.1)=false:=by rfl) :
  PE X (.Call (.Name x p) (e::es) [] pos) (a8e sp dvs E t):=by
 intro pins s σ H Q I h;refine cG (b0n I hg hm ?_ hdb);refine PySem.W.callWith_K (h₀:=X.base) I.ok.mod.kin hk (thn (ha pos pins s σ H _ I h) λus s1 ⟨vs,H1,I1,r,q⟩=>⟨I1.kIn,?_⟩) he hpl;exact b1U F hr hb hd hx I1 r q
end
section
variable {X:Cx}{CX:CXT}{k:Nat}{f C:Addr}{fd:FuncData}{ps ks:List Str}{sp:Sp}{E:XK}{x m:Str}{p pos apos kpos:Pos}{e o:Expr}{es:List Expr}{kws:List Keyword}{te ta:TE}{t tk:TA}{nm:Option Str}
variable {g:List Value->List Value->List Value}{gV:List V->List V->List V}
end
structure D0 (N P:List Str)(sc:Scope):Prop where
 kind:sc.kind=.function
 co:sc.isCoroutine=false
 gen:sc.isGenerator=false
 nd:N.Nodup
 pre:N.take P.length=P
 par:∀ x∈P,sc.names.lookup x=some .local\/sc.names.lookup x=some .cell
 nofree:∀ y∈sc.names,y.2≠.free
theorem a3B {kindOf:Str->Option NameKind}{x:Str}:∀ {binds:List (Str×Value)} {m:Str->Option Value},(∀ v,(x,v)∉binds)->bindL kindOf binds m x=m x
 | [],_,_=>rfl
 | (n,v)::r,m,h=>by
  unfold bindL;rw[a3B λw hw=>h w (aI _ hw)];split
  ·have:x≠n:=by rintro rfl;exact h v aM
   simp[this]
  ·rfl
theorem a3D {kindOf:Str->Option NameKind}{x:Str}:∀ {binds:List (Str×Value)} {m:Str->Option Value},(∀ v,(x,v)∉binds)->bindC kindOf binds m x=m x
 | [],_,_=>rfl
 | (n,v)::r,m,h=>by
  unfold bindC;rw[a3D λw hw=>h w (aI _ hw)];split
  ·rfl
  ·have:x≠n:=by rintro rfl;exact h v aM
   simp[this]
theorem a3C {kindOf:Str->Option NameKind}{x:Str}{v:Value}:∀ {P:List Str} {vs:List Value} {i:Nat} {m:Str->Option Value},P.Nodup->P[i]?=some x->vs[i]?=some v->kindOf x=some .local ->
  bindL kindOf (P.zip vs) m x=some v
 | [],_,_,_,_,h,_,_=>by simp at h
 | _::_,[],_,_,_,_,h,_=>by simp at h
 | p::P,w::vs,0,m,nd,h1,h2,hk=>by
  simp at h1 h2;subst h1;subst h2;show bindL kindOf ((p,w)::P.zip vs) m p=_;unfold bindL;rw[a3B λv hv=>(bW.mp nd).1 (iS hv).1,if_pos hk];simp
 | p::P,w::vs,i+1,m,nd,h1,h2,hk=>by
  show bindL kindOf ((p,w)::P.zip vs) m x=_;unfold bindL;exact a3C (i:=i) (bW.mp nd).2 (~~~h1) (~~~h2) hk
theorem a3E {kindOf:Str->Option NameKind}{x:Str}{v:Value}:∀ {P:List Str} {vs:List Value} {i:Nat} {m:Str->Option Value},P.Nodup->P[i]?=some x->vs[i]?=some v->kindOf x≠some .local ->
  bindC kindOf (P.zip vs) m x=some v
 | [],_,_,_,_,h,_,_=>by simp at h
 | _::_,[],_,_,_,_,h,_=>by simp at h
 | p::P,w::vs,0,m,nd,h1,h2,hk=>by
  simp at h1 h2;subst h1;subst h2;show bindC kindOf ((p,w)::P.zip vs) m p=_;unfold bindC;rw[a3D λv hv=>(bW.mp nd).1 (iS hv).1,if_neg hk];simp
 | p::P,w::vs,i+1,m,nd,h1,h2,hk=>by
  show bindC kindOf ((p,w)::P.zip vs) m x=_;unfold bindC;exact a3E (i:=i) (bW.mp nd).2 (~~~h1) (~~~h2) hk
def R4 (N:List Str)(vs:List V):St:=vs.map some++List.replicate (N.length-vs.length) none
def a7D (CX:CXT)(P:Program)(w:World)(K:ah)(mg:Str->Option Value)(base:Heap)(N:List Str)(qual:Str)(scope:Scope)(f:Addr)(cd:Value)(A:Around)(outer:List Env)(s:Shared)(H:Hp)(E:XK):Cx where
 prog:=P
 w:=w
 K:=K
 mg:=mg
 base:=base
 A:=A.deeper (envOfC qual scope s.heap.objs.size f cd)
 N:=N
 sj:=s
 Hz:=H
 env:=envOfC qual scope s.heap.objs.size f cd
 outer:=outer
 stack:=envOfC qual scope s.heap.objs.size f cd::outer
 ex:=[]
 calm:=true
 fn:=λ_=>true
 pn:=[]
 xe:=λe s'=>wpAny (model P w) (A.deeper (envOfC qual scope s.heap.objs.size f cd)) (leaving (envOfC qual scope s.heap.objs.size f cd) e) (λ_ s''=>CX outer H s E e s'') (λe' s''=>CX outer H s E e' s'') s'
theorem a5u {sc:Scope}{n:Nat}{x:Str}(h:sc.names.lookup x=some .cell):∃ c,(cellsFrom n sc.names []).lookup x=some c:=by
 have q:=jc sc.names n [] (.inl h);exact eU.mp q
theorem a7w {CX:CXT}{P:Program}{w:World}{K:ah}{mg:Str->Option Value}{base:Heap}{N ps:List Str}{qual:Str}{scope:Scope}{f:Addr}{cd:Value}{A:Around}{outer:List Env}{s s1:Shared}{H:Hp}{E:XK}{us:List Value}{vs:List V}
  (S:D0 N ps scope) (hd:A.handled=none) (e0:a5Z P w K mg base A outer s H) (hl:vs.length=ps.length) (r:E2 vs us)
  (x:InCallC s s.heap.objs.size (bindL (envOfC qual scope s.heap.objs.size f cd).kindOf (ps.zip us) λ_=>none) (cellsFrom (s.heap.objs.size+1) scope.names []) (bindC (envOfC qual scope s.heap.objs.size f cd).kindOf (ps.zip us) λ_=>none) s1) :
  Inv (a7D CX P w K mg base N qual scope f cd A outer s H E) [] (R4 N vs) H s1:=by
 have hpl:ps.length<=N.length:=by have:=congrArg iT S.pre;rw[aW] at this;omega
 obtain⟨h1,tk,rfl,hk⟩:=x.done;have noA:∀ b:Addr,b∉(a7D CX P w K mg base N qual scope f cd A outer s H E).ex:=λb z=>absurd (show b∈([]:List Addr) from z) (by simp)
 refine⟨⟨e0.mod,S.kind,rfl,rfl,aC _,λy z c h1 h2=>?_,λy hy=>?_,λy c _ h=>?_,λ_=>hd,Around.frames_deeper e0.frames,.inr ⟨rfl,rfl⟩,λb z=>absurd z (noA b),e0.bs,e0.bsz,λb _ _=>noA b,λb z=>absurd z (noA b),e0.funs,e0.frf⟩,
  rfl,e0.bare,Un.kept hk,⟨_,x.toInCall.ns,λi y v h1 h2 h3=>?_⟩,λy c h=>⟨_,x.cell y c h⟩,e0.hok.fresh (aC _),λy c h=>?_,λp hp=>absurd (show p∈([]:List (Addr×Obj)) from hp) (by simp),e0.hok.kept hk,?_⟩
 ·exact name_of_addr x.apart (eT h1) (eT h2)
 ·have hy:scope.names.lookup y=some .cell\/scope.names.lookup y=some .free:=hy;rcases hy with hy | hy
  ·exact a5u hy
  ·exact absurd rfl (S.nofree _ (eT hy))
 ·exact dv (x.above y c (eT h))
 ·have hi:i<vs.length:=by
   unfold R4 at h2;by_cases hi:i<vs.length
   ·exact hi
   ·rw[bP (~~~hi)] at h2;rw[jq] at h2;split at h2<;>cases h2
  have ha:vs[i]?=some v:=by
   unfold R4 at h2;rw[bj (~~~hi),aF] at h2;cases e:vs[i]? with
   | none=>rw[e] at h2;cases h2
   | some a=>rw[e] at h2;cases h2;rfl
  obtain⟨u,hu,rv⟩:=r.get ha;have hp:ps[i]?=some y:=by
   rw[<- S.pre,gj ∅];exact h1
  have ndP:ps.Nodup:=by rw[<- S.pre];exact S.nd.sublist (iw _ _)
  refine⟨u,rv,?_⟩;rcases S.par y (aG hp) with k | k
  ·exact .inl ⟨k,a3C ndP hp hu k⟩
  ·obtain⟨c,e⟩:=a5u (n:=s.heap.objs.size+1) k;refine .inr ⟨.inl k,c,e,?_⟩;have q:=x.cell y c e;rw[a3E ndP hp hu (by show scope.names.lookup y≠_;rw[k];decide)] at q;exact q
 ·exact e0.hok.fresh (dv (x.above y c (eT h)))
 ·unfold R4;show _=N.length;rw[ak,ae,dF];omega
theorem b4d {CX:CXT}{P:Program}{w:World}{K:ah}{mg:Str->Option Value}{base:Heap}{k:Nat}{f:Addr}{name qual:Str}{params:Arguments}{body:List Stmt}{scope:Scope}{dV kV doc pm cdv ct oc:Value}{an od:Option Addr}
  {osl:Array (Option Value)} {N ps:List Str} {sp:Sp} (lk:K.lookup f=some ⟨oc,od,.func (eR name qual params body scope dV kV doc pm an cdv ct),osl⟩) (hcd:gI K cdv qual=true) (S:D0 N ps scope)
  (len:∀ vs H Q E,sp vs H Q E->vs.length=ps.length)
  (hbody:∀(A:Around) (outer:List Env) (s:Shared) (H:Hp) (vs:List V) (Q:VK) (E:XK),T2 k (A.deeper (envOfC qual scope s.heap.objs.size f cdv))->sp vs H Q E ->
   ∃ t,PSs (a7D CX P w K mg base N qual scope f cdv A outer s H E) body t/\t {nx:=λ_ H'=>Q .non H',rt:=Q} (R4 N vs) H) :
  E1 P w K mg base CX (k+1) f (eR name qual params body scope dV kV doc pm an cdv ct) ps sp:=by
 refine⟨len,λA outer s H args us vs Q E hr e0 hb r hsp=>?_⟩;have hl:=len _ _ _ _ hsp;have KX:K.In s.heap:=e0.mod.kin.keeps λb o e=>(e0.bs b o e).1
 have lim:s.heap.NoLimit:=e0.mod.nolimit.keeps λb o e=>(e0.bs b o e).1
 have hkind:∀ y∈ps.zip us,scope.names.lookup y.1=some .local\/(scope.names.lookup y.1=some .cell/\((cellsFrom (s.heap.objs.size+1) scope.names []).lookup y.1).isSome=true):=λ⟨n,v⟩ hy=>by
  rcases S.par n (iS hy).1 with q | q
  ·exact .inl q
  ·exact .inr ⟨q,jc _ _ _ (.inl q)⟩
 refine codeAny_call_function hr.depth (KX _ _ lk) rfl S.co S.gen rfl (PySem.W.codeRec_of KX hcd) (hb _ _ _ _ ?_);refine wpAny_newFunctionEnv_cells S.kind hkind λenv he s1 x=>?_
 subst he;refine⟨lim.keeps x.toInCall.keep,codeAny_func ?_⟩;obtain⟨t,ht,hq⟩:=hbody A outer s H vs Q E (hr.deeper _) hsp;have I:Inv (a7D CX P w K mg base N qual scope f cdv A outer s H E) [] (R4 N vs) H s1:=a7w S hr.hd e0 hl r x;refine cH (ht [] s1 (R4 N vs) H _ I hq) (λfl s' hs=>?_) λe s' hs=>hs
 have fin:∀ {σ':St} {H':Hp} {v:V} {u:Value},Inv (a7D CX P w K mg base N qual scope f cdv A outer s H E) [] σ' H' s'->J2 v u->Q v H'->CE outer P w H s Q u s' :=
  λ{σ' H' v u} J rv q=>⟨v,H',J.os,J.bare,J.base,J.hok,rv,q⟩
 cases fl with
 | ret u =>
  obtain⟨v,σ',H',J,rv,q⟩:=hs;exact fin J rv q
 | next =>
  obtain⟨σ',H',J,q⟩:=hs;exact fin (v:=V.non) (u:=cJ) J rfl q
 | brk =>
  obtain⟨_,_,_,q⟩:=hs;exact dQ q
 | cont =>
  obtain⟨_,_,_,q⟩:=hs;exact dQ q
end L2
namespace L2
open PySem PySem.Spec PyProof.Rows
section
variable {X:Cx}{x:Str}{p pos:Pos}{e:Expr}{es:List Expr}{t:TA}{id T:String}{r:List V->Hp->VK->Prop}
def tCB (r:List V->Hp->VK->Prop)(t:TA):TE:=fun σ H Q=>t σ H λvs H1=>r vs H1 Q
theorem A7 (hc:P3 X (.builtin id) r)(hg:Gl X x)(hm:X.mg x=none)(hv:bootBuiltins x=some (.builtin id))(ha:PA X (e::es) t)(hn:x≠"__name__":=by decide)(hdb:(x == ("__debug__":Str))=false:=by decide)
  (he:starEach (e::es) X.env=(false,eval e X.env)::starEach es X.env:=by rfl) (hpl:(backTo pos (starEach es X.env)).any (·.1)=false:=by rfl):PE X (.Call (.Name x p) (e::es) [] pos) (tCB r t):=by
 intro pins s σ H Q I h;refine cG (S9 I hg hm hv ?_ hn hdb);exact gN (thn (ha pos pins s σ H _ I h) λus s1 ⟨vs,H1,I1,r1,q1⟩=>hc pins s1 σ H1 vs us Q I1 r1 q1) he hpl
theorem E3 (hc:P3 X (.type T) r)(hg:Gl X x)(hm:X.mg x=none)(hv:bootBuiltins x=some (.type T))(ha:PA X (e::es) t)(hn:x≠"__name__":=by decide)(hdb:(x == ("__debug__":Str))=false:=by decide)
  (he:starEach (e::es) X.env=(false,eval e X.env)::starEach es X.env:=by rfl) (hpl:(backTo pos (starEach es X.env)).any (·.1)=false:=by rfl):PE X (.Call (.Name x p) (e::es) [] pos) (tCB r t):=by
 intro pins s σ H Q I h;refine cG (S9 I hg hm hv ?_ hn hdb);exact bR (thn (ha pos pins s σ H _ I h) λus s1 ⟨vs,H1,I1,r1,q1⟩=>hc pins s1 σ H1 vs us Q I1 r1 q1) he hpl
end
end L2
namespace HT
open PySem PyProof.Rows
def lexLt:List Int->List Int->Bool
 | [],[]=>false
 | [],_::_=>true
 | _::_,[]=>false
 | x::xs,y::ys=>if x=y then lexLt xs ys else decide (x<y)
theorem lexLt_cons (x y:Int)(xs ys:List Int):lexLt (x::xs) (y::ys)=if x=y then lexLt xs ys else decide (x<y):=rfl
section
open PySem.SeqAt
open PySem.AutoSeq1 (wpAny_loadPart')
open PySem.MeetsSeq PySem.MeetsSeq2 PySem.MeetsSeq3
end
section
variable {prog:Program}{w:World}{A:Around}{E:Value->Shared->Prop}{s:Shared}
def sIx (n d:Nat):Option Int->Nat
 | none=>d
 | some v=>if v<0 then (v+(n:Int)).toNat else min v.toNat n
theorem sIx_none (n d:Nat):sIx n d none=d:=rfl
theorem sIx_nat (n d k:Nat):sIx n d (some (k:Int))=min k n:=by
 show (if (k:Int)<0 then ((k:Int)+(n:Int)).toNat else min (k:Int).toNat n)=min k n;rw[if_neg ∅,bN]
theorem sIx_le (n d:Nat)(hd:d<=n)(o:Option Int):sIx n d o<=n:=by
 cases o with
 | none=>exact hd
 | some v =>
  show (if v<0 then (v+(n:Int)).toNat else min v.toNat n)<=n;by_cases hv:v<0
  ·rw[if_pos hv];omega
  ·rw[if_neg hv];exact Nat.min_le_right _ _
theorem clip_eq (v:Int)(n d:Nat):(if v<0 then max (v+(n:Int)) 0 else min v (n:Int))=((sIx n d (some v):Nat):Int):=by
 show (if v<0 then max (v+(n:Int)) 0 else min v (n:Int))=(((if v<0 then (v+(n:Int)).toNat else min v.toNat n):Nat):Int)
 by_cases hv:v<0
 ·simp only[if_pos hv];omega
 ·simp only[if_neg hv];omega
theorem adjust_gen (lo hi:Option Int)(n:Nat):Builtin.Slice.sliceAdjust lo hi 1 (n:Int)=(((sIx n 0 lo:Nat):Int),((sIx n n hi:Nat):Int)):=by
 have h1:¬ ((1:Int)<0):=∅
 unfold Builtin.Slice.sliceAdjust;simp only[h1,if_false];refine fI ?_ ?_
 ·cases lo with
  | none=>rfl
  | some v=>exact clip_eq v n 0
 ·cases hi with
  | none=>rfl
  | some v=>exact clip_eq v n n
theorem places_gen (i j:Nat):Builtin.Slice.slicePlaces (i:Int) (j:Int) 1=j-i:=by
 unfold Builtin.Slice.slicePlaces;have h1:(1:Int)>0:=∅
 simp only[h1,if_true,Int.ediv_one];split<;>omega
theorem slicePart_ {v:Value}{o:Option Int}{Q:Option Int->Shared->Prop}(p:IsPart v o)(h:Q o s):wpAny (model prog w) A (Builtin.Slice.slicePartIndex v) Q E s:=by
 cases p with
 | none=>exact slicePart_none h
 | int i t=>exact slicePart_int h
theorem sliceApplied_gen {sl:Addr}{vl vu:Value}{lo hi:Option Int}{n:Nat}{Q:Int×Int×Nat->Shared->Prop}(hs:s.heap.IsSliceOf sl vl vu .none)(pl:IsPart vl lo)(pu:IsPart vu hi)
  (h:Q (((sIx n 0 lo:Nat):Int),1,sIx n n hi-sIx n 0 lo) s):wpAny (model prog w) A (Builtin.Slice.sliceApplied (.ref sl) (pure (n:Int))) Q E s:=by
 obtain⟨os,hos,hcs,hds⟩:=id hs;unfold Builtin.Slice.sliceApplied Builtin.Slice.sliceFields;refine af (af (dB hos hds (x:=vl) rfl (af (dB hos hds (x:=vu) rfl (af (dB hos hds (x:=.none) rfl (ao ?_)))))));refine af (slicePart_none ?_);show wpAny _ _ (if ((1:Int) == 0)=true then _ else _) _ _ s;rw[if_neg (by decide)];refine af (slicePart_ pl (af (slicePart_ pu (af (ao ?_)))));show wpAny _ _ (match Builtin.Slice.sliceAdjust lo hi 1 (n:Int) with | (lo,hi)=>pure (lo,(1:Int),Builtin.Slice.slicePlaces lo hi 1)) _ _ s;rw[adjust_gen lo hi n];show wpAny _ _ (pure (((sIx n 0 lo:Nat):Int),(1:Int),Builtin.Slice.slicePlaces ((sIx n 0 lo:Nat):Int) ((sIx n n hi:Nat):Int) 1)) _ _ s;rw[places_gen];exact ao h
theorem pick_gen (xs:Array Value)(i k:Nat):((List.range k).filterMap λ(m:Nat)=>xs[((i:Int)+(m:Int)*1).toNat]?).toArray=((xs.toList.drop i).take k).toArray:=by
 have e:(λ(m:Nat)=>xs[((i:Int)+(m:Int)*1).toNat]?)=λm=>xs[i+m]?:=by
  funext m;have:((i:Int)+(m:Int)*1).toNat=i+m:=∅
  rw[this]
 rw[e];have:=pick_run xs i k;rw[List.filterMap_map] at this;have e2:((λx=>xs[x]?) ∘ λx=>i+x)=λm=>xs[i+m]?:=rfl
 rw[e2] at this;rw[this]
theorem getItem_tuple_cut {t sl:Addr}{items:Array Value}{vl vu:Value}{lo hi:Option Int}{Q:Value->Shared->Prop}(ht:IsTup s.heap t items)(hs:s.heap.IsSliceOf sl vl vu .none)(pl:IsPart vl lo)(pu:IsPart vu hi)
  (hw:¬ (sIx items.size 0 lo=0/\sIx items.size items.size hi=items.size))
  (h:Q (.ref s.heap.objs.size) {s with heap:=s.heap.push {cls:=.type "tuple",data:=.seq ((items.toList.drop (sIx items.size 0 lo)).take (sIx items.size items.size hi-sIx items.size 0 lo)).toArray}})
  (hsz:items.size<=sizeLine):wpAny (model prog w) A (getItem (.ref t) (.ref sl)) Q E s:=by
 have htake:sizeOk (.seq ((items.toList.drop (sIx items.size 0 lo)).take (sIx items.size items.size hi-sIx items.size 0 lo)).toArray):=by
  show ((items.toList.drop (sIx items.size 0 lo)).take (sIx items.size items.size hi-sIx items.size 0 lo)).toArray.size<=sizeLine;rw[aQ,aW,iG,bF];omega
 have hj:sIx items.size items.size hi<=items.size:=sIx_le _ _ (aC _) hi;obtain⟨os,hos,hcs,hds⟩:=id hs;have hTs:s.TypeIs (.ref sl) "slice":=⟨os,hos,hcs⟩
 unfold getItem;try with_reducible refine cK ?_
 first | refine af (ao ?_) | skip
 refine af (wpAny_sequenceKey ht.typeIs (by decide) ?_)
 refine af (ci (name:=cC "__getitem__") ht.typeIs gK
  (cn gK ht.typeIs entry_tuple_getitem ?_ (args_tuple_getitem _ _)))
 show wpAny _ _ (Builtin.Tuple.tupleItemsOf (.ref t) >>= _) _ _ s;refine af (tupleItemsOf_ ht ?_);refine af (gZ hTs ?_);rw[if_pos (by decide)];refine af (sliceApplied_gen hs pl pu ?_);have hno:¬ ((((sIx items.size 0 lo:Nat):Int) == 0 && (1:Int) == 1 && (sIx items.size items.size hi-sIx items.size 0 lo) == items.size)=true):=by
  intro q;rw[bU,bU] at q;have q1:((sIx items.size 0 lo:Nat):Int)=0:=eq_of_beq q.1.1;have q2:sIx items.size items.size hi-sIx items.size 0 lo=items.size:=eq_of_beq q.2;exact hw ⟨∅,∅⟩
 show wpAny _ _ (if (((sIx items.size 0 lo:Nat):Int) == 0 && (1:Int) == 1 && (sIx items.size items.size hi-sIx items.size 0 lo) == items.size)=true then _ else _) _ _ s;rw[if_neg hno,pick_gen];first
  | exact af (m:=eF _) (bZ (ao ⟨_,rfl,ao h⟩) htake)
  | exact af (m:=eF _) (bZ (af (ao (ao ⟨_,rfl,ao h⟩))) htake)
  | exact af (af (m:=eF _) (bZ (ao (ao ⟨_,rfl,ao h⟩)) htake))
  | exact af (af (m:=eF _) (bZ (ao ⟨_,rfl,ao h⟩) htake))
end
end HT
namespace L2
open PySem PySem.Spec PyProof.Rows
abbrev TO:=St->Hp->(Option Int->Hp->Prop)->Prop
def PO (X:Cx)(e:Option Expr)(t:TO):Prop :=
 ∀(pins:List (Addr×Obj)) (s:Shared) (σ:St) (H:Hp) (Q:Option Int->Hp->Prop),Inv X pins σ H s->t σ H Q ->
  wpAny (model X.prog X.w) X.A (evalPart e X.env) (λu s'=>∃ o H',Inv X pins σ H' s'/\IsPart u o/\Q o H') X.xe s
def a6e:TO:=λ_ H Q=>Q none H
def b1b (t:TE):TO:=fun σ H Q=>t σ H λx H1=>∃ i,x=.int i/\Q (some i) H1
theorem a0o {ns:List Int}:∀ {us:List Value},E2 (ns.map V.int) us->IntsAre us ns:=by
 induction ns with
 | nil=>intro us r;rw[cu] at r;cases r;exact .nil
 | cons n ns ih =>
  intro us r;rw[aH] at r;cases r with
  | cons r1 r2 =>
   obtain⟨t,e⟩:=r1;subst e;exact .cons n t (ih r2)
section
variable {X:Cx}{e:Expr}{te:TE}{lo hi:Option Expr}{tl th:TO}{pos p2:Pos}
theorem a3S:PO X none a6e:=by
 intro pins s σ H Q I h;rw[evalPart_none];exact ao ⟨none,H,I,.none,h⟩
theorem a3R (h:PE X e te):PO X (some e) (b1b te):=by
 intro pins s σ H Q I hw;rw[evalPart_some];refine thn (h pins s σ H _ I hw) λu s1 ⟨x,H1,I1,r1,q1⟩=>?_
 obtain⟨i,rfl,q⟩:=q1;obtain⟨t,rfl⟩:=r1;exact⟨some i,H1,I1,.int i t,q⟩
def SlR (X:Cx)(r:V->Option Int->Option Int->Hp->VK->Prop):Prop :=
 ∀(pins:List (Addr×Obj)) (s:Shared) (σ:St) (H:Hp) (x:V) (v vl vu:Value) (lo hi:Option Int) (sl:Addr) (Q:VK),Inv X pins σ H s->J2 x v->s.heap.IsSliceOf sl vl vu .none->IsPart vl lo->IsPart vu hi->r x lo hi H Q ->
  ∃ T id,typeLookup (.type T) "__getitem__"=pure (some (.builtin id))/\s.TypeIs v T/\wpAny (model X.prog X.w) X.A (getItem v (.ref sl)) (EP X pins σ Q) X.xe s
def tSl (r:V->Option Int->Option Int->Hp->VK->Prop)(te:TE)(tl th:TO):TE:=fun σ H Q=>te σ H λx H1=>tl σ H1 λl H2=>th σ H2 λu H3=>r x l u H3 Q
theorem a2b {r:V->Option Int->Option Int->Hp->VK->Prop}(hr:SlR X r)(he:PE X e te)(hl:PO X lo tl)(hu:PO X hi th):PE X (.Subscript e (.Slice lo hi none p2) pos) (tSl r te tl th):=by
 intro pins s σ H Q I h;refine Subscript_ (thn (he pins s σ H _ I h) λv s1 ⟨x,H1,I1,r1,q1⟩=>?_);refine wpAny_Slice (thn (hl pins s1 σ H1 _ I1 q1) λvl s2 ⟨l,H2,I2,pl,q2⟩=>thn (hu pins s2 σ H2 _ I2 q2) λvu s3 ⟨u,H3,I3,pu,q3⟩=>?_);rw[evalPart_none];refine ao ?_;have I4:Inv X pins σ H3 {s3 with heap:=s3.heap.push {cls:=.type "slice",data:=.fields #[vl,vu,.none]}}:=I3.kept (t':=s3.toks) λb ob q=>am _ q
 obtain⟨T,id,hT,ht,hg⟩:=hr pins {s3 with heap:=s3.heap.push {cls:=.type "slice",data:=.fields #[vl,vu,.none]}} σ H3 x v vl vu l u s3.heap.objs.size Q I4 r1 (Heap.IsSliceOf.new ..) pl pu q3;show wpAny (model X.prog X.w) X.A (subscriptTail e (.Slice lo hi none p2) v (.ref s3.heap.objs.size)) (EP X pins σ Q) X.xe {s3 with heap:=s3.heap.push {cls:=.type "slice",data:=.fields #[vl,vu,.none]}};exact tail_any (ops:=[.ref s3.heap.objs.size,v]) ht hT hg (by with_unfolding_all rfl)
def Z8 (xs:List V)(lo hi:Option Int):List V:=(xs.drop (HT.sIx xs.length 0 lo)).take (HT.sIx xs.length xs.length hi-HT.sIx xs.length 0 lo)
theorem a1z (xs:List V)(lo hi:Option Int):(Z8 xs lo hi).length<=xs.length:=by
 unfold Z8;rw[aW,iG];omega
def b3P (K:ah):V->Option Int->Option Int->Hp->VK->Prop:=λx lo hi H Q=>∃ a xs,x=.ref a/\SqT K H a xs /\
 ¬ (HT.sIx xs.length 0 lo=0/\HT.sIx xs.length xs.length hi=xs.length)/\∀ p,H p=none->Q (.ref p) (upd H p (.tup (Z8 xs lo hi)))
theorem b1S:SlR X (b3P X.K):=by
 intro pins s σ H x v vl vu lo hi sl Q I rx hs pl pu h;obtain⟨a,xs,rfl,hx,hw,q⟩:=h;cases rx;obtain⟨its,r,ht,hz⟩:=I.tuple hx;have hlen:its.toArray.size=xs.length:=by rw[aQ];exact r.length.symm
 refine⟨"tuple",_,PyProof.Rows.slot_tuple_getitem.lookup,ht.typeIs,?_⟩;refine HT.getItem_tuple_cut ht hs pl pu (by rw[hlen];exact hw) ?_ (by rw[hlen];exact hz);rw[hlen];refine⟨.ref s.heap.objs.size,_,I.laid (t':=s.toks) (o:=.tup (Z8 xs lo hi)) (λb ob q=>am _ q) (aC _) ?_,rfl,q _ (I.hok.fresh (aC _))⟩;exact⟨bH (a1z xs lo hi) hz,_,(r.drop (HT.sIx xs.length 0 lo)).take (HT.sIx xs.length xs.length hi-HT.sIx xs.length 0 lo),IsTup.new _ _⟩
end
end L2
namespace L2
open PySem PySem.Spec PyProof.Rows
def ixN (n:Nat)(i:Int):Option Nat:=if 0<=i then (if i<n then some i.toNat else none) else if -(n:Int)<=i then some (i+n).toNat else none
def atI {α:Type}(xs:List α)(i:Int):Option α:=(ixN xs.length i).bind λj=>xs[j]?
theorem a4a {n:Nat}{i:Int}{j:Nat}(h:ixN n i=some j):seqIndex? i n=some j/\j<n/\-(n:Int)<=i/\i<n:=by
 unfold ixN at h;by_cases h0:0<=i
 ·rw[if_pos h0] at h;by_cases h1:i<n
  ·rw[if_pos h1] at h;have e:i.toNat=j:=aP h;exact⟨by rw[seqIndex_of h0 h1,e],∅,∅,h1⟩
  ·rw[if_neg h1] at h;cases h
 ·rw[if_neg h0] at h;by_cases h1:-(n:Int)<=i
  ·rw[if_pos h1] at h;have e:(i+n).toNat=j:=aP h;exact⟨by rw[seqIndex_neg ∅ h1,e],∅,h1,∅⟩
  ·rw[if_neg h1] at h;cases h
theorem a6S {α:Type}{xs:List α}{i:Int}{v:α}(h:atI xs i=some v):∃ j,seqIndex? i xs.length=some j/\xs[j]?=some v/\j<xs.length/\-(xs.length:Int)<=i/\i<xs.length:=by
 unfold atI at h;cases e:ixN xs.length i with
 | none=>rw[e] at h;cases h
 | some j =>
  rw[e] at h;obtain⟨h1,h2,h3,h4⟩:=a4a e;exact⟨j,h1,h,h2,h3,h4⟩
theorem R0 {α:Type}{xs:List α}{j:Nat}{v:α}(h:xs[j]?=some v):atI xs (j:Int)=some v:=by
 have hj:j<xs.length:=(aq.mp h).1;have e:ixN xs.length (j:Int)=some j:=by
  unfold ixN;rw[if_pos ∅,if_pos ∅];simp
 unfold atI;rw[e];exact h
theorem a9s {α:Type}(xs:List α)(v:α):atI (xs++[v]) (-1)=some v:=by
 have hl:(xs++[v]).length=xs.length+1:=by simp
 have e:ixN (xs++[v]).length (-1)=some xs.length:=by
  unfold ixN;rw[hl,if_neg (by decide),if_pos ∅];congr 1;omega
 unfold atI;rw[e];show (xs++[v])[xs.length]?=some v;simp
def b0Y (b:Expr):Prop:=∀ o i,subscripted b false o i=operate [o,i] (getItem o i)
def IxR (X:Cx)(r:R2):Prop :=
 ∀(value slice:Expr) (pins:List (Addr×Obj)) (s:Shared) (σ:St) (H:Hp) (x y:V) (v u:Value) (Q:VK),Inv X pins σ H s->J2 x v->J2 y u->r x y H Q ->
  subscripted slice false v u=operate [v,u] (getItem v u)->wpAny (model X.prog X.w) X.A (subscriptTail value slice v u) (EP X pins σ Q) X.xe s
def MtR (X:Cx)(id:String)(r:V->List V->Hp->VK->Prop):Prop :=
 ∀(pins:List (Addr×Obj)) (s:Shared) (σ:St) (H:Hp) (x:V) (xs:List V) (v:Value) (us:List Value) (Q:VK),Inv X pins σ H s->J2 x v->E2 xs us->r x xs H Q ->
  wpAny (model X.prog X.w) X.A (call (.builtin id) (v::us)) (EP X pins σ Q) X.xe s
section
variable {X:Cx}{a b:Expr}{ta tb:TE}{pos:Pos}
theorem B6 {r:R2}(hr:IxR X r)(ha:PE X a ta)(hb:PE X b tb)(hs:b0Y b):PE X (.Subscript a b pos) (tOp r ta tb):=by
 intro pins s σ H Q I h;exact Subscript_ (b3a ha hb I h λv u s2 x y H2 I2 rx ry q=>hr a b pins s2 σ H2 x y v u Q I2 rx ry q (hs _ _))
def a9O (K:ah):R2:=λx y H Q=>∃ p xs i v,x=.ref p/\y=.int i/\SqL K H p xs/\atI xs i=some v/\Q v H
def a9N (K:ah):R2:=λx y H Q=>∃ p xs i v,x=.ref p/\y=.int i/\SqT K H p xs/\atI xs i=some v/\Q v H
theorem b0q:IxR X (a9O X.K):=by
 intro value slice pins s σ H x y v u Q I rx ry h hs;obtain⟨p,xs,i,z,rfl,rfl,hq,he,q⟩:=h;cases rx;obtain⟨t,rfl⟩:=ry;obtain⟨its,r,pl,hz⟩:=I.list hq;obtain⟨j,h1,h2,h3,h4,h5⟩:=a6S he;obtain⟨w,ew,rw'⟩:=r.get h2;have hl:=r.length;have hn:=a2g;have fin:EP X pins σ Q w s:=⟨z,H,I,rw',q⟩
 by_cases h0:0<=i
 ·have hj:i.toNat=j:=by
   rw[seqIndex_of h0 h5] at h1;exact aP h1
  exact item_listR pl.isList h0 ∅ (by rw[hj];simpa using ew) fin hs
 ·have hj:(i+(its.toArray.size:Int)).toNat=j:=by
   rw[seqIndex_neg ∅ h4] at h1;rw[aQ,<- hl];exact aP h1
  exact subscriptTail_builtinR (x:=w) pl.isList.typeIs ku.lookup
   (wpAny_getItem_list_neg (Q:=λr s'=>r=w/\EP X pins σ Q r s') pl.isList ∅ (by rw[aQ]<;>omega) ∅ (by rw[hj];simpa using ew) ⟨rfl,fin⟩) hs
theorem b2u:IxR X (a9N X.K):=by
 intro value slice pins s σ H x y v u Q I rx ry h hs;obtain⟨p,xs,i,z,rfl,rfl,hq,he,q⟩:=h;cases rx;obtain⟨t,rfl⟩:=ry;obtain⟨its,r,pl,hz⟩:=I.tuple hq;obtain⟨j,h1,h2,h3,h4,h5⟩:=a6S he;obtain⟨w,ew,rw'⟩:=r.get h2;have hl:=r.length;have hn:=a2g;have fin:EP X pins σ Q w s:=⟨z,H,I,rw',q⟩
 exact subscriptTail_builtinR (x:=w) pl.typeIs slot_tuple_getitem.lookup
  (getItem_tuple (j:=j) (Q:=λr s'=>r=w/\EP X pins σ Q r s') pl ∅ ∅ (by rw[aQ,<- hl];exact h1) (~~~ew) ⟨rfl,fin⟩) hs
theorem a5K (its:List Value)(n j:Nat)(u:Value):Obj.mapSeq (·.setIfInBounds j u) {cls:=.type "list",data:=.seq its.toArray n}={cls:=.type "list",data:=.seq (its.set j u).toArray n}:=by
 simp[Obj.mapSeq]
theorem Inv.lst {pins:List (Addr×Obj)}{σ:St}{H:Hp}{s:Shared}{p:Addr}{xs:List V}(I:Inv X pins σ H s)(h:H p=some (.lst xs)) :
  ∃(its:List Value) (n:Nat),E2 xs its/\s.heap.get? p=some {cls:=.type "list",data:=.seq its.toArray n}/\xs.length<=sizeLine:=by
 obtain⟨z,its,n,r,e⟩:=I.hok p _ h;exact⟨its,n,r,e,z⟩
theorem Inv.lstUpd {pins:List (Addr×Obj)}{σ:St}{H:Hp}{s:Shared}{p:Addr}{xs ys:List V}{its its':List Value}{n n':Nat}{f:Obj->Obj}(I:Inv X pins σ H s)(h:H p=some (.lst xs))
  (ho:s.heap.get? p=some {cls:=.type "list",data:=.seq its.toArray n}) (hf:f {cls:=.type "list",data:=.seq its.toArray n}={cls:=.type "list",data:=.seq its'.toArray n'}) (r:E2 ys its') (hz:ys.length<=sizeLine) (t:Nat) :
  Inv X pins σ (upd H p (.lst ys)) {s with heap:=s.heap.update p f,toks:=t}:=by
 have e:(s.heap.update p f).get? p=some {cls:=.type "list",data:=.seq its'.toArray n'}:=by
  rw[cW f ho (by rw[hf]<;>rfl),hf]
 refine I.write (x:=p) (e:=p) (by rw[h];trivial) (.inl rfl) (λb u hb q=>(gz _ _ (dZ hb)).trans q) ⟨_,e⟩ ?_;exact⟨hz,its',n',r,e⟩
def b1l:V->V->V->Hp->(Hp->Prop)->Prop:=λo i v H Q=>∃ p xs k j,o=.ref p/\i=.int k/\H p=some (.lst xs)/\ixN xs.length k=some j/\Q (upd H p (.lst (xs.set j v)))
theorem a4E:b4m X b1l:=by
 intro pins s σ H o i v ov iv u Q I ro ri rv h;obtain⟨p,xs,k,j,rfl,rfl,hp,hj,q⟩:=h;cases ro;obtain⟨t,rfl⟩:=ri;obtain⟨its,n,r,ho,hz⟩:=I.lst hp;obtain⟨h1,h2,h3,h4⟩:=a4a hj;have hl:=r.length;have hn:=a2g;have I':Inv X pins σ (upd H p (.lst (xs.set j v))) {s with heap:=s.heap.update p (Obj.mapSeq (·.setIfInBounds j u))} :=
  I.lstUpd hp ho (a5K its n j u) (r.set rv j) (by rw[eI];exact hz) s.toks
 by_cases h0:0<=k
 ·have hk:k.toNat=j:=by
   rw[seqIndex_of h0 h4] at h1;exact aP h1
  exact PySem.W.ki_setAt ho h0 ∅ (by rw[aQ,<- hl];exact h4) (by rw[hk];exact⟨_,I',q⟩)
 ·have hk:(k+(its.toArray.size:Int)).toNat=j:=by
   rw[seqIndex_neg ∅ h3] at h1;rw[aQ,<- hl];exact aP h1
  exact PySem.W.ki_setBack ho ∅ (by rw[aQ,<- hl];exact h3) ∅ (by rw[hk];exact⟨_,I',q⟩)
theorem a3M (lo hi:Option Int)(n:Nat):(sliceBounds lo hi none n).1=((HT.sIx n 0 lo:Nat):Int)/\(sliceBounds lo hi none n).2.1=((HT.sIx n n hi:Nat):Int)/\(sliceBounds lo hi none n).2.2=1:=by
 refine⟨?_,?_,rfl⟩
 ·cases lo with
  | none=>simp[sliceBounds,HT.sIx]
  | some i =>
   simp only[sliceBounds,HT.sIx,ir,show (1:Int)>0 by decide,if_true];by_cases h:i<0
   ·simp only[h,if_true]<;>omega
   ·simp only[h,if_false]<;>omega
 ·cases hi with
  | none=>simp[sliceBounds,HT.sIx]
  | some i =>
   simp only[sliceBounds,HT.sIx,ir,show (1:Int)>0 by decide,if_true];by_cases h:i<0
   ·simp only[h,if_true]<;>omega
   ·simp only[h,if_false]<;>omega
theorem a2x (its:List Value)(lo hi:Option Int):slicePick its.toArray lo hi none=((its.drop (HT.sIx its.length 0 lo)).take (HT.sIx its.length its.length hi-HT.sIx its.length 0 lo)).toArray:=by
 obtain⟨h1,h2,h3⟩:=a3M lo hi its.toArray.size;unfold slicePick;rw[h1,h2,h3];simp only[sliceRange_one,pick_run,aQ]<;>rfl
def b1V (K:ah):V->Option Int->Option Int->Hp->VK->Prop:=λx lo hi H Q=>∃ a xs,x=.ref a/\SqL K H a xs/\∀ p,H p=none->Q (.ref p) (upd H p (.lst (Z8 xs lo hi)))
theorem a9I:SlR X (b1V X.K):=by
 intro pins s σ H x v vl vu lo hi sl Q I rx hs pl pu h;obtain⟨a,xs,rfl,hx,q⟩:=h;cases rx;obtain⟨its,r,ht,hz⟩:=I.list hx;have hlen:=r.length;refine⟨"list",_,ku.lookup,ht.isList.typeIs,?_⟩;refine wpAny_getItem_list_slice ht.isList hs pl pu .none (by simp) ?_ (by rw[aQ]<;>omega);rw[a2x,<- hlen];refine⟨.ref s.heap.objs.size,_,I.laid (t':=s.toks) (o:=.lst (Z8 xs lo hi)) (λb ob q=>am _ q) (aC _) ?_,rfl,q _ (I.hok.fresh (aC _))⟩;exact⟨bH (a1z xs lo hi) hz,_,0,(r.drop (HT.sIx xs.length 0 lo)).take (HT.sIx xs.length xs.length hi-HT.sIx xs.length 0 lo),aK _ rfl⟩
def a0J:V->Bool
 | .non=>true
 | .bl _=>true
 | .int _=>true
 | .str _=>true
 | _=>false
def eqV:V->V->Bool
 | .non,.non=>true
 | .bl a,.bl b=>a == b
 | .bl a,.int b=>(if a then 1 else 0) == b
 | .int a,.bl b=>a == (if b then 1 else 0)
 | .int a,.int b=>a == b
 | .str a,.str b=>a == b
 | _,_=>false
theorem b2S {A:Around}{s:Shared}{y x:V}{u v:Value}(ry:J2 y u)(rx:J2 x v)(fy:a0J y=true)(fx:a0J x=true):SeqAt.EqAt A s u v (eqV y x):=by
 cases y with
 | non =>
  cases ry;cases x with
  | non=>cases rx;exact SeqAt.EqAt.same _
  | bl b=>cases rx;exact SeqAt.EqAt.none_bool b
  | int b=>obtain⟨t,rfl⟩:=rx;exact SeqAt.EqAt.none_int b t
  | str b=>obtain⟨t,rfl⟩:=rx;exact SeqAt.EqAt.none_str b t
  | _=>exact absurd (show false=true from fx) aV
 | bl a =>
  cases ry;cases x with
  | non=>cases rx;exact SeqAt.EqAt.bool_none a
  | bl b=>cases rx;exact SeqAt.EqAt.bool_bool a b
  | int b=>obtain⟨t,rfl⟩:=rx;exact SeqAt.EqAt.bool_int a b t
  | str b=>obtain⟨t,rfl⟩:=rx;exact SeqAt.EqAt.bool_str a b t
  | _=>exact absurd (show false=true from fx) aV
 | int a =>
  obtain⟨t',rfl⟩:=ry;cases x with
  | non=>cases rx;exact SeqAt.EqAt.int_none a t'
  | bl b=>cases rx;exact SeqAt.EqAt.int_bool a t' b
  | int b=>obtain⟨t,rfl⟩:=rx;exact SeqAt.EqAt.int_int a t' b t
  | str b=>obtain⟨t,rfl⟩:=rx;exact jk a t' b t
  | _=>exact absurd (show false=true from fx) aV
 | str a =>
  obtain⟨t',rfl⟩:=ry;cases x with
  | non=>cases rx;exact SeqAt.EqAt.str_none a t'
  | bl b=>cases rx;exact SeqAt.EqAt.str_bool a t' b
  | int b=>obtain⟨t,rfl⟩:=rx;exact jj a t' b t
  | str b=>obtain⟨t,rfl⟩:=rx;exact SeqAt.EqAt.str_str a t' b t
  | _=>exact absurd (show false=true from fx) aV
 | _=>exact absurd (show false=true from fy) aV
def eqU (x:V)(u:Value):Bool:=match u with
 | .none=>eqV .non x
 | .bool b=>eqV (.bl b) x
 | .int i _=>eqV (.int i) x
 | .str z _=>eqV (.str z) x
 | _=>false
theorem a9d {x y:V}{u:Value}(r:J2 y u)(f:a0J y=true):eqU x u=eqV y x:=by
 cases y with
 | non=>cases r;rfl
 | bl b=>cases r;rfl
 | int i=>obtain⟨t,rfl⟩:=r;rfl
 | str z=>obtain⟨t,rfl⟩:=r;rfl
 | _=>exact absurd (show false=true from f) aV
theorem a0L {x:V}:∀ {xs:List V} {us:List Value},E2 xs us->xs.all a0J=true->us.any (eqU x)=xs.any λy=>eqV y x
 | _,_,.nil,_=>rfl
 | y::xs,u::us,.cons r t,f=>by
  rw[ig,bU] at f;rw[fm,fm,a9d r f.1,a0L t f.2]
theorem Y4 {A:Around}{s:Shared}{x:V}{v:Value}(rx:J2 x v)(fx:a0J x=true):∀ {xs:List V} {us:List Value},E2 xs us->xs.all a0J=true->∀ u∈us,SeqAt.EqAt A s u v (eqU x u)
 | _,_,.nil,_=>λu hu=>by cases hu
 | y::xs,u::us,.cons r t,f=>λu' hu=>by
  rw[ig,bU] at f;rcases aJ.mp hu with rfl | hu
  ·rw[a9d r f.1];exact b2S r rx f.1 fx
  ·exact Y4 rx fx t f.2 u' hu
def inV (x:V)(xs:List V):Bool:=xs.any λy=>eqV y x
def rIn (K:ah)(neg:Bool):R2:=λx y H Q=>∃ p xs,y=.ref p/\(SqL K H p xs\/SqT K H p xs)/\a0J x=true/\xs.all a0J=true/\Q (.bl (if neg then !inV x xs else inV x xs)) H
theorem a7b:OpR X (compareOp .In) (rIn X.K false):=by
 intro pins s σ H x y v u Q I rx ry h;obtain⟨p,xs,rfl,hq,fx,fs,q⟩:=h;cases ry;rcases hq with hq | hq
 ·obtain⟨its,r,pl,hz⟩:=I.list hq;refine SeqAt.in_listAt (eqU x) pl.isList (λw hw=>Y4 rx fx r fs w (~~~hw)) ⟨.bl _,H,I,rfl,?_⟩;rw[show its.toArray.any (eqU x)=its.any (eqU x) by simp,a0L r fs];exact q
 ·obtain⟨its,r,pl,hz⟩:=I.tuple hq;refine SeqAt.in_tupleAt (eqU x) pl (λw hw=>Y4 rx fx r fs w (~~~hw)) ⟨.bl _,H,I,rfl,?_⟩;rw[show its.toArray.any (eqU x)=its.any (eqU x) by simp,a0L r fs];exact q
theorem a3U:OpR X (compareOp .NotIn) (rIn X.K true):=by
 intro pins s σ H x y v u Q I rx ry h;obtain⟨p,xs,rfl,hq,fx,fs,q⟩:=h;cases ry;rcases hq with hq | hq
 ·obtain⟨its,r,pl,hz⟩:=I.list hq;refine SeqAt.notIn_listAt (eqU x) pl.isList (λw hw=>Y4 rx fx r fs w (~~~hw)) ⟨.bl _,H,I,rfl,?_⟩;rw[show its.toArray.any (eqU x)=its.any (eqU x) by simp,a0L r fs];exact q
 ·obtain⟨its,r,pl,hz⟩:=I.tuple hq;refine SeqAt.notIn_tupleAt (eqU x) pl (λw hw=>Y4 rx fx r fs w (~~~hw)) ⟨.bl _,H,I,rfl,?_⟩;rw[show its.toArray.any (eqU x)=its.any (eqU x) by simp,a0L r fs];exact q
theorem a4l:P3 X (.builtin "len") (λxs H Q=>∃ p ys,xs=[.ref p]/\(SqL X.K H p ys\/SqT X.K H p ys)/\Q (.int ys.length) H):=by
 intro pins s σ H xs us Q I r h;obtain⟨p,ys,rfl,hq,q⟩:=h;obtain⟨u,rfl,rx⟩:=V4 r;cases rx;have hn:=a2g;rcases hq with hq | hq
 ·obtain⟨its,r',pl,hz⟩:=I.list hq;have hlen:=r'.length;exact Calls.call_len_list pl.isList (by simp only[aQ]<;>omega) ⟨.int ys.length,H,I.tok _,⟨s.toks+1,by rw[aQ,hlen]⟩,q⟩
 ·obtain⟨its,r',pl,hz⟩:=I.tuple hq;have hlen:=r'.length;exact len_tuple pl (by simp only[aQ]<;>omega) ⟨.int ys.length,H,I.tok _,⟨s.toks+1,by rw[aQ,hlen]⟩,q⟩
theorem a4k:P3 X (.type "list") (λxs H Q=>∃ p ys,xs=[.ref p]/\(SqL X.K H p ys\/SqT X.K H p ys)/\∀ l,H l=none->Q (.ref l) (upd H l (.lst ys))):=by
 intro pins s σ H xs us Q I r h;obtain⟨p,ys,rfl,hq,q⟩:=h;obtain⟨u,rfl,rx⟩:=V4 r;cases rx;have fin:∀(its:List Value),E2 ys its->ys.length<=sizeLine->∀(h':Heap) (c':Nat),(∀ b o',s.heap.get? b=some o'->h'.get? b=some o') ->
   h'.get? s.heap.objs.size=some {cls:=.type "list",dict:=none,data:=.seq its.toArray c',slots:=#[]}->EP X pins σ Q (.ref s.heap.objs.size) {s with heap:=h'}:=λits r' hz h' c' kp e =>
  ⟨.ref s.heap.objs.size,_,I.laid (t':=s.toks) kp (aC _) (show L8 X.prog X.w _ h' _ (.lst ys) from ⟨hz,its,c',r',e⟩),rfl,q _ (I.hok.fresh (aC _))⟩
 rcases hq with hq | hq
 ·obtain⟨its,r',pl,hz⟩:=I.list hq;have hlen:=r'.length;obtain⟨o,ho,hc,n,hd⟩:=pl.isList;exact call_list_seq p (.inl rfl) ho hc hd (λh' c' kp e=>fin its r' hz h' c' kp e) (by simp only[aQ]<;>omega)
 ·obtain⟨its,r',pl,hz⟩:=I.tuple hq;have hlen:=r'.length;obtain⟨o,ho,hc,n,hd⟩:=pl;exact call_list_seq p (.inr rfl) ho hc hd (λh' c' kp e=>fin its r' hz h' c' kp e) (by simp only[aQ]<;>omega)
theorem a2E:P3 X (.type "tuple") (λxs H Q=>∃ p ys,xs=[.ref p]/\((SqL X.K H p ys/\∀ l,H l=none->Q (.ref l) (upd H l (.tup ys)))\/(SqT X.K H p ys/\Q (.ref p) H))):=by
 intro pins s σ H xs us Q I r h;obtain⟨p,ys,rfl,h⟩:=h;obtain⟨u,rfl,rx⟩:=V4 r;cases rx;rcases h with ⟨hq,q⟩ | ⟨hq,q⟩
 ·obtain⟨its,r',pl,hz⟩:=I.list hq;have hlen:=r'.length;refine call_tuple_list pl.isList (λh' kp=>?_) (by simp only[aQ]<;>omega);have I1:Inv X pins σ H {s with heap:=h'}:=I.kept (t':=s.toks) kp;have I2:Inv X pins σ (upd H h'.objs.size (.tup ys)) {s with heap:=h'.push {cls:=.type "tuple",data:=.seq its.toArray}} :=
   I1.laid (t':=s.toks) (λb o e=>am _ e) (aC _) (show L8 X.prog X.w _ _ _ (.tup ys) from ⟨hz,its,r',IsTup.new _ _⟩)
  exact⟨.ref h'.objs.size,_,I2,rfl,q _ (I1.hok.fresh (aC _))⟩
 ·obtain⟨its,r',pl,hz⟩:=I.tuple hq;exact call_tuple_same pl ⟨.ref p,H,I,rfl,q⟩
def tyV (K:ah)(T:String)(x:V)(H:Hp):Prop:=match x with
 | .str _=>T="str"
 | .int _=>T="int"
 | .ref p=>(T="list"/\∃ xs,SqL K H p xs)\/(T="tuple"/\∃ o,K.lookup p=some o/\o.cls=.type "tuple"/\o.dict=none) \/
   (T="dict"/\((∃ kvs,H p=some (.dK kvs))\/∃ kvs,H p=some (.dT kvs)))\/(T="set"/\∃ S n,H p=some (.set S n))
 | _=>False
theorem a7S {pins:List (Addr×Obj)}{σ:St}{H:Hp}{s:Shared}{T:String}{x:V}{v:Value}(I:Inv X pins σ H s)(r:J2 x v)(ty:tyV X.K T x H) :
  s.TypeIs v T/\∀ a,v=.ref a->∃ ob,s.heap.get? a=some ob/\ob.dict=none:=by
 cases x with
 | str z =>
  obtain⟨t,rfl⟩:=r;cases (show T="str" from ty);exact⟨typeIs_str s z t,λ_ e=>nomatch e⟩
 | int i =>
  obtain⟨t,rfl⟩:=r;cases (show T="int" from ty);exact⟨typeIs_int s i t,λ_ e=>nomatch e⟩
 | ref p =>
  cases r;rcases ty with ⟨rfl,xs,hq⟩ | ⟨rfl,o,hk,hc,hd⟩ | ⟨rfl,hk⟩ | ⟨rfl,S,n,hk⟩
  ·obtain⟨its,_,pl,_⟩:=I.list hq;refine⟨pl.isList.typeIs,λa e=>?_⟩;cases e;obtain⟨o,n,e,c,hd,_⟩:=pl;exact⟨o,e,hd⟩
  ·refine⟨⟨o,I.kIn p o hk,hc⟩,λa e=>?_⟩;cases e;exact⟨o,I.kIn _ o hk,hd⟩
  ·have z:∃ o,s.heap.get? p=some o/\o.ExactDict:=by
    rcases hk with ⟨kvs,hk⟩ | ⟨kvs,hk⟩
    ·obtain⟨_,_,_,_,o,_,_,e,ex,_⟩:=I.hok p _ hk;exact⟨o,e,ex⟩
    ·obtain⟨_,_,_,_,o,_,_,e,ex,_⟩:=I.hok p _ hk;exact⟨o,e,ex⟩
   obtain⟨o,e,ex⟩:=z;refine⟨⟨o,e,ex.1⟩,λa e2=>?_⟩;cases e2;exact⟨o,e,ex.2.1⟩
  ·obtain⟨o,_,_,_,e,ex,_⟩:=I.hok p _ hk;refine⟨⟨o,e,ex.1⟩,λa e2=>?_⟩;cases e2;exact⟨o,e,ex.2.1⟩
 | _=>exact dQ ty
def b1P (K:ah)(T:String)(r:V->List V->Hp->VK->Prop)(to:TE):TE:=fun σ H Q=>to σ H λx H1=>tyV K T x H1/\r x [] H1 Q
def tBM (K:ah)(T:String)(r:V->List V->Hp->VK->Prop)(to:TE)(t:TA):TE:=fun σ H Q=>to σ H λx H1=>tyV K T x H1/\t σ H1 λxs H2=>r x xs H2 Q
variable {o e:Expr}{es:List Expr}{to:TE}{t:TA}{name:Str}{apos cpos:Pos}{T id:String}{r:V->List V->Hp->VK->Prop}
theorem b2e (pa:PlainAttrs T)(slot:Slot T name id)(hty:typeOf (.builtin id)=pure (.type "method_descriptor"))(hm:MtR X id r)(ho:PE X o to)
  (hbase:attributeBase o name X.env (eval o X.env)=eval o X.env:=by rfl) (hline:(apos.endLine == cpos.line)=true:=by rfl):PE X (.Call (.Attribute o name apos) [] [] cpos) (b1P X.K T r to):=by
 intro pins s σ H Q I h;refine wpAny_Call_method0_late hbase hline (thn (ho pins s σ H _ I h) λv s1 ⟨x,H1,I1,r1,ty,q1⟩=>?_);obtain⟨h1,h2⟩:=a7S I1 r1 ty;exact⟨T,id,pa,slot,hty,h1,h2,jp rfl (PySem.evalArgs_none (hm pins s1 σ H1 x [] v [] Q I1 r1 .nil q1))⟩
theorem a8r (pa:PlainAttrs T)(slot:Slot T name id)(hty:typeOf (.builtin id)=pure (.type "method_descriptor"))(hm:MtR X id r)(ho:PE X o to)(ha:PA X (e::es) t)
  (hbase:attributeBase o name X.env (eval o X.env)=eval o X.env:=by rfl)
  (hfew:((backTo cpos (starEach (e::es) X.env)).all (λx=>!x.1) && (backToKw cpos (keywordEach [] X.env)).all (λx=>x.1.isSome)
   && decide ((e::es).length+([]:List Keyword).length+(if ([]:List Keyword).isEmpty then 0 else 1)<30))=true:=by rfl)
  (hline:(apos.endLine == cpos.line)=true:=by rfl) (hs:starEach (e::es) X.env=(false,eval e X.env)::starEach es X.env:=by rfl) (hplain:(backTo cpos (starEach es X.env)).any (·.1)=false:=by rfl) :
  PE X (.Call (.Attribute o name apos) (e::es) [] cpos) (tBM X.K T r to t):=by
 intro pins s σ H Q I h;refine wpAny_Call_method_late hbase hfew hline rfl (thn (ho pins s σ H _ I h) λv s1 ⟨x,H1,I1,r1,ty,q1⟩=>?_);obtain⟨h1,h2⟩:=a7S I1 r1 ty;refine⟨T,id,pa,slot,hty,h1,h2,?_⟩;have hA:=ha cpos pins s1 σ H1 _ I1 q1;rw[hs] at hA ⊢;refine jp (by show (false || (backTo cpos (starEach es X.env)).any (·.1))=false;rw[hplain]<;>rfl) (Calls.evalArgs_plain ?_);exact thn hA λus s2 ⟨vs,H2,I2,r2,q2⟩=>hm pins s2 σ H2 x vs v us Q I2 r1 r2 q2
/- xs.append(e),list.index on a module's tuple .. are MtR facts of 06m -/
end
end L2
namespace L2
open PySem PySem.Spec PyProof.Rows
def MtM (X:Cx)(id:String)(r:V->List V->Hp->VK->Prop):Prop :=
 ∀(pins:List (Addr×Obj)) (s:Shared) (σ:St) (H:Hp) (x:V) (xs:List V) (v:Value) (us:List Value) (Q:VK),Inv X pins σ H s->J2 x v->E2 xs us->r x xs H Q ->
  wpAny (model X.prog X.w) X.A (call (.builtin id) (v::us)) (EP X pins σ Q) X.xe s
theorem E2.one:∀ {x:V} {us:List Value},E2 [x] us->∃ u,us=[u]/\J2 x u
 | _,_,.cons r .nil=>⟨_,rfl,r⟩
theorem E2.zero:∀ {us:List Value},E2 [] us->us=[]
 | _,.nil=>rfl
theorem E2.dropLast {xs:List V}{us:List Value}(h:E2 xs us):E2 xs.dropLast us.dropLast:=by
 induction h with
 | nil=>exact .nil
 | cons r t ih =>
  cases t with
  | nil=>exact .nil
  | cons q t'=>exact .cons r ih
theorem E2.eraseIdx:∀ {xs:List V} {us:List Value} (i:Nat),E2 xs us->E2 (xs.eraseIdx i) (us.eraseIdx i)
 | _,_,_,.nil=>.nil
 | _,_,0,.cons _ t=>t
 | _,_,i+1,.cons r t=>.cons r (E2.eraseIdx i t)
theorem E2.reverse {xs:List V}{us:List Value}(h:E2 xs us):E2 xs.reverse us.reverse:=by
 induction h with
 | nil=>exact .nil
 | cons r t ih=>rw[fA,fA];exact E2.append ih (.cons r .nil)
theorem E2.rep {xs:List V}{us:List Value}(h:E2 xs us):∀ k:Nat,E2 (List.replicate k xs).flatten (List.replicate k us).flatten
 | 0=>.nil
 | k+1=>by
  rw[eZ,eZ,gk,gk];exact E2.append h (E2.rep h k)
theorem a5T {α:Type}(l:List α):l.eraseIdx (l.length-1)=l.dropLast:=by
 induction l with
 | nil=>rfl
 | cons a r ih =>
  cases r with
  | nil=>rfl
  | cons b r =>
   have e:(a::b::r).length-1=((b::r).length-1)+1:=by
    have h1:(a::b::r).length=r.length+2:=rfl;have h2:(b::r).length=r.length+1:=rfl;omega
   rw[e,List.eraseIdx_cons_succ,ih];all_goals rfl
theorem a3l {α:Type}:∀(l:List α) (i:Nat),(l.eraseIdx i).length<=l.length
 | [],_=>aC _
 | _::_,0=>fW _
 | _::r,i+1=>Nat.succ_le_succ (a3l r i)
theorem a3u (its:List Value):∀(k:Nat) (acc:List Value),
  j8 (λx1 x2=>x1++x2) acc.toArray (List.replicate k its.toArray)=(acc++(List.replicate k its).flatten).toArray
 | 0,acc=>by simp
 | k+1,acc=>by
  have e:acc.toArray++its.toArray=(acc++its).toArray:=by simp
  have e2:(acc++its)++(List.replicate k its).flatten=acc++(List.replicate (k+1) its).flatten:=by
   rw[eZ,gk,br]
  rw[<- e2,<- a3u its k (acc++its),<- e,eZ,gL]
section
variable {X:Cx}{pins:List (Addr×Obj)}{σ:St}{H:Hp}{s:Shared}{l b:Addr}{xs ys zs:List V}
theorem Inv.lset {its its':List Value}{n:Nat}{f:Array Value->Array Value}{t':Nat}(I:Inv X pins σ H s)(hH:H l=some (.lst xs))
  (e:s.heap.get? l=some {cls:=.type "list",data:=.seq its.toArray n}) (hf:f its.toArray=its'.toArray) (hv:E2 ys its') (hz:ys.length<=sizeLine) :
  Inv X pins σ (upd H l (.lst ys)) {s with heap:=s.heap.update l (Obj.mapSeq f),toks:=t'}:=by
 have q:=PySem.IsL.update e f;rw[hf] at q;refine I.write (x:=l) (e:=l) (by rw[hH];exact trivial) (.inl rfl) (λb' u hb hu=>(gz s.heap (Obj.mapSeq f) (dZ hb)).trans hu) ⟨_,q⟩ ?_;exact⟨hz,its',_,hv,q⟩
theorem Inv.lnew {its:List Value}{t':Nat}(I:Inv X pins σ H s)(hv:E2 ys its)(hz:ys.length<=sizeLine) :
  Inv X pins σ (upd H s.heap.objs.size (.lst ys)) {s with heap:=s.heap.push {cls:=.type "list",data:=.seq its.toArray},toks:=t'} :=
 I.laid (λ_ _ q=>am _ q) (aC _) ⟨hz,its,0,hv,aK _ rfl⟩
theorem Inv.fresh (I:Inv X pins σ H s):H s.heap.objs.size=none:=I.hok.fresh (aC _)
theorem Inv.lstM (I:Inv X pins σ H s)(hH:H l=some (.lst xs)):xs.length<=sizeLine/\∃(its:List Value) (n:Nat),E2 xs its/\xs.length=its.length/\s.heap.get? l=some {cls:=.type "list",data:=.seq its.toArray n}:=by
 obtain⟨z,its,n,r,e⟩:=I.hok l _ hH;exact⟨z,its,n,r,r.length,e⟩
theorem a4X {n:Nat}(h:n<=sizeLine):Builtin.List.listTooLong n=false:=by
 unfold Builtin.List.listTooLong;exact decide_eq_false ∅
end
section
variable {X:Cx}
def a3P:V->List V->Hp->VK->Prop:=λx vs H Q=>∃ l xs y,x=.ref l/\vs=[y]/\H l=some (.lst xs)/\xs.length<sizeLine/\Q .non (upd H l (.lst (xs++[y])))
theorem a1e:MtM X "list.append" a3P:=by
 intro pins s σ H x vs v us Q I rx rv h;obtain⟨l,xs,y,rfl,rfl,hH,hz,q⟩:=h;cases rx;obtain⟨u,rfl,ru⟩:=rv.one;obtain⟨z,its,n,r,hl,e⟩:=I.lstM hH;refine h8 F.slot_list_append ⟨_,e,rfl⟩ F.entry_list_append (F.args_list_append_2 _ _) (PySem.list_append l its.toArray n u (by rw[aQ];omega)) ⟨e,?_⟩;refine⟨.non,_,I.lset (its':=its++[u]) hH e (by simp) (r.append (.cons ru .nil)) ?_,rfl,q⟩;rw[ak,bG];omega
def a3O:V->List V->Hp->VK->Prop:=λx vs H Q=>∃ l b xs zs,x=.ref l/\vs=[.ref b]/\H l=some (.lst xs)/\H b=some (.lst zs)/\xs.length+zs.length<=sizeLine/\Q .non (upd H l (.lst (xs++zs)))
theorem a7o:MtM X "list.extend" a3O:=by
 intro pins s σ H x vs v us Q I rx rv h;obtain⟨l,b,xs,zs,rfl,rfl,hH,hB,hz,q⟩:=h;cases rx;obtain⟨u,rfl,ru⟩:=rv.one;cases ru;obtain⟨z,its,n,r,hl,e⟩:=I.lstM hH;obtain⟨z2,its2,n2,r2,hl2,e2⟩:=I.lstM hB;have hsz:its.toArray.size+its2.toArray.size<=sizeLine:=by rw[aQ,aQ];omega
 have hlong:¬ (!its.toArray.isEmpty && Builtin.List.listTooLong (its.toArray.size+its2.toArray.size))=true:=by
  rw[a4X hsz,Bool.and_false];exact aV
 refine h8 F.slot_list_extend ⟨_,e,rfl⟩ F.entry_list_extend (F.args_list_extend_2 _ _)
  (AutoSeq1.list_extend_list_list_0 l its.toArray n b its2.toArray n2 hlong (by rw[aQ];omega) ∅) ⟨e,e2,?_⟩
 refine⟨.non,_,I.lset (its':=its++its2) hH e (by simp) (r.append r2) ?_,rfl,q⟩;rw[ak];omega
def b1W:V->List V->Hp->VK->Prop:=λx vs H Q=>∃ l xs y,x=.ref l/\vs=[]/\H l=some (.lst xs)/\xs[xs.length-1]?=some y/\Q y (upd H l (.lst xs.dropLast))
theorem b2n:MtM X "list.pop" b1W:=by
 intro pins s σ H x vs v us Q I rx rv h;obtain⟨l,xs,y,rfl,rfl,hH,hy,q⟩:=h;cases rx;have hus:=rv.zero;subst hus;obtain⟨z,its,n,r,hl,e⟩:=I.lstM hH;obtain⟨u,hu,ru⟩:=r.get hy;have hy':its.toArray[its.toArray.size-1]?=some u:=by
  show its.toArray[its.length-1]?=some u;rw[<- aZ,<- hl];exact hu
 refine h8 F.slot_list_pop ⟨_,e,rfl⟩ F.entry_list_pop (F.args_list_pop_1 _) (MeetsSeq.list_pop_last l its.toArray n u hy' (by rw[aQ];omega)) ⟨e,?_⟩;refine⟨y,_,I.lset (its':=its.dropLast) hH e ?_ r.dropLast ?_,ru,q⟩
 ·show its.toArray.eraseIdxIfInBounds (its.toArray.size-1)=its.dropLast.toArray;rw[aQ,iy,a5T]
 ·rw[jM];omega
def a5B:V->List V->Hp->VK->Prop:=λx vs H Q=>∃ l xs i k y,x=.ref l/\vs=[.int i]/\H l=some (.lst xs)/\-(2 ^ 63)<=i/\i<2 ^ 63/\seqIndex? i xs.length=some k/\xs[k]?=some y/\Q y (upd H l (.lst (xs.eraseIdx k)))
theorem a8I:MtM X "list.pop" a5B:=by
 intro pins s σ H x vs v us Q I rx rv h;obtain⟨l,xs,i,k,y,rfl,rfl,hH,h1,h2,hk,hy,q⟩:=h;cases rx;obtain⟨u,rfl,ru⟩:=rv.one;obtain⟨t,rfl⟩:=ru;obtain⟨z,its,n,r,hl,e⟩:=I.lstM hH;obtain⟨w,hw,rw'⟩:=r.get hy;refine h8 F.slot_list_pop ⟨_,e,rfl⟩ F.entry_list_pop (F.args_list_pop_2 _ _)
  (MeetsSeq.list_pop_at l its.toArray n i t k w (fitsIndex_both h1 h2) (by rw[aQ,<- hl];exact hk) (by rw[<- aZ];exact hw) (by rw[aQ];omega)) ⟨e,?_⟩
 refine⟨y,_,I.lset (its':=its.eraseIdx k) hH e ?_ (r.eraseIdx k) ?_,rw',q⟩
 ·show its.toArray.eraseIdxIfInBounds k=(its.eraseIdx k).toArray;rw[iy]
 ·have:=a3l xs k;omega
def a8j:R2:=λx y H Q=>∃ l b xs zs,x=.ref l/\y=.ref b/\H l=some (.lst xs)/\H b=some (.lst zs)/\xs.length+zs.length<=sizeLine/\∀ p,H p=none->Q (.ref p) (upd H p (.lst (xs++zs)))
theorem S8:OpR X (binaryOp .Add) a8j:=by
 intro pins s σ H x y v u Q I rx ry h;obtain⟨l,b,xs,zs,rfl,rfl,hH,hB,hz,q⟩:=h;cases rx;cases ry;obtain⟨z,its,n,r,hl,e⟩:=I.lstM hH;obtain⟨z2,its2,n2,r2,hl2,e2⟩:=I.lstM hB;refine PySem.P.add_list e e2 ?_ (by rw[aQ,aQ];omega);have ea:its.toArray++its2.toArray=(its++its2).toArray:=by simp
 rw[ea];exact⟨.ref _,_,I.lnew (t':=s.toks) (r.append r2) (by rw[ak];omega),rfl,q _ I.fresh⟩
def b4F:R2:=λx y H Q=>∃ l k xs,x=.ref l/\y=.int k/\H l=some (.lst xs)/\-(2 ^ 63)<=k/\k<2 ^ 63/\xs.length*k.toNat<=sizeLine /\
 ∀ p,H p=none->Q (.ref p) (upd H p (.lst (List.replicate k.toNat xs).flatten))
theorem b0l {α:Type}(xs:List α)(k:Nat):(List.replicate k xs).flatten.length=k*xs.length:=by
 induction k with
 | zero=>simp
 | succ k ih=>rw[eZ,gk,ak,ih,fe,Nat.add_comm]
theorem b2g:OpR X (binaryOp .Mult) b4F:=by
 intro pins s σ H x y v u Q I rx ry h;obtain⟨l,k,xs,rfl,rfl,hH,h1,h2,hz,q⟩:=h;cases rx;obtain⟨t,rfl⟩:=ry;obtain⟨z,its,n,r,hl,e⟩:=I.lstM hH;have hlen:its.toArray.size*k.toNat<=sizeLine:=by rw[aQ,<- hl];exact hz
 have hcap:¬ its.toArray.size*k.toNat>(2 ^ 63-1) / 8:=by
  have:(sizeLine:Nat)<=(2 ^ 63-1) / 8:=by decide
  omega
 have hfit:¬ (!Builtin.List.listFitsIndex k)=true:=by
  rw[fitsIndex_both h1 h2];exact aV
 have hlong:¬ Builtin.List.listTooLong (its.toArray.size*k.toNat)=true:=by
  rw[a4X hlen];exact aV
 have hnew:j8 (λx1 x2=>x1++x2) #[] (List.replicate (if its.toArray.isEmpty=true then 0 else k.toNat) its.toArray)=(List.replicate k.toNat its).flatten.toArray:=by
  have f0:∀ m:Nat,j8 (λx1 x2=>x1++x2) #[] (List.replicate m its.toArray)=(List.replicate m its).flatten.toArray:=λm=>by
   have:=a3u its m [];rw[eG] at this;exact this
  rw[f0];cases its with
  | nil=>simp
  | cons a r'=>rw[if_neg (by simp)]
 refine wpAny_binaryOp_repeat_ref (T:="list") (U:="int") (by decide) ⟨_,e,rfl⟩ (λs'=>typeIs_int s' k t) noFill_list_mul F.fills_int_mul F.slot_int_rmul repeat_list F.slot_int_index.lookup
  (h8 F.slot_int_rmul (typeIs_int s k t) F.entry_int_rmul (F.args_int_rmul_2 _ _) (int___rmul___int_list k t l its.toArray n)
   ⟨e,rfl,⟨_,e,rfl⟩,h8 F.slot_list_mul ⟨_,e,rfl⟩ F.entry_list_mul (F.args_list_mul_2 _ _) (AutoListH.list___mul___list_int_3 l its.toArray n k t hfit hcap hlong) ⟨e,?_⟩⟩)
 rw[hnew];exact⟨.ref _,_,I.lnew (t':=s.toks) (r.rep k.toNat) (by rw[b0l,Nat.mul_comm];exact hz),rfl,q _ I.fresh⟩
end
end L2
namespace Att
open PySem PySem.W PySem.Calls PyProof.Rows
theorem ints_of_wellAll {P:Params}{h:Heap}:∀(ns:List Int) (vs:List Value),WellAll P h vs (ns.map WData.int)->IntsAre vs ns:=by
 intro ns;induction ns with
 | nil =>
  intro vs w;rw[cu] at w;cases w;exact .nil
 | cons n ns ih =>
  intro vs w;rw[aH] at w;cases w with
  | cons a b =>
   cases a;exact .cons _ _ (ih _ b)
theorem script_of {l:OpenLaw}{n:Nat}(hn:l.most=some n){P:Params}{h:Heap}{args:List WData}{vals:List Value}
  (hpre:l.row.toRowW.claim.pre args=true) (hwl:WellAll P h vals args) :
  ∃ a vs ns,vals=[bX a]/\args=[WData.list (ns.map WData.int)]/\h.get? a=some {cls:=.type "list",data:=.seq vs.toArray}/\IntsAre vs ns/\ns.length<=n:=by
 have hsh:WShape.hasAll [] args [.list .int]=true:=(pre_splitW hpre).1;have hc:l.pre.holds [] {args:=args}=true:=(pre_splitW hpre).2;obtain⟨d,r,rfl,h1,h2⟩:=hasAllW_cons hsh;obtain rfl:=hasAllW_nil h2;obtain⟨xs,rfl,h3⟩:=hasW_list h1;obtain⟨ns,rfl⟩:=items_int h3;have hlen:ns.length<=n:=by
  unfold OpenLaw.pre at hc;have h4:(WTm.not (.lt (.lit (.int (n:Int))) (.len (.arg 0)))).holds [] {args:=[.list (ns.map .int)]}=true:=by
   have h4:=(holds_andW hc).1;rw[hn] at h4;exact h4
  have h5:=condW_of h4 (w_not (w_lt w_lit (w_len_list (w_arg rfl))));rw[ae] at h5;refine Nat.le_of_not_lt λq=>?_
  have q':(n:Int)<((ns.length:Nat):Int):=∅
  first
   | (rw[decide_eq_true q'] at h5;exact absurd h5 (by decide))
   | (simp at h5;omega)
 cases hwl with
 | cons w1 w2 =>
  cases w2;cases w1 with
  | list ho hall=>exact⟨_,_,ns,rfl,rfl,ho,ints_of_wellAll ns _ hall,hlen⟩
theorem post_true (l:OpenLaw)(args:List WData):l.row.toRowW.claim.post args (.bool true) args=true :=
 postW_of (r:=l.row.toRowW) (X:=(true == true))
  (show WShape.has [] (.bool true) .bool=true by first | rfl | decide | simp[WShape.has,WShape.arms,WShape.armsAll])
  (show (WTm.eq .res (.lit (.bool true))).value [] {args:=args,res:=some (.bool true),after:=args}=some (.bool (true == true)) from w_eq_bool (w_res rfl) w_lit) rfl
theorem attach_call {l:OpenLaw}{n:Nat}{q:Program}{loose:List Str}{XP:(Str->Option Value)->Heap->Prop}{YP:World->Heap->Prop}{d:DefRec}
  (hn:l.most=some n) (hdf:d.params.defaults=[])
  (call:∀(w:World) (sj ss:Shared) (mg mb:Str->Option Value) (fa:Addr) (o:Obj) (pm cd doc:Value) (a:Addr) (vs:List Value) (ns:List Int),
   Ground q loose [] XP w sj mg mb ss.heap->YP w ss.heap ->
   ss.heap.get? fa=some o->o.data=.func (docDef d.name d.params d.body d.scope pm cd doc)->ss.heap.CodeRec cd d.name->mg d.name=some (.ref fa) ->
   ss.heap.get? a=some {cls:=.type "list",data:=.seq vs.toArray}->IntsAre vs ns->ns.length<=n->ss.gens=#[] ->
   codeAny (model l.prog w) callerA (.call (.ref fa) ⟨[.ref a],[]⟩) (λr s'=>r=.ok (.ret (.bool true))/\OldK ss.heap s'.heap/\s'.os=ss.os/\AllBare s'.gens) ss) :
  WalkO q loose XP YP l.row.toRowW d [] (λf vs=>jW f vs):=by
 intro w sj ss mg mb G Y fa o pm cd doc dV kV ho hd hcd hD hmg hg args vals as hpre hlay hrd hwl hlo;obtain rfl:dV=.none:=Dflts.none hD hdf;obtain rfl:kV=.none:=Dflts.noKw hD;obtain⟨a,vs,ns,rfl,rfl,hobj,hints,hlen⟩:=script_of hn hpre hwl;refine enter_call (codeAny_mono (call w sj ss mg mb fa o pm cd doc a vs ns G Y ho (fd_plain hd) hcd hmg hobj hints hlen hg) λr s' hq=>?_);obtain⟨rfl,h2,h3,h4⟩:=hq;exact⟨.inl ⟨.bool true,.bool true,[],rfl,λ_=>rfl,.bool true,post_true l _,λ_=>⟨List.Pairwise.nil,λ_ hm=>(nomatch hm)⟩⟩,h2,h3,h4⟩
end Att
namespace L2
open PySem PySem.Spec PyProof.Rows
theorem a0P:∀ {vs:List Value} {ns:List Int},IntsAre vs ns->E2 (ns.map V.int) vs
 | _,_,.nil=>.nil
 | _,_,.cons n t h=>.cons ⟨t,rfl⟩ (a0P h)
def b3j (H:Hp):Prop:=∀ b,H b=none\/∃ o xs,H b=some (.frz o (.lst xs))
theorem a8L {P:Program}{w:World}{K:ah}{mg mb:Str->Option Value}{CX:CXT}{k:Nat}{fa a:Addr}{fd:FuncData}{x:Str}{sp:Sp}{ss:Shared}{vs:List Value}{ns:List Int}
  (KX:K.In ss.heap) (hns:ss.heap.Ns mainGlobals mg) (hb:ss.heap.Ns builtinsNs mb) (hbb:∀ x:Str,x≠"__name__"->mb x=bootBuiltins x) (hlim:ss.heap.NoLimit) (hg:ss.gens=#[])
  (ha:ss.heap.get? a=some {cls:=.type "list",data:=.seq vs.toArray}) (hi:IntsAre vs ns) (hl:ns.length<=sizeLine) (hr:T2 k callerA)
  (F:∀ base:Heap,K.In base->base.Ns mainGlobals mg->E1 P w K mg base CX k fa fd [x] sp) (hbind:∀(s:Shared) (u:Value),BindsTo s fd ⟨[u],[]⟩ [(x,u)])
  (hsp:∀ H:Hp,b3j H->SqL K H a (ns.map V.int)->sp [.ref a] H (λv _=>v=.bl true) λ_ _ _=>False)
  (hCX:∀ H e s',CX [] H ss (λ_ _ _=>False) e s'->False) :
  codeAny (model P w) callerA (.call (.ref fa) ⟨[.ref a],[]⟩) (λr s'=>r=.ok (.ret (.bool true))/\OldK ss.heap s'.heap/\s'.os=ss.os/\AllBare s'.gens) ss:=by
 have rv:=a0P hi;have lenV:=hi.length;have core:∀ H:Hp,b3j H->SqL K H a (ns.map V.int)->HOk P w H ss.heap->(∀ b,H b≠none->b=a)->(H a≠none->K.lookup a=none) ->
   codeAny (model P w) callerA (.call (.ref fa) ⟨[.ref a],[]⟩) (λr s'=>r=.ok (.ret (.bool true))/\OldK ss.heap s'.heap/\s'.os=ss.os/\AllBare s'.gens) ss:=by
  intro H hO hS hok hA hK;have base_of:∀ {b:Addr} {o:Obj},ss.heap.get? b=some o->H b=none->(a4b ss.heap H).get? b=some o:=λe n=>a8Z e n
  have noA:∀ {b:Addr} {o:Obj} {es:Array DictEntry} {ep:Nat},ss.heap.get? b=some o->o.data=.dict es ep->H b=none:=λ{b o es ep} e d=>by
   cases q:H b with
   | none=>rfl
   | some u =>
    have e':b=a:=hA b (by rw[q];simp);subst e';rw[ha] at e;cases e;have d':Data.seq vs.toArray _=Data.dict es ep:=d;cases d'
  have nsK:∀ {b:Addr} {m:Str->Option Value},ss.heap.Ns b m->(a4b ss.heap H).Ns b m:=λ{b m} ⟨o,es,ep,e,d,r⟩=>⟨o,es,ep,base_of e (noA e d),d,r⟩
  have hKb:K.In (a4b ss.heap H):=λb o e=>base_of (KX b o e) (by
   cases q:H b with
   | none=>rfl
   | some u =>
    have e':b=a:=hA b (by rw[q];simp);subst e'
    rw[hK (by rw[q];simp)] at e;cases e)
  have hM:Mod K mg (a4b ss.heap H):=⟨hKb,nsK hns,⟨mb,nsK hb,hbb⟩,let ⟨mc,h1,h2⟩:=hlim;⟨mc,nsK h1,h2⟩⟩
  have e0:a5Z P w K mg (a4b ss.heap H) callerA [] ss H:=⟨rfl,hM,λb o e=>b0f e,ge (a7y _ _),trivial,λb hb=>absurd (show b∈([]:List Addr) from hb) (by simp),hok,.of_eq hg⟩
  refine codeAny_mono ((F _ hKb (nsK hns)).run callerA [] ss H ⟨[.ref a],[]⟩ [.ref a] [.ref a] _ _ hr e0 (hbind ss (.ref a)) (.cons rfl .nil) (hsp H hO hS)) λr s' h=>?_
  cases r with
  | error e=>exact (hCX H e s' h).elim
  | ok fl =>
   cases fl with
   | next=>exact dQ h
   | brk=>exact dQ h
   | cont=>exact dQ h
   | ret u =>
    obtain⟨v,H',os,bare,un,hok',r',q⟩:=h;have q':v=.bl true:=q;subst q';obtain rfl:u=bE true:=r';refine⟨rfl,OldK.of_keep λb o e=>?_,os,bare⟩;cases q:H b with
    | none=>exact un.keep b o e q (by intro z;exact absurd (show b∈([]:List Addr) from z) (by simp)) (by simp)
    | some u =>
     rcases hO b with z | ⟨ob,xs,z⟩
     ·rw[q] at z;cases z
     ·have z2:=un.frzs b ob _ z;obtain⟨e1,_⟩:=hok b _ z;obtain⟨e2,_⟩:=hok' b _ z2;rw[e] at e1;cases e1;exact e2
 cases hk:K.lookup a with
 | some o =>
  have e:=KX a o hk;rw[ha] at e;cases e;refine core (λ_=>none) (λ_=>.inl rfl) (.inr ⟨_,vs.toArray,_,hk,rfl,rfl,rfl,by rw[aQ,lenV];exact hl, ~~~rv⟩) (λb u z=>by have z':(none:Option HO)=some u:=z;cases z') (λb z=>absurd rfl z) λz=>absurd rfl z
 | none =>
  refine core (λb=>if b=a then some (.frz {cls:=.type "list",data:=.seq vs.toArray} (.lst (ns.map V.int))) else none) (λb=>?_) (.inl (.inr ⟨{cls:=.type "list",data:=.seq vs.toArray},if_pos rfl⟩)) (λb u z=>?_) (λb z=>?_) λ_=>hk
  ·by_cases hb:b=a
   ·exact .inr ⟨_,_,if_pos hb⟩
   ·exact .inl (if_neg hb)
  ·by_cases hb:b=a
   ·have z':=(if_pos hb).symm.trans z;cases z';subst hb;exact⟨ha,by rw[ae];exact hl,vs,_,rv,ha⟩
   ·have z':=(if_neg hb).symm.trans z;cases z'
  ·by_cases hb:b=a
   ·exact hb
   ·exact absurd (if_neg hb) z
end L2
namespace L2
open PySem PySem.Spec PyProof.Rows
abbrev KOf {K:ah}{h:Heap}(_:K.In h):ah:=K
theorem a6b {l:iB}{n k:Nat}{q:Program}{loose:List Str}{XP:(Str->Option Value)->Heap->Prop}{YP:World->Heap->Prop}{d:DefRec}{K:Params->ah}{CX:World->CXT}{sp:World->Sp}{x:Str}
  (hn:l.most=some n) (hn2:n<=sizeLine) (hdf:d.params.defaults=[]) (hr:T2 k callerA)
  (hY:∀(w:World) (h:Heap),YP w h->(K w.params).In h)
  (F:∀(w:World) (mg:Str->Option Value) (fa:Addr) (h:Heap),(K w.params).In h->h.Ns mainGlobals mg->mg d.name=some (.ref fa) ->
   ∃ fd:FuncData,(∀(s:Shared) (u:Value),BindsTo s fd ⟨[u],[]⟩ [(x,u)]) /\
    ∀ base:Heap,(K w.params).In base->base.Ns mainGlobals mg->E1 l.prog w (K w.params) mg base (CX w) k fa fd [x] (sp w))
  (hsp:∀(w:World) (H:Hp) (a:Addr) (ns:List Int),ns.length<=n->b3j H->SqL (K w.params) H a (ns.map V.int)->sp w [.ref a] H (λv _=>v=.bl true) λ_ _ _=>False)
  (hCX:∀(w:World) (H:Hp) (s:Shared) (e:Value) (s':Shared),CX w [] H s (λ_ _ _=>False) e s'->False) :
  PySem.W.WalkO q loose XP YP l.row.toRowW d [] (λf vs=>jW f vs):=by
 refine Att.attach_call hn hdf λw sj ss mg mb fa o pm cd doc a vs ns G Y ho hd hcd hmg hobj hints hlen hg=>?_
 have KX:=hY w _ Y;obtain⟨fd,hb,hF⟩:=F w mg fa _ KX G.T.g hmg;exact a8L KX G.T.g G.T.b G.T.builtins G.T.nolimit hg hobj hints (bH hlen hn2) hr hF hb (λH hO hS=>hsp w H a ns hlen hO hS) λH e s'=>hCX w H ss e s'
end L2
/- THE LAST THEOREM (shape;LID,My.* are yours):
   My.Adr: a structure of the addresses that your layer names (classes,functions);My.Txt K t: a structure (Prop) of the equations over K;
   My.txt_mk:{K} {implicit addresses ..} (e1:nsIn K mainGlobals "law"=some (some (.ref f))) (e2:K.lookup f=some ⟨oc,od,.func (fnOf "law" "law" params body scope dV kV doc pm an cdv ct),sl⟩) (e3:codeIn K cdv "law"=true) ..:∃ t,My.Txt K t
set_option maxRecDepth 100000 in
set_option maxHeartbeats 0 in
theorem PySem.Challenge.cw_LID_holds : PySem.Challenge.rw_LID.Holds := by
 w_on;o_law;k_head;(case hw=>w_witness2)
 k_fill
 refine L2.a6b (l:=PySem.Challenge.rw_LID) (n:=63) (k:=40) (x:="script") (CX:=λw=>..) (sp:=λ_=>My.sp_law) rfl (by decide) rfl ⟨rfl,by decide,by decide⟩ (λw h Y=>PySem.W.kIn_of Y) ?F ?S ?C
 case F =>
  intro w mg fa h KX G hmg;have T:∃ t,My.Txt (L2.KOf KX) t:=by
   dsimp only[L2.KOf] -- K must stand as «<heap const> w.params» for k_is;refine' My.txt_mk ?e1 ?e2 ?e3 ..
   (case e1=>PySem.W.k_is) -- in the order: a name -> its address -> its object -> its parts
   (case e2=>PySem.W.k_is)
   ..
  obtain⟨t,T⟩:=T;have e0:=hmg.symm.trans (bf KX G T.law);cases e0 -- fa is the law's own address;exact⟨_,λs u=>.of_eq rfl,λbase kb nb=>My.law_fn T kb nb⟩ -- if «.of_eq rfl» comes too early: refine' ⟨_,?b,λbase kb nb=>My.law_fn T kb nb⟩;exact λs u=>.of_eq rfl
 case S=>exact λw H a ns hl hO hS=>..
 case C=>exact ..
(the tactic k_is has no namespace: write k_is) -/
namespace L2
open PySem PySem.Spec PyProof.Rows
def X5 (s:Stmt):Arguments:=match s with
 | .FunctionDef _ a _ _ _ _ _ _ _ _=>a
 | _=>{posonlyargs:=[],args:=[],vararg:=none,kwonlyargs:=[],kw_defaults:=[],kwarg:=none,defaults:=[]}
def U7 (s:Stmt):List Stmt:=match s with
 | .FunctionDef _ _ b _ _ _ _ _ _ _=>b
 | _=>[]
def B7 (s:Stmt):Scope:=match s with
 | .FunctionDef _ _ _ _ _ _ sc _ _ _=>sc
 | _=>{kind:=.function,names:=[],isGenerator:=false,isCoroutine:=false}
abbrev CX0:CXT:=λ_ _ _ _ _ _=>False
abbrev E0:XK:=λ_ _ _=>False
theorem b3T {X:Cx}:a5X CX0 X E0:=λ_ _ _ _ _ _ _ h=>h.elim
structure Fun (K:ah)(x qual:Str)(st:Stmt)(f:Addr)(fd:FuncData):Prop where
 ex:∃(oc:Value) (od:Option Addr) (kV doc pm:Value) (an:Option Addr) (cdv ct:Value) (osl:Array (Option Value)),
  fd=eR x qual (X5 st) (U7 st) (B7 st) .none kV doc pm an cdv ct/\K.lookup f=some ⟨oc,od,.func fd,osl⟩/\gI K cdv qual=true
 kp:gH K (.ref f)=true
section
variable {P:Program}{w:World}{K:ah}{mg:Str->Option Value}{base:Heap}
theorem Fun.ok {x qual:Str}{st:Stmt}{f:Addr}{fd:FuncData}{N ps:List Str}{k:Nat}{sp:Sp}(F:Fun K x qual st f fd)(S:D0 N ps (B7 st))(len:∀ vs H Q E,sp vs H Q E->vs.length=ps.length)
  (hbody:∀(cdv:Value) (A:Around) (outer:List Env) (s:Shared) (H:Hp) (vs:List V) (Q:VK) (E:XK),T2 k (A.deeper (envOfC qual (B7 st) s.heap.objs.size f cdv))->sp vs H Q E ->
   ∃ t,PSs (a7D CX0 P w K mg base N qual (B7 st) f cdv A outer s H E).nox (U7 st) t/\t {nx:=λ_ H'=>Q .non H',rt:=Q} (R4 N vs) H):E1 P w K mg base CX0 (k+1) f fd ps sp:=by
 obtain⟨oc,od,kV,doc,pm,an,cdv,ct,osl,rfl,lk,hcd⟩:=F.ex;refine b4d lk hcd S len λA outer s H vs Q E hr hsp=>?_
 obtain⟨t,h,q⟩:=hbody cdv A outer s H vs Q E hr hsp;exact⟨t,h.nox,q⟩
theorem Fun.binds {x qual:Str}{st:Stmt}{f:Addr}{fd:FuncData}{ps:List Str}(F:Fun K x qual st f fd)
  (h:∀(kV doc pm:Value) (an:Option Addr) (cdv ct:Value) (us:List Value),us.length=ps.length->bindArgs (eR x qual (X5 st) (U7 st) (B7 st) .none kV doc pm an cdv ct) ⟨us,[]⟩=pure (ps.zip us)):a3F K fd ps []:=by
 obtain⟨oc,od,kV,doc,pm,an,cdv,ct,osl,rfl,lk,hcd⟩:=F.ex;exact .all (h kV doc pm an cdv ct)
theorem I0 {x qual:Str}{st:Stmt}{f:Addr}{oc:Value}{od an:Option Addr}{osl:Array (Option Value)}{kV doc pm cdv ct:Value}(l:K.lookup f=some ⟨oc,od,.func (eR x qual (X5 st) (U7 st) (B7 st) .none kV doc pm an cdv ct),osl⟩)
  (c:gI K cdv qual=true) (k:gH K (.ref f)=true):Fun K x qual st f (eR x qual (X5 st) (U7 st) (B7 st) .none kV doc pm an cdv ct):=⟨⟨oc,od,kV,doc,pm,an,cdv,ct,osl,rfl,l,c⟩,k⟩
end
theorem K2 {A:Around}{k:Nat}(hr:T2 k A):A.units+1<cLine:=j5 (Nat.add_le_add_left (by decide:1<=64) _) hr.units
section
variable {X:Cx}
theorem pv (i:Nat){x:Str}{pos:Pos}(hN:X.N[i]?=some x:=by rfl)(hv:Vis X.env.scope x:=by first | exact Or.inl rfl | exact Or.inr (Or.inl rfl) | exact Or.inr (Or.inr rfl))(hd:(x == ("__debug__":Str))=false:=by decide)
  (hcd:(x == ("__classdict__":Str))=false:=by decide):PE X (.Name x pos) (W7 i):=b2b hN hv hd hcd
end
theorem K7 {c A B:Prop}[Decidable c](h1:c->A)(h2:¬ c->B):if c then A else B:=by
 by_cases h:c
 ·rw[if_pos h];exact h1 h
 ·rw[if_neg h];exact h2 h
def A9 (H H':Hp):Prop:=∀ b o,H b=some o->H' b=some o
theorem A9.refl (H:Hp):A9 H H:=λ_ _ h=>h
theorem A9.trans {H H1 H2:Hp}(a:A9 H H1)(b:A9 H1 H2):A9 H H2:=λc o h=>b c o (a c o h)
theorem A9.free {H H':Hp}(e:A9 H H'){l:Addr}(h:H' l=jC):H l=jC:=by
 cases q:H l with
 | none=>rfl
 | some o =>
  rw[e l o q] at h;cases h
theorem A9.seq {K:ah}{H H':Hp}{a:Addr}{xs:List V}(e:A9 H H')(h:SqL K H a xs):SqL K H' a xs:=by
 rcases h with (h | ⟨o,h⟩) | h
 ·exact .inl (.inl (e _ _ h))
 ·exact .inl (.inr ⟨o,e _ _ h⟩)
 ·exact .inr h
end L2
namespace L2
open PySem PySem.Spec PyProof.Rows
section
variable {κ:Type}[DecidableEq κ]
def T4 (kvs:List (κ×V))(k:κ):Option V:=(kvs.find? λkv=>decide (kv.1=k)).map (·.2)
def S2 (kvs:List (κ×V))(k:κ)(v:V):List (κ×V) :=
 if (kvs.any λkv=>decide (kv.1=k))=true then kvs.map (λkv=>if kv.1=k then (kv.1,v) else kv) else kvs++[(k,v)]
def b1w (kvs:List (κ×V))(k:κ):List (κ×V):=kvs.filter λkv=>decide (kv.1≠k)
theorem N2 {p:κ×V}{r:List (κ×V)}{k:κ}(e:p.1=k):T4 (p::r) k=some p.2:=by simp[T4,fk,e]
theorem N3 {p:κ×V}{r:List (κ×V)}{k:κ}(e:¬ p.1=k):T4 (p::r) k=T4 r k:=by simp[T4,fk,e]
theorem a0t (k:κ):∀ kvs:List (κ×V),(kvs.any λkv=>decide (kv.1=k))=(T4 kvs k).isSome
 | []=>rfl
 | p::r=>by
  rw[fm];by_cases e:p.1=k
  ·simp only[N2 e,decide_eq_true e,Bool.true_or,Option.isSome_some]
  ·rw[N3 e,decide_eq_false e,Bool.false_or];exact a0t k r
theorem a4t (k j:κ)(y:V):∀ kvs:List (κ×V),T4 (kvs.map λkv=>if kv.1=k then (kv.1,y) else kv) j=(T4 kvs j).map λx=>if j=k then y else x
 | []=>rfl
 | p::r=>by
  have ih:=a4t k j y r;rw[aH];by_cases h:p.1=k
  ·rw[if_pos h];by_cases e:p.1=j
   ·rw[N2 (p:=(p.1,y)) e,N2 e,gA,if_pos (e.symm.trans h)]
   ·rw[N3 (p:=(p.1,y)) e,N3 e,ih]
  ·rw[if_neg h];by_cases e:p.1=j
   ·rw[N2 (p:=p) e,N2 e,gA,if_neg (λz=>h (e.trans z))]
   ·rw[N3 (p:=p) e,N3 e,ih]
theorem a2J (k j:κ)(y:V):∀ kvs:List (κ×V),T4 kvs k=none->T4 (kvs++[(k,y)]) j=if j=k then some y else T4 kvs j
 | [],_=>by
  by_cases e:k=j
  ·rw[if_pos e.symm];exact N2 (p:=(k,y)) e
  ·rw[if_neg (λz=>e z.symm)];exact N3 (p:=(k,y)) e
 | p::r,hn=>by
  rw[eV];have hk:¬ p.1=k:=λz=>by rw[N2 z] at hn;cases hn
  rw[N3 hk] at hn;have ih:=a2J k j y r hn;by_cases e:p.1=j
  ·rw[N2 e,N2 e,if_neg (λz=>hk (e.trans z))]
  ·rw[N3 e,N3 e,ih]
theorem a4s (kvs:List (κ×V))(k j:κ)(y:V):T4 (S2 kvs k y) j=if j=k then some y else T4 kvs j:=by
 unfold S2;by_cases a:(kvs.any λkv=>decide (kv.1=k))=true
 ·rw[if_pos a,a4t];rw[a0t] at a;by_cases e:j=k
  ·obtain⟨x,hx⟩:=eU.mp a;rw[if_pos e,e,hx,gA,if_pos rfl]
  ·rw[if_neg e];cases T4 kvs j with
   | none=>rfl
   | some x=>rw[gA,if_neg e]
 ·rw[if_neg a];refine a2J k j y kvs ?_;rw[a0t] at a;cases q:T4 kvs k with
  | none=>rfl
  | some x=>rw[q] at a;exact (a rfl).elim
theorem Q2 (kvs:List (κ×V))(k:κ)(v:V):(S2 kvs k v).length<=kvs.length+1:=by
 unfold S2;split
 ·rw[ae];omega
 ·rw[ak,aD,cX];omega
theorem a4o.isSome_eq {o:Option V}{u:Option Value}(r:a4o o u):o.isSome=u.isSome:=by
 cases o with
 | none=>cases u with
  | none=>rfl
  | some _=>exact (show False from r).elim
 | some _=>cases u with
  | none=>exact (show False from r).elim
  | some _=>rfl
theorem a4o.getD {o:Option V}{u:Option Value}{d:V}{d':Value}(r:a4o o u)(rd:J2 d d'):J2 (o.getD d) (u.getD d'):=by
 cases o with
 | none=>cases u with
  | none=>exact rd
  | some _=>exact (show False from r).elim
 | some _=>cases u with
  | none=>exact (show False from r).elim
  | some _=>exact r
theorem KV.val {kvs:List (κ×V)}{vs:List (κ×Value)}(r:KV kvs vs)(k:κ):a4o (T4 kvs k) (valueAt vs k):=by
 unfold KV at r;induction r with
 | nil=>exact dR
 | @cons p q ps qs h t ih =>
  obtain⟨h1,h2⟩:=h;by_cases e:p.1=k
  ·have e':q.1=k:=h1.symm.trans e;have b:valueAt (q::qs) k=some q.2:=by simp[valueAt,fk,e']
   rw[N2 e,b];exact h2
  ·have e':¬ q.1=k:=λz=>e (h1.trans z)
   have b:valueAt (q::qs) k=valueAt qs k:=by simp[valueAt,fk,e']
   rw[N3 e,b];exact ih
theorem KV.any {kvs:List (κ×V)}{vs:List (κ×Value)}(r:KV kvs vs)(k:κ):(kvs.any λkv=>decide (kv.1=k))=vs.any λkv=>decide (kv.1=k):=by
 unfold KV at r;induction r with
 | nil=>rfl
 | cons h t ih=>rw[fm,fm,ih,h.1]
theorem KV.repl {kvs:List (κ×V)}{vs:List (κ×Value)}(r:KV kvs vs)(k:κ){y:V}{u:Value}(ry:J2 y u) :
  KV (kvs.map λkv=>if kv.1=k then (kv.1,y) else kv) (vs.map λkv=>if kv.1=k then (kv.1,u) else kv):=by
 unfold KV at r ⊢;induction r with
 | nil=>exact .nil
 | @cons p q ps qs h t ih =>
  rw[aH,aH];refine .cons ?_ ih;obtain⟨h1,h2⟩:=h;by_cases e:p.1=k
  ·rw[if_pos e,if_pos (h1.symm.trans e)];exact⟨h1,ry⟩
  ·rw[if_neg e,if_neg (λz=>e (h1.trans z))];exact⟨h1,h2⟩
theorem KV.put {kvs:List (κ×V)}{vs:List (κ×Value)}(r:KV kvs vs)(k:κ){y:V}{u:Value}(ry:J2 y u):KV (S2 kvs k y) (stored vs k u):=by
 unfold S2 stored;rw[r.any k];by_cases e:(vs.any λkv=>decide (kv.1=k))=true
 ·rw[if_pos e,if_pos e];exact r.repl k ry
 ·rw[if_neg e,if_neg e];exact Paired.snoc r ⟨rfl,ry⟩
theorem KV.drop {kvs:List (κ×V)}{vs:List (κ×Value)}(r:KV kvs vs)(k:κ):KV (b1w kvs k) (without vs k):=by
 unfold KV at r ⊢;unfold b1w without;induction r with
 | nil=>exact .nil
 | @cons p q ps qs h t ih =>
  obtain⟨h1,h2⟩:=h;rw[cR,cR];by_cases e:p.1=k
  ·have a:¬ decide (p.1≠k)=true:=by simp[e]
   have b:¬ decide (q.1≠k)=true:=by simp[h1.symm.trans e]
   rw[if_neg a,if_neg b];exact ih
  ·have e':¬ q.1=k:=λz=>e (h1.trans z)
   have a:decide (p.1≠k)=true:=by simp[e]
   have b:decide (q.1≠k)=true:=by simp[e']
   rw[if_pos a,if_pos b];exact .cons ⟨h1,h2⟩ ih
theorem KV.keys {kvs:List (κ×V)}{vs:List (κ×Value)}(r:KV kvs vs):kvs.map (·.1)=vs.map (·.1):=by
 unfold KV at r;induction r with
 | nil=>rfl
 | cons h t ih=>rw[aH,aH,ih,h.1]
theorem KV.length {kvs:List (κ×V)}{vs:List (κ×Value)}(r:KV kvs vs):kvs.length=vs.length:=gU r
end
theorem a6F {P:Program}{w:World}{k:Key}{u:Value}(r:J2 (kV k) u):(L1 P w).is k u=true:=by
 cases k with
 | inl i=>obtain⟨t,e⟩:=(show ∃ t,u=dO i t from r);subst e;exact a5d P w i t
 | inr x=>obtain⟨t,e⟩:=(show ∃ t,u=iJ x t from r);subst e;exact a5c P w x t
theorem a3r {P:Program}{w:World}:∀ {ks:List Key} {us:List Value},E2 (ks.map kV) us->ItemsAre (L1 P w) ks us
 | [],_,r=>by rw[cu] at r;cases r;exact .nil
 | k::ks,_,r=>by
  rw[aH] at r;cases r with
  | cons h t=>exact .cons (a6F h) (a3r t)
abbrev KT (H:Hp):List (List Key×V)->List (List Key×Addr×Value)->Prop:=Paired λp q=>p.1=q.1/\H q.2.1=some (.tup (p.1.map kV))/\J2 p.2 q.2.2
theorem KT.val {H:Hp}{kvs:List (List Key×V)}{xs:List (List Key×Addr×Value)}(r:KT H kvs xs)(k:List Key):a4o (T4 kvs k) ((atKey xs k).map (·.2)):=by
 induction r with
 | nil=>exact dR
 | @cons p q ps qs h t ih =>
  obtain⟨h1,_,h2⟩:=h;by_cases e:p.1=k
  ·have e':q.1=k:=h1.symm.trans e;have b:atKey (q::qs) k=some q.2:=by simp[atKey,fk,e']
   rw[N2 e,b];exact h2
  ·have e':¬ q.1=k:=λz=>e (h1.trans z)
   have b:atKey (q::qs) k=atKey qs k:=by simp[atKey,fk,e']
   rw[N3 e,b];exact ih
theorem KT.repl {H:Hp}{kvs:List (List Key×V)}{xs:List (List Key×Addr×Value)}(r:KT H kvs xs)(k:List Key){y:V}{u:Value}(ry:J2 y u) :
  KT H (kvs.map λkv=>if kv.1=k then (kv.1,y) else kv) (xs.map (putAt k u)):=by
 induction r with
 | nil=>exact .nil
 | @cons p q ps qs h t ih =>
  rw[aH,aH];refine .cons ?_ ih;obtain⟨h1,h2,h3⟩:=h;unfold putAt;by_cases e:p.1=k
  ·rw[if_pos e,if_pos (h1.symm.trans e)];exact⟨h1,h2,ry⟩
  ·rw[if_neg e,if_neg (λz=>e (h1.trans z))];exact⟨h1,h2,h3⟩
theorem KT.put {H:Hp}{kvs:List (List Key×V)}{xs:List (List Key×Addr×Value)}(r:KT H kvs xs)(k:List Key){b:Addr}{y:V}{u:Value}(hb:H b=some (.tup (k.map kV)))(ry:J2 y u) :
  KT H (S2 kvs k y) (storedH xs k b u):=by
 have e:(kvs.any λkv=>decide (kv.1=k))=(atKey xs k).isSome:=by
  rw[a0t,(r.val k).isSome_eq,jQ]
 unfold S2 storedH;rw[e];by_cases q:(atKey xs k).isSome=true
 ·rw[if_pos q,if_pos q];exact r.repl k ry
 ·rw[if_neg q,if_neg q];exact Paired.snoc r ⟨rfl,hb,ry⟩
theorem KT.keeps {H H':Hp}{kvs:List (List Key×V)}{xs:List (List Key×Addr×Value)}(r:KT H kvs xs)(ht:∀ b ys,H b=some (.tup ys)->H' b=some (.tup ys)):KT H' kvs xs :=
 Paired.mapP r λ_ _ z=>⟨z.1,ht _ _ z.2.1,z.2.2⟩
section
variable {P:Program}{w:World}{H:Hp}{h:Heap}{a:Addr}
theorem b1k {u:HO}(ok:HOk P w H h)(e:Rd H a u):L8 P w H h a u:=e.ok ok
theorem b1x {kvs:List (Key×V)}(ok:HOk P w H h)(e:Rd H a (.dK kvs)):kvs.length<=sizeLine/\(a == sysModules)=false/\∃ vs,KV kvs vs/\h.DictOf (L1 P w) a vs :=
 show L8 P w H h a (.dK kvs) from b1k ok e
theorem a9i {kvs:List (Key×V)}(ok:HOk P w H h)(e:H a=some (.dK kvs)):kvs.length<=sizeLine/\(a == sysModules)=false/\∃ vs,KV kvs vs/\h.DictOf (L1 P w) a vs:=b1x ok (.inl e)
theorem a5N {ks:List Key}(ok:HOk P w H h)(e:H a=some (.tup (ks.map kV))):(tupleKind (L1 P w)).is h ks a:=by
 obtain⟨_,its,r,o,h1,h2,n,h3⟩:=(show L8 P w H h a (.tup (ks.map kV)) from ok a _ e)
 exact⟨o,its.toArray,n,h1,h2,h3,by simpa using a3r r⟩
theorem b1v {kvs:List (List Key×V)}(ok:HOk P w H h)(e:Rd H a (.dT kvs)):kvs.length<=sizeLine/\(a == sysModules)=false /\
  ∃ xs,KT H kvs xs/\h.DictOfH (tupleKind (L1 P w)) a xs:=by
 obtain⟨z,y,xs,r,o,es,ep,h1,h2,h3,h4,h5⟩:=(show L8 P w H h a (.dT kvs) from b1k ok e)
 refine⟨z,y,xs,r,o,es,ep,h1,h2,h3,h4,λx hx=>?_,h5⟩;have all:∀ {l:List (List Key×V)} {m:List (List Key×Addr×Value)},KT H l m->∀ x∈m,(tupleKind (L1 P w)).is h x.1 x.2.1:=by
  intro l m q;induction q with
  | nil=>intro x hx;exact nomatch hx
  | @cons p q ps qs hq t ih =>
   intro x hx;rcases aJ.mp hx with e | hx
   ·subst e;exact a5N ok (by rw[<- hq.1];exact hq.2.1)
   ·exact ih x hx
 exact all r x hx
theorem b4h {kvs:List (List Key×V)}(ok:HOk P w H h)(e:H a=some (.dT kvs)):kvs.length<=sizeLine/\(a == sysModules)=false /\
  ∃ xs,KT H kvs xs/\h.DictOfH (tupleKind (L1 P w)) a xs:=b1v ok (.inl e)
end
def a2H (H:Hp)(a:Addr)(y:V)(r:Option V):Prop :=
 (∃ kvs k,Rd H a (.dK kvs)/\y=kV k/\r=T4 kvs k)\/∃ kvs k b,Rd H a (.dT kvs)/\y=.ref b/\H b=some (.tup (k.map kV))/\r=T4 kvs k
def a4p (H:Hp)(a:Addr)(y v:V)(H':Hp):Prop :=
 (∃ kvs k,H a=some (.dK kvs)/\y=kV k/\kvs.length<sizeLine/\H'=upd H a (.dK (S2 kvs k v))) \/
 ∃ kvs k b,H a=some (.dT kvs)/\y=.ref b/\H b=some (.tup (k.map kV))/\kvs.length<sizeLine/\H'=upd H a (.dT (S2 kvs k v))
theorem a2H.k {H:Hp}{a:Addr}{kvs:List (Key×V)}{k:Key}(e:H a=some (.dK kvs)):a2H H a (kV k) (T4 kvs k):=.inl ⟨kvs,k,.inl e,rfl,rfl⟩
theorem a4p.k {H:Hp}{a:Addr}{kvs:List (Key×V)}{k:Key}{v:V}(e:H a=some (.dK kvs))(hl:kvs.length<sizeLine):a4p H a (kV k) v (upd H a (.dK (S2 kvs k v))):=.inl ⟨kvs,k,e,rfl,hl,rfl⟩
section
variable {X:Cx}{pins:List (Addr×Obj)}{σ:St}{H:Hp}{s:Shared}{a:Addr}{y v:V}{u r:Value}{o:Option V}{A:Around}{E:Value->Shared->Prop}
theorem Inv.big (I:Inv X pins σ H s):sysModules<s.heap.objs.size:=by
 have h:mainGlobals<s.heap.objs.size:=(I.mod.glob.keeps I.bk).lt;exact iF (by decide) h
theorem b0O {Q:Value->Shared->Prop}(hu:A.units+1<cLine)(I:Inv X pins σ H s)(g:a2H H a y o)(ry:J2 y u)(h:∀ s',Inv X pins σ H s'->Q (.bool (!o.isSome)) s') :
  wpAny (model X.prog X.w) A (compareOp .NotIn u (.ref a)) Q E s:=by
 rcases g with ⟨kvs,k,e,ey,l⟩ | ⟨kvs,k,b,e,ey,eb,l⟩
 ·subst ey;obtain⟨z,hd,vs,rel,dd⟩:=b1x I.hok e;refine wpAny_notIn_of (a6F ry) hd dd.mapOf ?_;rw[<- (rel.val k).isSome_eq,<- l];exact h _ (I.tok _)
 ·subst ey;cases (show u=bX b from ry);obtain⟨z,hd,xs,rel,dd⟩:=b1v I.hok e;refine wpAny_notIn_heap (tupleKind_room_in1 hu) (a5N I.hok eb) hd dd ?_;have q:=(rel.val k).isSome_eq;rw[jQ] at q;rw[<- q,<- l];exact h _ (I.tok _)
theorem a4g {h':Heap}{t':Nat}{ob:HO}(I:Inv X pins σ H s)(mu:Mut (H a))(hs:cj a s.heap h')(he:∃ q,h'.get? a=some q)(new:L8 X.prog X.w (upd H a ob) h' a ob) :
  Inv X pins σ (upd H a ob) {s with heap:=h',toks:=t'} :=
 I.write (x:=a) (e:=a) mu (.inl rfl) (λb q hb z=>(hs.2 b hb).trans z) he new
theorem a9j {P:Program}{w:World}{H':Hp}{h':Heap}{kvs:List (Key×V)}{vs:List (Key×Value)}(z:kvs.length<=sizeLine)(hd:(a == sysModules)=false)(rel:KV kvs vs)(dd:h'.DictOf (L1 P w) a vs) :
  L8 P w H' h' a (.dK kvs):=⟨z,hd,vs,rel,dd⟩
theorem a7C {H':Hp}{Q:Unit->Shared->Prop}(hu:A.units+1<cLine)(I:Inv X pins σ H s)(g:a4p H a y v H')(ry:J2 y u)(rv:J2 v r)(h:∀ s',Inv X pins σ H' s'->Q () s') :
  wpAny (model X.prog X.w) A (setItem (.ref a) u r) Q E s:=by
 rcases g with ⟨kvs,k,e,ey,l,eH⟩ | ⟨kvs,k,b,e,ey,eb,l,eH⟩
 ·subst ey eH;obtain⟨z,hd,vs,rel,dd⟩:=a9i I.hok e;have hz:vs.length<=sizeLine:=by rw[<- rel.length];exact z
  have hl:(S2 kvs k v).length<=sizeLine:=by have:=Q2 kvs k v;omega
  refine wpAny_setItem_pairs (hsz:=hz) (a6F ry) dd λh' dd' hs=>h _ ?_
  have he:∃ q,h'.get? a=some q:=let ⟨q,_,_,hq,_⟩:=dd';⟨q,hq⟩;exact a4g I (by rw[e];exact dR) hs he (a9j hl hd (rel.put k rv) dd')
 ·subst ey eH;cases (show u=bX b from ry);obtain⟨z,hd,xs,rel,dd⟩:=b4h I.hok e;have hz:xs.length<=sizeLine:=by rw[<- gU rel];exact z
  have hl:(S2 kvs k v).length<=sizeLine:=by have:=Q2 kvs k v;omega
  refine wpAny_setItem_heap (hsz:=hz) (tupleKind_room_in1 hu) (a5N I.hok eb) dd λh' dd' hs=>h _ ?_
  obtain⟨q,es,ep,hq,h2,h3,h4,_,h5⟩:=dd';refine a4g I (by rw[e];exact dR) hs ⟨q,hq⟩ ⟨hl,hd,_,(rel.put k eb rv).keeps λc ys ec=>?_,q,es,ep,hq,h2,h3,h4,h5⟩;rw[B3 (b3W ec e (λz=>nomatch z))];exact ec
end
def b4B (ty td:TE):TE:=fun σ H Q=>ty σ H λy H1=>td σ H1 λx H2=>∃ a o,x=.ref a/\a2H H2 a y o/\Q (.bl o.isSome) H2
def a6f (ty td:TE):TE:=fun σ H Q=>ty σ H λy H1=>td σ H1 λx H2=>∃ a o,x=.ref a/\a2H H2 a y o/\Q (.bl (!o.isSome)) H2
def b1j (td ty tv:TE):TS:=λD σ H=>tv σ H λv H1=>td σ H1 λx H2=>ty σ H2 λy H3=>∃ a H4,x=.ref a/\a4p H3 a y v H4/\D.nx σ H4
section
variable {X:Cx}{o i e value:Expr}{pos pos' tpos:Pos}{td ty tv:TE}
theorem a1b (hu:X.A.units+1<cLine)(hi:PE X i ty)(ho:PE X o td):PC X .NotIn i o (a6f ty td):=by
 intro pins s σ H Q I h;refine thn (hi pins s σ H _ I h) λiv s1 ⟨y,H1,I1,ry,q1⟩=>thn (ho pins s1 σ H1 _ I1 q1) λu s2 ⟨x,H2,I2,rx,a,ov,ex,g,q2⟩=>?_
 subst ex;obtain rfl:u=bX a:=rx;exact b0O hu I2 g ry λs3 I3=>⟨.bl (!ov.isSome),H2,I3,rfl,q2⟩
theorem a6p (hu:X.A.units+1<cLine)(ho:PE X o td)(hi:PE X i ty)(hv:PE X value tv)(hs:swapsWith value (some (.Subscript o i pos')) pos.line X.env=pure false) :
  PS X (.Assign [.Subscript o i pos'] value pos) (b1j td ty tv):=by
 intro pins s σ H D I h;refine wpAny_Assign_Subscript (thn (hv pins s σ H _ I h) λr s1 ⟨v,H1,I1,rv,q1⟩=>thn (ho pins s1 σ H1 _ I1 q1) λu s2 ⟨x,H2,I2,rx,q2⟩=>thn (hi pins s2 σ H2 _ I2 q2) λiv s3 ⟨y,H3,I3,ry,a,H4,ex,g,q3⟩=>?_) hs;subst ex;obtain rfl:u=bX a:=rx;exact a7C hu I3 g ry rv λs4 I4=>⟨σ,H4,I4,q3⟩
end
theorem a5o {P:Program}{w:World}{H:Hp}(h:Heap)(hb:sysModules<h.objs.size):L8 P w H (h.push {cls:=.type "dict",data:=.dict #[]}) h.objs.size (.dK []) :=
 ⟨bo _,beq_eq_false_iff_ne.mpr (dZ (aU hb)),[],.nil,Heap.DictOf.new h⟩
def a8c:TE:=λ_ H Q=>∀ p,H p=none->Q (.ref p) (upd H p (.dK []))
def b1M:TE:=λ_ H Q=>∀ p,H p=none->Q (.ref p) (upd H p (.dT []))
section
variable {X:Cx}{pos:Pos}
theorem a8p:PE X (.Dict [] [] pos) a8c:=λpins s σ H Q I h =>
 wpAny_Dict_empty ⟨.ref s.heap.objs.size,_,I.laid (a:=s.heap.objs.size) (o:=.dK []) (t':=s.toks) (λ_ _ q=>am _ q) (aC _) (a5o s.heap I.big),rfl,h _ (I.hok.fresh (aC _))⟩
end
def a3I:List (TE×TE)->St->Hp->(List (V×V)->Hp->Prop)->Prop
 | [],_,H,Q=>Q [] H
 | (tk,tv)::r,σ,H,Q=>tk σ H λx H1=>tv σ H1 λy H2=>a3I r σ H2 λps H3=>Q ((x,y)::ps) H3
abbrev VV:List (V×V)->List (Value×Value)->Prop:=Paired λp q=>J2 p.1 q.1/\J2 p.2 q.2
def PPs (X:Cx)(pos:Pos)(keys:List (Option Expr))(values:List Expr)(trs:List (TE×TE)):Prop :=
 ∀(pins:List (Addr×Obj)) (s:Shared) (σ:St) (H:Hp) (Q:List (V×V)->Hp->Prop),Inv X pins σ H s->a3I trs σ H Q ->
  wpAny (model X.prog X.w) X.A (evalPairs (pairTrees keys values X.env pos)) (λvs s'=>∃ ps H',Inv X pins σ H' s'/\VV ps vs/\Q ps H') X.xe s
theorem a9T {X:Cx}{pos:Pos}:PPs X pos [] [] []:=λpins s σ H Q I h=>pairTrees_nil_walk ⟨[],H,I,.nil,h⟩
theorem a8l {X:Cx}{pos:Pos}{k v:Expr}{ks:List (Option Expr)}{vs:List Expr}{tk tv:TE}{trs:List (TE×TE)}(hk:PE X k tk)(hv:PE X v tv)(hr:PPs X pos ks vs trs) :
  PPs X pos (some k::ks) (v::vs) ((tk,tv)::trs):=λpins s σ H Q I h =>
 pairTrees_cons_walk (thn (hk pins s σ H _ I h) λu s1 ⟨x,H1,I1,rx,q1⟩=>thn (hv pins s1 σ H1 _ I1 q1) λw2 s2 ⟨y,H2,I2,ry,q2⟩ =>
  thn (hr pins s2 σ H2 _ I2 q2) λws s3 ⟨ps,H3,I3,rel,q3⟩=>⟨(x,y)::ps,H3,I3,.cons ⟨rx,ry⟩ rel,q3⟩)
def a1f (kvs more:List (Key×V)):List (Key×V):=more.foldl (λacc kv=>S2 acc kv.1 kv.2) kvs
theorem KV.merge:∀ {more:List (Key×V)} {rs:List (Key×Value)} {kvs:List (Key×V)} {vs:List (Key×Value)},KV more rs->KV kvs vs->KV (a1f kvs more) (merged vs rs):=by
 intro more rs kvs vs r;unfold KV at r;induction r generalizing kvs vs with
 | nil=>intro q;exact q
 | @cons p q ps qs h t ih =>
  intro r0;have e:KV (S2 kvs p.1 p.2) (stored vs q.1 q.2):=by
   have:=r0.put p.1 h.2;rw[<- h.1];exact this
  exact ih e
theorem a0f:∀(more kvs:List (Key×V)),(a1f kvs more).length<=kvs.length+more.length
 | [],kvs=>by show kvs.length<=kvs.length+0;omega
 | p::r,kvs=>by
  have h1:=a0f r (S2 kvs p.1 p.2);have h2:=Q2 kvs p.1 p.2;show (a1f (S2 kvs p.1 p.2) r).length<=_;rw[aD];omega
theorem a2r {P:Program}{w:World}:∀ {kvs:List (Key×V)} {ws:List (Value×Value)},VV (kvs.map λkv=>(kV kv.1,kv.2)) ws->∃ rs,Carries (L1 P w) ws rs/\KV kvs rs
 | [],_,r=>by rw[cu] at r;cases r;exact⟨[],dR,.nil⟩
 | p::kvs,_,r=>by
  rw[aH] at r;cases r with
  | @cons a b as bs h t =>
   obtain⟨rs,c,q⟩:=a2r (P:=P) (w:=w) t;obtain⟨b1,b2⟩:=b;exact⟨(p.1,b2)::rs,⟨a6F h.1,rfl,c⟩,.cons ⟨rfl,h.2⟩ q⟩
def b1g (trs:List (TE×TE)):TE:=fun σ H Q=>∀ p,H p=none->a3I trs σ (upd H p (.dK [])) λps H2=>H2 p=some (.dK [])/\∃ kvs:List (Key×V),ps=kvs.map (λkv=>(kV kv.1,kv.2))/\kvs.length<=15/\Q (.ref p) (upd H2 p (.dK (a1f [] kvs)))
theorem a9W {X:Cx}{pos:Pos}{keys:List (Option Expr)}{values:List Expr}{trs:List (TE×TE)}(h:PPs X pos keys values trs)(hall:keys.all (·.isSome)=true)(hl:keys.length=values.length)(h0:keys≠[])
  (h15:keys.length<=15):PE X (.Dict keys values pos) (b1g trs):=by
 intro pins s σ H Q I q;have hn:=I.hok.fresh (aC s.heap.objs.size);have I1:=I.laid (a:=s.heap.objs.size) (o:=.dK []) (h':=s.heap.push {cls:=.type "dict",data:=.dict #[]}) (t':=s.toks) (λ_ _ q=>am _ q) (aC _) (a5o s.heap I.big);refine wpAny_Dict_walk (knd:=L1 X.prog X.w) hall hl h0 h15 (thn (h pins _ σ _ _ I1 (q _ hn)) λws s2 ⟨ps,H2,I2,rel,e,kvs,ep,lk,q2⟩=>?_);subst ep;obtain⟨rs,c,rk⟩:=a2r (P:=X.prog) (w:=X.w) rel;obtain⟨z,hd,vs0,r0,dd⟩:=a9i I2.hok e;cases r0;refine⟨rs,c,dd,λh' dd' hs=>⟨.ref s.heap.objs.size,_,?_,rfl,q2⟩⟩;have hz:(a1f [] kvs).length<=sizeLine:=by
  have h1:=a0f kvs [];rw[cX] at h1;rw[sizeLine_eq];omega
 have he:∃ q,h'.get? s.heap.objs.size=some q:=let ⟨q,_,_,hq,_⟩:=dd';⟨q,hq⟩;exact a4g I2 (by rw[e];exact dR) hs he (a9j hz hd (rk.merge .nil) dd')
structure M1 (X:Cx)(o:Expr)(m:Str)(apos:Pos)(e:Expr)(cpos:Pos):Prop where
 base:attributeBase o m X.env (eval o X.env)=eval o X.env
 few:((backTo cpos (starEach [e] X.env)).all (λx=>!x.1) && (backToKw cpos (keywordEach [] X.env)).all (λx=>x.1.isSome)
  && decide (([e]:List Expr).length+([]:List Keyword).length+(if ([]:List Keyword).isEmpty then 0 else 1)<30))=true
 line:(apos.endLine == cpos.line)=true
 trees:backTo cpos (starEach [e] X.env)=[(false,eval e X.env)]
structure M2 (X:Cx)(o:Expr)(m:Str)(apos:Pos)(e f:Expr)(cpos:Pos):Prop where
 base:attributeBase o m X.env (eval o X.env)=eval o X.env
 few:((backTo cpos (starEach [e,f] X.env)).all (λx=>!x.1) && (backToKw cpos (keywordEach [] X.env)).all (λx=>x.1.isSome)
  && decide (([e,f]:List Expr).length+([]:List Keyword).length+(if ([]:List Keyword).isEmpty then 0 else 1)<30))=true
 line:(apos.endLine == cpos.line)=true
 trees:backTo cpos (starEach [e,f] X.env)=[(false,eval e X.env),(false,eval f X.env)]
end L2
end
section
namespace Ts
open PySem PyProof.Rows
set_option autoImplicit false
def galP:Bool->Keyed->Array Keyed->Nat->Nat->Nat->StateT SortSt Sem (Option Nat):=sortPriv% PySem.Builtin.gallop
def mLo:Array Keyed->Array Keyed->StateT SortSt Sem (Array Keyed):=sortPriv% PySem.Builtin.mergeLo
def mHi:Array Keyed->Array Keyed->StateT SortSt Sem (Array Keyed):=sortPriv% PySem.Builtin.mergeHi
def setGal (g:Nat):StateT SortSt Sem Unit:=modify λs=>fM (kindOf s) (arrOf s) (pendingOf s) g (failedOf s)
theorem galP_eq (lf:Bool)(ky:Keyed)(ar:Array Keyed)(bs nn hn:Nat):galP lf ky ar bs nn hn=(do
 let bey (i:Nat):StateT SortSt Sem (Option Bool):=do
  let xx <- elem' ar (bs+i)
  if lf then lt' xx ky else return (<- lt' ky xx).map (!·)
 let mut la:=0
 let mut of:=1
 let mut l0:=0
 let mut h0:=0
 let some rg <- bey hn | return none
 if rg then
  let mx:=nn-hn
  for _ in [0:nn] do
   if of>=mx then break
   let some mo <- bey (hn+of) | return none
   if !mo then break
   la:=of
   of:=2*of+1
  l0:=hn+la+1
  h0:=hn+min of mx
 else
  let mx:=hn+1
  for _ in [0:nn] do
   if of>=mx then break
   let some fo <- bey (hn-of) | return none
   if fo then break
   la:=of
   of:=2*of+1
  l0:=hn+1-min of mx
  h0:=hn-la
 for _ in [0:nn] do
  if l0>=h0 then break
  let mm:=l0+(h0-l0) / 2
  let some mo <- bey mm | return none
  if mo then l0:=mm+1 else h0:=mm
 return some h0):=rfl
theorem mLo_eq (a b:Array Keyed):mLo a b=(do
 rule "list.sort.merge-lo"
 let tot:=a.size+b.size
 let dn (o:Array Keyed) (i j:Nat):=o++a.extract i a.size++b.extract j b.size
 let lst (o:Array Keyed) (i j:Nat):=o++b.extract j b.size++a.extract i a.size
 let mut o:Array Keyed:=#[<- elem' b 0]
 let mut i:=0
 let mut j:=1
 if j == b.size then return dn o i j
 if i+1 == a.size then return lst o i j
 let mut mg:=gallopOf (<- get)
 for _ in [0:tot] do
  let mut ac:=0
  let mut bc:=0
  for _ in [0:tot] do
   let some bw <- lt' (<- elem' b j) (<- elem' a i) | return dn o i j
   if bw then
    o:=o.push (<- elem' b j);j:=j+1;bc:=bc+1;ac:=0
    if j == b.size then return dn o i j
    if bc>=mg then break
   else
    o:=o.push (<- elem' a i);i:=i+1;ac:=ac+1;bc:=0
    if i+1 == a.size then return lst o i j
    if ac>=mg then break
  rule "list.sort.gallop"
  mg:=mg+1
  for _ in [0:tot] do
   if mg>1 then mg:=mg-1
   setGal mg
   let some k <- galP false (<- elem' b j) a i (a.size-i) 0 | return dn o i j
   ac:=k
   if k>0 then
    o:=o++a.extract i (i+k);i:=i+k
    if i+1 == a.size then return lst o i j
    if i == a.size then return dn o i j
   o:=o.push (<- elem' b j);j:=j+1
   if j == b.size then return dn o i j
   let some k <- galP true (<- elem' a i) b j (b.size-j) 0 | return dn o i j
   bc:=k
   if k>0 then
    o:=o++b.extract j (j+k);j:=j+k
    if j == b.size then return dn o i j
   o:=o.push (<- elem' a i);i:=i+1
   if i+1 == a.size then return lst o i j
   if ac<7 && bc<7 then break
  mg:=mg+1
  setGal mg
 unsupported "internal:list.sort.merge-bound"):=rfl
theorem mHi_eq (a b:Array Keyed):mHi a b=(do
 rule "list.sort.merge-hi"
 let tot:=a.size+b.size
 let dn (o:Array Keyed) (i j:Nat):=a.extract 0 i++b.extract 0 j++o.reverse
 let fst (o:Array Keyed) (i j:Nat):=b.extract 0 j++a.extract 0 i++o.reverse
 let mut i:=a.size-1
 let mut j:=b.size
 let mut o:Array Keyed:=#[<- elem' a i]
 if i == 0 then return dn o i j
 if j == 1 then return fst o i j
 let mut mg:=gallopOf (<- get)
 for _ in [0:tot] do
  let mut ac:=0
  let mut bc:=0
  for _ in [0:tot] do
   let some aw <- lt' (<- elem' b (j-1)) (<- elem' a (i-1)) | return dn o i j
   if aw then
    i:=i-1;o:=o.push (<- elem' a i);ac:=ac+1;bc:=0
    if i == 0 then return dn o i j
    if ac>=mg then break
   else
    j:=j-1;o:=o.push (<- elem' b j);bc:=bc+1;ac:=0
    if j == 1 then return fst o i j
    if bc>=mg then break
  rule "list.sort.gallop"
  mg:=mg+1
  for _ in [0:tot] do
   if mg>1 then mg:=mg-1
   setGal mg
   let some p <- galP false (<- elem' b (j-1)) a 0 i (i-1) | return dn o i j
   let k:=i-p
   ac:=k
   if k>0 then
    o:=o++(a.extract p i).reverse;i:=p
    if i == 0 then return dn o i j
   j:=j-1;o:=o.push (<- elem' b j)
   if j == 1 then return fst o i j
   let some p <- galP true (<- elem' a (i-1)) b 0 j (j-1) | return dn o i j
   let k:=j-p
   bc:=k
   if k>0 then
    o:=o++(b.extract p j).reverse;j:=p
    if j == 1 then return fst o i j
    if j == 0 then return dn o i j
   i:=i-1;o:=o.push (<- elem' a i)
   if i == 0 then return dn o i j
   if ac<7 && bc<7 then break
  mg:=mg+1
  setGal mg
 unsupported "internal:list.sort.merge-bound"):=rfl
theorem mAt_eq (i:Nat):mergeAt' i=(do
 let s <- get
 let (some (sa,na,pw),some (sb,nb,_)):=((pendingOf s)[i]?,(pendingOf s)[i+1]?) | unsupported "internal:list.sort.pending"
 set (fM (kindOf s) (arrOf s) (((pendingOf s).setIfInBounds i (sa,na+nb,pw)).eraseIdxIfInBounds (i+1)) (gallopOf s) (failedOf s))
 let some k <- galP false (<- elem' (arrOf s) sb) (arrOf s) sa na 0 | return false
 let (sa,na):=(sa+k,na-k)
 if na == 0 then return true
 let some nb <- galP true (<- elem' (arrOf s) (sa+na-1)) (arrOf s) sb nb (nb-1) | return false
 if nb == 0 then return true
 let xx:=(arrOf s).extract sa sb
 let yy:=(arrOf s).extract sb (sb+nb)
 let mm <- if na<=nb then mLo xx yy else mHi xx yy
 modify λs=>setArr s (mm.toList.zipIdx.foldl (λa (p,j)=>a.setIfInBounds (sa+j) p) (arrOf s))
 return (failedOf (<- get)).isNone):=rfl
end Ts
namespace Ts
open PySem PyProof.Rows
set_option autoImplicit false
def el (xs:Array Keyed)(i:Nat):Keyed:=(xs[i]?).getD (cJ,cJ)
theorem el_some {xs:Array Keyed}{i:Nat}(h:i<xs.size):xs[i]?=some (el xs i):=by
 unfold el;rw[getElem?_pos xs i h];rfl
theorem el_congr {xs ys:Array Keyed}{i j:Nat}(h:xs[i]?=ys[j]?):el xs i=el ys j:=by unfold el;rw[h]
theorem el_mem {xs:Array Keyed}{i:Nat}(h:i<xs.size):el xs i∈xs.toList:=by
 have e:el xs i=xs[i]:=by unfold el;rw[getElem?_pos xs i h];rfl
 rw[e];simp
section
variable {O:KeyOrd}{key:Keyed->O.α}
abbrev KA {O:KeyOrd}(key:Keyed->O.α)(xs:Array Keyed)(i:Nat):O.α:=key (el xs i)
theorem KA_congr {xs ys:Array Keyed}{i j:Nat}(h:xs[i]?=ys[j]?):KA key xs i=KA key ys j:=by unfold KA;rw[el_congr h]
def Seg {O:KeyOrd}(key:Keyed->O.α)(xs:Array Keyed)(lo hi:Nat):Prop:=∀ i j,lo<=i->i<=j->j<hi->O.kle (KA key xs i) (KA key xs j)
def SegD {O:KeyOrd}(key:Keyed->O.α)(xs:Array Keyed)(lo hi:Nat):Prop:=∀ i j,lo<=i->i<=j->j<hi->O.kle (KA key xs j) (KA key xs i)
theorem Seg.one (xs:Array Keyed)(lo:Nat):Seg key xs lo (lo+1):=λi j h1 h2 h3=>by
 have:i=j:=∅
 subst this;exact cM _
theorem Seg.sub {xs:Array Keyed}{lo hi lo' hi':Nat}(h:Seg key xs lo hi)(h1:lo<=lo')(h2:hi'<=hi):Seg key xs lo' hi':=λi j a b c=>h i j ∅ b ∅
theorem Seg.congr {xs ys:Array Keyed}{lo hi:Nat}(h:Seg key xs lo hi)(e:∀ i,lo<=i->i<hi->KA key ys i=KA key xs i):Seg key ys lo hi:=λi j a b c=>by
 rw[e i a ∅,e j ∅ c];exact h i j a b c
theorem KA_bubble {xs:Array Keyed}{src d:Nat}(hs:src<xs.size)(hd:d<=src)(k:Nat) :
  KA key (bubble xs src d) k=if k=src-d then KA key xs src else if src-d<k/\k<=src then KA key xs (k-1) else KA key xs k:=by
 have e:=getElem?_bubble hs d hd k;by_cases h1:k=src-d
 ·rw[if_pos h1] at e ⊢;exact KA_congr e
 ·rw[if_neg h1] at e ⊢;by_cases h2:src-d<k/\k<=src
  ·rw[if_pos h2] at e ⊢;exact KA_congr e
  ·rw[if_neg h2] at e ⊢;exact KA_congr e
theorem KA_mirror {xs:Array Keyed}{i j:Nat}(hj:j<=xs.size)(k:Nat) :
  KA key (mirror xs i j ((j-i) / 2)) k=if i<=k/\k<j then KA key xs (i+j-1-k) else KA key xs k:=by
 have e:=getElem?_mirror_all (i:=i) hj k;by_cases h1:i<=k/\k<j
 ·rw[if_pos h1] at e ⊢;exact KA_congr e
 ·rw[if_neg h1] at e ⊢;exact KA_congr e
theorem KA_mirror_equal {xs:Array Keyed}{i j:Nat}(hj:j<=xs.size)(heq:∀ k,i<=k->k<j->KA key xs k=KA key xs (j-1))(k:Nat) :
  KA key (mirror xs i j ((j-i) / 2)) k=KA key xs k:=by
 rw[KA_mirror hj];split
 ·rw[heq _ ∅ ∅,heq k ∅ ∅]
 ·rfl
end
structure SB (a₀:Array Keyed)(knd:SortKind)(st:SortSt):Prop where
 perm:(arrOf st).Perm a₀
 kind:kindOf st=knd
 failed:failedOf st=none
theorem SB.size {a₀:Array Keyed}{knd:SortKind}{st:SortSt}(h:SB a₀ knd st):(arrOf st).size=a₀.size:=h.perm.size_eq
theorem SB.setArr {a₀:Array Keyed}{knd:SortKind}{st:SortSt}(h:SB a₀ knd st){xs:Array Keyed}(hp:xs.Perm (arrOf st)):SB a₀ knd (setArr st xs):=⟨hp.trans h.perm,h.kind,h.failed⟩
theorem SB.mem {a₀:Array Keyed}{knd:SortKind}{st:SortSt}(h:SB a₀ knd st){i:Nat}(hi:i<a₀.size):el (arrOf st) i∈a₀.toList :=
 (iV.mp h.perm).mem_iff.mp (el_mem (by rw[h.size];exact hi))
def Cmp (M:Model)(A:Around)(E:Value->Shared->Prop)(s:Shared)(knd:SortKind)(O:KeyOrd)(key:Keyed->O.α)(a₀:Array Keyed):Prop :=
 ∀ p∈a₀.toList,∀ q∈a₀.toList,∀(st:SortSt) (Q:Option Bool->SortSt->Prop),kindOf st=knd->Q (some (O.blt (key p) (key q))) st->wpS M A E s (lt' p q) Q st
section
variable {M:Model}{A:Around}{E:Value->Shared->Prop}{s:Shared}{a₀:Array Keyed}{knd:SortKind}{O:KeyOrd}{key:Keyed->O.α}
theorem wpS_elem {xs:Array Keyed}{i:Nat}{Q:Keyed->SortSt->Prop}{st:SortSt}(h:i<xs.size)(q:Q (el xs i) st):wpS M A E s (elem' xs i) Q st:=by
 rw[elem'_eq,el_some h];exact aA q
theorem wpS_ltI {st:SortSt}{i j:Nat}{Q:Option Bool->SortSt->Prop}(C:Cmp M A E s knd O key a₀)(hB:SB a₀ knd st)(hi:i<a₀.size)(hj:j<a₀.size)
  (h:Q (some (O.blt (KA key (arrOf st) i) (KA key (arrOf st) j))) st):wpS M A E s (ltAt' i j) Q st:=by
 rw[ltAt'_eq];refine aB (gu ?_);refine aB (wpS_elem (by rw[hB.size];exact hi) ?_);refine aB (wpS_elem (by rw[hB.size];exact hj) ?_);exact C _ (hB.mem hi) _ (hB.mem hj) st Q hB.kind h
theorem wpS_rev {st:SortSt}{i j:Nat}{Q:Unit->SortSt->Prop}(h:Q () (setArr st (mirror (arrOf st) i j ((j-i) / 2)))):wpS M A E s (reverseSlice' i j) Q st:=by
 rw[reverseSlice'_eq];exact fv h
theorem wpS_rule {st:SortSt}{Q:Unit->SortSt->Prop}{x:String}(h:Q () st):wpS M A E s (liftM (rule x):StateT SortSt Sem Unit) Q st:=wpS_lift (iY ⟨rfl,h⟩)
def ascL (lo a nrem:Nat):StateT SortSt Sem AscSt :=
 forIn [a:nrem] ((none,a):AscSt) λ_ c=>do
  let x <- ltAt' (lo+c.snd) (lo+c.snd-1)
  match x with
  | some sm=>if sm=true then pure (fQ (none,c.snd)) else pure (b8 (none,c.snd+1))
  | _=>pure (fQ (some none,c.snd))
def t3L (lo n nrem:Nat):StateT SortSt Sem (Option Nat):=do
 reverseSlice' lo (lo+n)
 let c <- ascL lo n nrem
 match c.fst with
 | some r=>pure r
 | none=>pure (some c.snd)
def desL (lo n nrem:Nat):StateT SortSt Sem DescSt :=
 forIn [n:nrem] ((none,n,0):DescSt) λ_ c=>do
  let x <- ltAt' (lo+c.snd.fst) (lo+c.snd.fst-1)
  match x with
  | some sm =>
   if sm=true then
    if c.snd.snd>0 then do
     reverseSlice' (lo+c.snd.fst-(c.snd.snd+1)) (lo+c.snd.fst)
     pure (b8 (none,c.snd.fst+1,0))
    else pure (b8 (none,c.snd.fst+1,0))
   else do
    let y <- ltAt' (lo+c.snd.fst-1) (lo+c.snd.fst)
    match y with
    | some la =>
     if la=true then pure (fQ (none,c.snd.fst,c.snd.snd))
     else pure (b8 (none,c.snd.fst+1,c.snd.snd+1))
    | _=>pure (fQ (some none,c.snd.fst,c.snd.snd))
  | _=>pure (fQ (some none,c.snd.fst,c.snd.snd))
def desP (lo n nrem:Nat):StateT SortSt Sem (Option Nat):=do
 liftM (rule "list.sort.descending-run")
 let c <- desL lo (n+1) nrem
 match c.fst with
 | some r=>pure r
 | none =>
  if c.snd.snd>0 then do
   reverseSlice' (lo+c.snd.fst-(c.snd.snd+1)) (lo+c.snd.fst)
   t3L lo c.snd.fst nrem
  else t3L lo c.snd.fst nrem
theorem cR_eq (lo nrem:Nat):countRun' lo nrem=(do
  let c <- ascL lo 1 nrem
  match c.fst with
  | some r=>pure r
  | none =>
   if (c.snd == nrem)=true then pure (some c.snd)
   else if c.snd>1 then do
    let x <- ltAt' lo (lo+c.snd-1)
    match x with
    | some rs=>if rs=true then pure (some c.snd) else do
      reverseSlice' lo (lo+c.snd)
      desP lo c.snd nrem
    | _=>pure none
   else desP lo c.snd nrem):=by
 rw[countRun'_eq];unfold desP t3L desL ascL;refine bind_congr λc=>?_
 obtain⟨r,n⟩:=c;cases r with
 | some r=>rfl
 | none =>
  dsimp only;split
  ·rfl
  ·split
   ·refine bind_congr λx=>?_
    cases x with
    | none=>rfl
    | some rs =>
     dsimp only;split
     ·rfl
     ·refine bind_congr λu=>?_
      refine bind_congr λv=>?_
      refine bind_congr λd=>?_
      obtain⟨r2,n2,q2⟩:=d;cases r2 with
      | some r2=>rfl
      | none =>
       dsimp only;split
       ·refine bind_congr λe=>?_
        refine bind_congr λe=>?_
        refine bind_congr λd=>?_
        obtain⟨r3,n3⟩:=d;cases r3<;>rfl
       ·refine bind_congr λe=>?_
        refine bind_congr λd=>?_
        obtain⟨r3,n3⟩:=d;cases r3<;>rfl
   ·refine bind_congr λv=>?_
    refine bind_congr λd=>?_
    obtain⟨r2,n2,q2⟩:=d;cases r2 with
    | some r2=>rfl
    | none =>
     dsimp only;split
     ·refine bind_congr λe=>?_
      refine bind_congr λe=>?_
      refine bind_congr λd=>?_
      obtain⟨r3,n3⟩:=d;cases r3<;>rfl
     ·refine bind_congr λe=>?_
      refine bind_congr λd=>?_
      obtain⟨r3,n3⟩:=d;cases r3<;>rfl
structure From (lo:Nat)(st st':SortSt):Prop where
 low:∀ i,i<lo->(arrOf st')[i]?=(arrOf st)[i]?
 pend:pendingOf st'=pendingOf st
theorem From.refl (lo:Nat)(st:SortSt):From lo st st:=⟨λ_ _=>rfl,rfl⟩
theorem From.trans {lo:Nat}{a b c:SortSt}(h:From lo a b)(k:From lo b c):From lo a c:=⟨λi hi=>(k.low i hi).trans (h.low i hi),k.pend.trans h.pend⟩
theorem From.mirror {lo i j:Nat}{st:SortSt}(hi:lo<=i)(hj:j<=(arrOf st).size):From lo st (iP st (iQ (arrOf st) i j ((j-i) / 2))) :=
 ⟨λk hk=>by show (iQ (arrOf st) i j ((j-i) / 2))[k]?=_;rw[getElem?_mirror_all hj,if_neg ∅],rfl⟩
theorem From.bubble {lo src d:Nat}{st:SortSt}(hs:src<(arrOf st).size)(hd:d<=src)(hl:lo<=src-d):From lo st (iP st (iR (arrOf st) src d)) :=
 ⟨λk hk=>by show (iR (arrOf st) src d)[k]?=_;rw[getElem?_bubble hs d hd,if_neg ∅,if_neg ∅],rfl⟩
theorem wpS_ascL {st:SortSt}{lo a nrem:Nat}{Q:AscSt->SortSt->Prop}(C:Cmp M A E s knd O key a₀)(hn:lo+nrem<=a₀.size)(ha:1<=a)(han:a<=nrem)(hB:SB a₀ knd st)
  (hs:Seg key (arrOf st) lo (lo+a))
  (h:∀ n,a<=n->n<=nrem->Seg key (arrOf st) lo (lo+n)->(n=nrem\/O.klt (KA key (arrOf st) (lo+n)) (KA key (arrOf st) (lo+n-1)))->Q (none,n) st) :
  wpS M A E s (ascL lo a nrem) Q st:=by
 unfold ascL;refine cq (I:=λx c st'=>st'=st/\c=(none,x)/\Seg key (arrOf st) lo (lo+x)) ?step ?fin ⟨rfl,rfl,hs⟩
 case fin =>
  rintro c st' ⟨rfl,rfl,hs'⟩;rw[show max a nrem=nrem by omega] at hs' ⊢;exact h nrem han (aC _) hs' (.inl rfl)
 case step =>
  rintro x c st' hax hxn ⟨rfl,rfl,hs'⟩;dsimp only;refine aB (wpS_ltI C hB ∅ ∅ ?_);cases hless:O.blt (KA key (arrOf st') (lo+x)) (KA key (arrOf st') (lo+x-1))
  case true =>
   simp only[if_true];exact aA (h x hax ∅ hs' (.inr hless))
  case false =>
   simp only[aO,if_false];refine aA ⟨rfl,rfl,λi j hli hij hj=>?_⟩;by_cases hjx:j<lo+x
   ·exact hs' i j hli hij hjx
   ·have hj':j=lo+x:=∅
    subst hj';by_cases hi':i=lo+x
    ·subst hi';exact cM _
    ·exact bn (hs' i (lo+x-1) hli ∅ ∅) hless
theorem wpS_t3L {st:SortSt}{lo n nrem:Nat}{Q:Option Nat->SortSt->Prop}(C:Cmp M A E s knd O key a₀)(hn:lo+nrem<=a₀.size)(h1:1<=n)(hnn:n<=nrem)(hB:SB a₀ knd st)
  (hs:SegD key (arrOf st) lo (lo+n)) (h:∀ m st',SB a₀ knd st'->From lo st st'->1<=m->m<=nrem->Seg key (arrOf st') lo (lo+m)->Q (some m) st') :
  wpS M A E s (t3L lo n nrem) Q st:=by
 unfold t3L;have hsz:lo+n<=(arrOf st).size:=by rw[hB.size];omega
 refine aB (wpS_rev ?_);have hB':SB a₀ knd (setArr st (mirror (arrOf st) lo (lo+n) ((lo+n-lo) / 2))):=hB.setArr (jx _ _ _ _);have hF:=From.mirror (aC lo) hsz;refine aB (wpS_ascL C hn h1 hnn hB' ?_ λm hm1 hm2 hsm _=>aA (h m _ hB' hF ∅ hm2 hsm));intro i j hli hij hj;show O.kle (KA key (mirror (arrOf st) lo (lo+n) ((lo+n-lo) / 2)) i) (KA key (mirror (arrOf st) lo (lo+n) ((lo+n-lo) / 2)) j);rw[KA_mirror hsz,KA_mirror hsz,if_pos ∅,if_pos ∅];exact hs _ _ ∅ ∅ ∅
theorem wpS_desL {st:SortSt}{lo n nrem:Nat}{Q:DescSt->SortSt->Prop}(C:Cmp M A E s knd O key a₀)(hn:lo+nrem<=a₀.size)(h1:1<=n)(hnn:n<=nrem)(hB:SB a₀ knd st)
  (hs:SegD key (arrOf st) lo (lo+n))
  (h:∀ m neq st',SB a₀ knd st'->From lo st st'->n<=m->m<=nrem->SegD key (arrOf st') lo (lo+m)->neq+1<=m->(∀ i,lo+m-(neq+1)<=i->i<lo+m->KA key (arrOf st') i=KA key (arrOf st') (lo+m-1))->Q (none,m,neq) st') :
  wpS M A E s (desL lo n nrem) Q st:=by
 unfold desL
 refine cq (I:=λx c st'=>∃ neq,c=(none,x,neq)/\SB a₀ knd st'/\From lo st st'/\SegD key (arrOf st') lo (lo+x)/\neq+1<=x /\
   (∀ i,lo+x-(neq+1)<=i->i<lo+x->KA key (arrOf st') i=KA key (arrOf st') (lo+x-1))) ?step ?fin ⟨0,rfl,hB,From.refl _ _,hs,∅,λi h1 h2=>by congr 1;congr 1;omega⟩
 case fin =>
  rintro c st' ⟨neq,rfl,hB',hF,hs',hq,he⟩;rw[show max n nrem=nrem by omega] at hs' hq he ⊢;exact h nrem neq st' hB' hF hnn (aC _) hs' hq he
 case step =>
  rintro x c st' hax hxn ⟨neq,rfl,hB',hF,hs',hq,he⟩;dsimp only;have hsz:lo+x<=(arrOf st').size:=by rw[hB'.size];omega
  refine aB (wpS_ltI C hB' ∅ ∅ ?_);cases hless:O.blt (KA key (arrOf st') (lo+x)) (KA key (arrOf st') (lo+x-1))
  case true =>
   simp only[if_true];have step1:∀ xs:Array Keyed,(∀ k,KA key xs k=KA key (arrOf st') k)->SegD key xs lo (lo+(x+1)):=by
    intro xs hk i j hli hij hj;rw[hk,hk];by_cases hjx:j<lo+x
    ·exact hs' i j hli hij hjx
    ·have hj':j=lo+x:=∅
     subst hj';by_cases hi':i=lo+x
     ·subst hi';exact cM _
     ·exact bn (bb hless) (hs' i (lo+x-1) hli ∅ ∅)
   by_cases hneq:neq>0
   ·rw[if_pos hneq];refine aB (wpS_rev (aA ⟨0,rfl,hB'.setArr (jx _ _ _ _),hF.trans (From.mirror ∅ hsz),step1 _ (KA_mirror_equal hsz he),∅,λi h1 h2=>by congr 1;congr 1;omega⟩))
   ·rw[if_neg hneq];exact aA ⟨0,rfl,hB',hF,step1 _ (λ_=>rfl),∅,λi h1 h2=>by congr 1;congr 1;omega⟩
  case false =>
   simp only[aO,if_false];refine aB (wpS_ltI C hB' ∅ ∅ ?_);cases hlarger:O.blt (KA key (arrOf st') (lo+x-1)) (KA key (arrOf st') (lo+x))
   case true =>
    simp only[if_true];exact aA (h x neq st' hB' hF hax ∅ hs' hq he)
   case false =>
    simp only[aO,if_false];have heqx:KA key (arrOf st') (lo+x)=KA key (arrOf st') (lo+x-1):=jB hlarger hless;refine aA ⟨neq+1,rfl,hB',hF,λi j hli hij hj=>?_,∅,λi h1 h2=>?_⟩
    ·by_cases hjx:j<lo+x
     ·exact hs' i j hli hij hjx
     ·have hj':j=lo+x:=∅
      subst hj';by_cases hi':i=lo+x
      ·subst hi';exact cM _
      ·rw[heqx];exact hs' i (lo+x-1) hli ∅ ∅
    ·rw[show lo+(x+1)-1=lo+x by omega];by_cases hix:i=lo+x
     ·subst hix;rfl
     ·rw[heqx];exact he i ∅ ∅
theorem wpS_desP {st:SortSt}{lo n nrem:Nat}{Q:Option Nat->SortSt->Prop}(C:Cmp M A E s knd O key a₀)(hn:lo+nrem<=a₀.size)(hnn:n+1<=nrem)(hB:SB a₀ knd st)
  (hs:SegD key (arrOf st) lo (lo+(n+1))) (h:∀ m st',SB a₀ knd st'->From lo st st'->1<=m->m<=nrem->Seg key (arrOf st') lo (lo+m)->Q (some m) st') :
  wpS M A E s (desP lo n nrem) Q st:=by
 unfold desP;refine aB (wpS_rule ?_);refine aB (wpS_desL C hn ∅ hnn hB hs λm neq st' hB' hF hm1 hm2 hs' hq he=>?_);dsimp only;have hsz:lo+m<=(arrOf st').size:=by rw[hB'.size];omega
 by_cases hneq:neq>0
 ·rw[if_pos hneq];refine aB (wpS_rev (wpS_t3L C hn ∅ hm2 (hB'.setArr (jx _ _ _ _)) ?_ λm' st'' a b=>h m' st'' a (hF.trans ((From.mirror ∅ hsz).trans b))));intro i j hli hij hj;show O.kle (KA key (mirror (arrOf st') _ _ _) j) (KA key (mirror (arrOf st') _ _ _) i);rw[KA_mirror_equal hsz he,KA_mirror_equal hsz he];exact hs' i j hli hij hj
 ·rw[if_neg hneq];exact wpS_t3L C hn ∅ hm2 hB' hs' λm' st'' a b=>h m' st'' a (hF.trans b)
theorem wpS_cR {st:SortSt}{lo nrem:Nat}{Q:Option Nat->SortSt->Prop}(C:Cmp M A E s knd O key a₀)(hn:lo+nrem<=a₀.size)(h1:1<=nrem)(hB:SB a₀ knd st)
  (h:∀ m st',SB a₀ knd st'->From lo st st'->1<=m->m<=nrem->Seg key (arrOf st') lo (lo+m)->Q (some m) st') :
  wpS M A E s (countRun' lo nrem) Q st:=by
 rw[cR_eq];refine aB (wpS_ascL C hn (aC 1) h1 hB (Seg.one _ _) λn hn1 hn2 hsn hor=>?_);dsimp only;by_cases hnn:n=nrem
 ·rw[if_pos (~~~hnn)];exact aA (h n st hB (From.refl _ _) hn1 hn2 hsn)
 ·rw[if_neg (~~~hnn)];have hlt:O.klt (KA key (arrOf st) (lo+n)) (KA key (arrOf st) (lo+n-1)):=hor.resolve_left hnn;by_cases hgt:n>1
  ·rw[if_pos hgt];refine aB (wpS_ltI C hB ∅ ∅ ?_);cases hrose:O.blt (KA key (arrOf st) lo) (KA key (arrOf st) (lo+n-1))
   case true =>
    simp only[if_true];exact aA (h n st hB (From.refl _ _) hn1 hn2 hsn)
   case false =>
    simp only[aO,if_false];have hsz:lo+n<=(arrOf st).size:=by rw[hB.size];omega
    have hall:∀ k,lo<=k->k<lo+n->KA key (arrOf st) k=KA key (arrOf st) (lo+n-1):=by
     intro k hlk hk;have a1:=hsn lo k ∅ ∅ hk;have a2:=hsn k (lo+n-1) hlk ∅ ∅;exact jB a2 (bn hrose a1)
    refine aB (wpS_rev (wpS_desP C hn ∅ (hB.setArr (jx _ _ _ _)) ?_ λm' st'' a b=>h m' st'' a ((From.mirror (aC lo) hsz).trans b)));intro i j hli hij hj;show O.kle (KA key (mirror (arrOf st) _ _ _) j) (KA key (mirror (arrOf st) _ _ _) i);rw[KA_mirror_equal hsz hall,KA_mirror_equal hsz hall];by_cases hjn:j<lo+n
    ·rw[hall i ∅ ∅,hall j ∅ hjn];exact cM _
    ·have hj':j=lo+n:=∅
     subst hj';by_cases hi':i=lo+n
     ·subst hi';exact cM _
     ·rw[hall i ∅ ∅];exact bb hlt
  ·rw[if_neg hgt];have hn1':n=1:=∅
   subst hn1';refine wpS_desP C hn ∅ hB ?_ h;intro i j hli hij hj;by_cases hi':i=j
   ·subst hi';exact cM _
   ·have hi0:i=lo:=∅
    have hj1:j=lo+1:=∅
    subst hi0;subst hj1;exact bb hlt
theorem wpS_bS {st:SortSt}{lo n ok:Nat}{Q:Bool->SortSt->Prop}(C:Cmp M A E s knd O key a₀)(hn:lo+n<=a₀.size)(hok:ok<=n)(hB:SB a₀ knd st)(hs:Seg key (arrOf st) lo (lo+ok))
  (h:∀ st',SB a₀ knd st'->From lo st st'->Seg key (arrOf st') lo (lo+n)->Q true st'):wpS M A E s (binarySort' lo n ok) Q st:=by
 rw[binarySort'_eq]
 refine aB (dX (cq (I:=λk c st'=>c=(none,())/\SB a₀ knd st'/\From lo st st'/\Seg key (arrOf st') lo (lo+min k n))
  (Q:=λc st'=>c=(none,())/\SB a₀ knd st'/\From lo st st'/\Seg key (arrOf st') lo (lo+n)) ?step ?fin ?init) ?post)
 case post =>
  rintro c st' ⟨rfl,hB',hF,hs'⟩;exact aA (h st' hB' hF hs')
 case init =>
  refine⟨rfl,hB,From.refl _ _,λi j hli hij hj=>?_⟩;by_cases h1:ok=0
  ·have:i=j:=∅
   subst this;exact cM _
  ·exact hs i j hli hij ∅
 case fin =>
  rintro c st' ⟨hc,hB',hF,hs'⟩;refine⟨hc,hB',hF,?_⟩
  rwa [show min (max (max ok 1) n) n=n by omega] at hs'
 case step =>
  rintro k c st' hak hkn ⟨rfl,hB',hF,hs'⟩;rw[show min k n=k by omega] at hs';have hk:lo+k<a₀.size:=∅
  refine aB (dX (cq (I:=λx c st''=>st''=st'/\∃ l r,c=(none,l,r)/\l<=r/\r<=k/\r-l<=k-x /\
    (∀ i,i<l->O.kle (KA key (arrOf st') (lo+i)) (KA key (arrOf st') (lo+k)))/\(∀ i,r<=i->i<k->O.klt (KA key (arrOf st') (lo+k)) (KA key (arrOf st') (lo+i))))
   (Q:=λc st''=>st''=st'/\∃ l r,c=(none,l,r)/\l<=k /\
    (∀ i,i<l->O.kle (KA key (arrOf st') (lo+i)) (KA key (arrOf st') (lo+k)))/\(∀ i,l<=i->i<k->O.klt (KA key (arrOf st') (lo+k)) (KA key (arrOf st') (lo+i)))) ?istep ?ifin ?iinit) ?ipost)
  case iinit=>exact⟨rfl,0,k,rfl,∅,∅,∅,λi hi=>∅,λi h1 h2=>∅⟩
  case ifin =>
   rintro c st'' ⟨rfl,l,r,rfl,hlr,hrk,hm,hlo,hhi⟩;have:l=r:=∅
   subst this;exact⟨rfl,l,l,rfl,hrk,hlo,hhi⟩
  case istep =>
   rintro x c st'' _ hxk ⟨rfl,l,r,rfl,hlr,hrk,hm,hlo,hhi⟩;dsimp only;by_cases hge:l>=r
   ·rw[if_pos hge];have:l=r:=∅
    subst this;exact aA ⟨rfl,l,l,rfl,hrk,hlo,hhi⟩
   ·rw[if_neg hge];refine aB (wpS_ltI C hB' hk ∅ ?_);cases hless:O.blt (KA key (arrOf st'') (lo+k)) (KA key (arrOf st'') (lo+(l+r) / 2))
    case true =>
     simp only[if_true];refine aA ⟨rfl,l,(l+r) / 2,rfl,∅,∅,∅,hlo,λi h1 h2=>?_⟩;exact KeyOrd.klt_of_klt_of_kle hless (hs' _ _ ∅ ∅ ∅)
    case false =>
     simp only[aO,if_false];refine aA ⟨rfl,(l+r) / 2+1,r,rfl,∅,∅,∅,λi h1=>?_,hhi⟩;exact bn (hs' (lo+i) (lo+(l+r) / 2) ∅ ∅ ∅) (show O.kle _ _ from hless)
  case ipost =>
   rintro c st'' ⟨rfl,l,r,rfl,hlk,hlo,hhi⟩;show wpS _ _ _ _ (do moveDown' (lo+k) (lo+l);pure (b8 (none,()))) _ _;rw[moveDown'_eq];have hks:lo+k<(arrOf st'').size:=by rw[hB'.size];exact hk
   refine aB (fv (aA ⟨rfl,hB'.setArr (bubble_perm _ _ _),hF.trans (From.bubble hks ∅ ∅),?_⟩));rw[show min (k+1) n=k+1 by omega];intro i j hli hij hj;show O.kle (KA key (bubble (arrOf st'') (lo+k) (lo+k-(lo+l))) i) (KA key (bubble (arrOf st'') (lo+k) (lo+k-(lo+l))) j);rw[KA_bubble hks ∅,KA_bubble hks ∅,show lo+k-(lo+k-(lo+l))=lo+l by omega];have hlo':∀ i,lo<=i->i<lo+l->O.kle (KA key (arrOf st'') i) (KA key (arrOf st'') (lo+k)):=λi a b=>by
    have:=hlo (i-lo) ∅
    rwa [show lo+(i-lo)=i by omega] at this
   have hhi':∀ i,lo+l<=i->i<lo+k->O.klt (KA key (arrOf st'') (lo+k)) (KA key (arrOf st'') i):=λi a b=>by
    have:=hhi (i-lo) ∅ ∅
    rwa [show lo+(i-lo)=i by omega] at this
   repeat' split
   all_goals first
    | (exfalso;omega)
    | exact cM _
    | exact hlo' _ ∅ ∅
    | exact bb (hhi' _ ∅ ∅)
    | exact hs' _ _ ∅ ∅ ∅
end
end Ts
namespace Ts
open PySem PyProof.Rows
set_option autoImplicit false
section
variable {M:Model}{A:Around}{E:Value->Shared->Prop}{s:Shared}{a₀:Array Keyed}{knd:SortKind}{O:KeyOrd}{key:Keyed->O.α}
theorem wpS_galP {P:Nat->Bool}{lf:Bool}{ky:Keyed}{ar:Array Keyed}{bs nn hn:Nat}{st:SortSt}{Q:Option Nat->SortSt->Prop}(hk:kindOf st=knd)
  (hb:∀ i,i<nn->∀(st:SortSt) (Q:Option Bool->SortSt->Prop),kindOf st=knd->Q (some (P i)) st ->
   wpS M A E s (do let xx <- elem' ar (bs+i);if lf then lt' xx ky else return (<- lt' ky xx).map (!·)) Q st)
  (hP:∀ i j,i<=j->j<nn->P j=true->P i=true) (hh:hn<nn)
  (h:∀ k,k<=nn->(∀ i,i<k->P i=true)->(∀ i,k<=i->i<nn->P i=false)->Q (some k) st):wpS M A E s (galP lf ky ar bs nn hn) Q st:=by
 rw[galP_eq];have hN:∀ i j,i<=j->j<nn->P i=false->P j=false:=λi j a b c=>by
  cases e:P j with
  | false=>rfl
  | true=>rw[hP i j a b e] at c;exact absurd c (by simp)
 refine aB (hb hn hh _ _ hk ?_);cases e:P hn with
 | true =>
  simp only[if_true]
  refine aB (dX (cq (I:=λx c st'=>st'=st/\∃ la o,c=(none,la,o)/\la<o/\x+1<=o/\hn+la<nn/\P (hn+la)=true)
   (Q:=λc st'=>st'=st/\∃ la o,c=(none,la,o)/\la<o/\hn+la<nn/\P (hn+la)=true/\(nn-hn<=o\/(o<nn-hn/\P (hn+o)=false))) ?step ?fin ⟨rfl,0,1,rfl,∅,∅,hh,e⟩) ?post)
  case fin =>
   rintro c st' ⟨rfl,la,o,rfl,h1,h2,h3,h4⟩;exact⟨rfl,la,o,rfl,h1,h3,h4,.inl ∅⟩
  case step =>
   rintro x c st' _ hx ⟨rfl,la,o,rfl,h1,h2,h3,h4⟩;dsimp only;by_cases hge:o>=nn-hn
   ·rw[if_pos hge];exact aA ⟨rfl,la,o,rfl,h1,h3,h4,.inl hge⟩
   ·rw[if_neg hge];refine aB (hb (hn+o) ∅ _ _ hk ?_);cases e2:P (hn+o) with
    | true =>
     simp only[dm,aO,if_false];exact aA ⟨rfl,o,_,rfl,∅,∅,∅,e2⟩
    | false =>
     simp only[jg,if_true];exact aA ⟨rfl,la,o,rfl,h1,h3,h4,.inr ⟨∅,e2⟩⟩
  case post =>
   rintro c st' ⟨rfl,la,o,rfl,h1,h3,h4,h5⟩;dsimp only;have hT:∀ i,i<(hn+la+1)->P i=true:=λi hi=>hP i (hn+la) ∅ h3 h4
   have hF:∀ i,(hn+min o (nn-hn))<=i->i<nn->P i=false:=λi hi hin=>by
    rcases h5 with h5 | ⟨h5,h6⟩
    ·omega
    ·exact hN (hn+o) i ∅ hin h6
   refine aB (dX (cq (I:=λx c st''=>st''=st'/\∃ l r,c=(none,l,r)/\l<=r/\r<=nn/\r-l<=nn-x/\(∀ i,i<l->P i=true)/\(∀ i,r<=i->i<nn->P i=false))
    (Q:=λc st''=>st''=st'/\∃ l,c=(none,l,l)/\l<=nn/\(∀ i,i<l->P i=true)/\(∀ i,l<=i->i<nn->P i=false)) ?step2 ?fin2 ⟨rfl,(hn+la+1),(hn+min o (nn-hn)),rfl,∅,∅,∅,hT,hF⟩) ?post2)
   case fin2 =>
    rintro c st'' ⟨rfl,l,r,rfl,h1,h2,h3,h4,h5⟩;have:l=r:=∅
    subst this;exact⟨rfl,l,rfl,h2,h4,h5⟩
   case post2 =>
    rintro c st'' ⟨rfl,l,rfl,h2,h4,h5⟩;exact aA (h l h2 h4 h5)
   case step2 =>
    rintro x c st'' _ hx ⟨rfl,l,r,rfl,h1,h2,h3,h4,h5⟩;dsimp only;by_cases hge:l>=r
    ·rw[if_pos hge];have:l=r:=∅
     subst this;exact aA ⟨rfl,l,rfl,h2,h4,h5⟩
    ·rw[if_neg hge];refine aB (hb (l+(r-l) / 2) ∅ _ _ hk ?_);cases e:P (l+(r-l) / 2) with
     | true =>
      simp only[if_true];exact aA ⟨rfl,_,r,rfl,∅,h2,∅,λi hi=>hP i _ ∅ ∅ e,h5⟩
     | false =>
      simp only[aO,if_false];exact aA ⟨rfl,l,_,rfl,∅,∅,∅,h4,λi a b=>hN _ i a b e⟩
 | false =>
  simp only[aO,if_false]
  refine aB (dX (cq (I:=λx c st'=>st'=st/\∃ la o,c=(none,la,o)/\la<o/\x+1<=o/\la<=hn/\P (hn-la)=false)
   (Q:=λc st'=>st'=st/\∃ la o,c=(none,la,o)/\la<o/\la<=hn/\P (hn-la)=false/\(hn+1<=o\/(o<=hn/\P (hn-o)=true))) ?step ?fin ⟨rfl,0,1,rfl,∅,∅,∅,e⟩) ?post)
  case fin =>
   rintro c st' ⟨rfl,la,o,rfl,h1,h2,h3,h4⟩;exact⟨rfl,la,o,rfl,h1,h3,h4,.inl ∅⟩
  case step =>
   rintro x c st' _ hx ⟨rfl,la,o,rfl,h1,h2,h3,h4⟩;dsimp only;by_cases hge:o>=hn+1
   ·rw[if_pos hge];exact aA ⟨rfl,la,o,rfl,h1,h3,h4,.inl hge⟩
   ·rw[if_neg hge];refine aB (hb (hn-o) ∅ _ _ hk ?_);cases e2:P (hn-o) with
    | true =>
     simp only[if_true];exact aA ⟨rfl,la,o,rfl,h1,h3,h4,.inr ⟨∅,e2⟩⟩
    | false =>
     simp only[aO,if_false];exact aA ⟨rfl,o,_,rfl,∅,∅,∅,e2⟩
  case post =>
   rintro c st' ⟨rfl,la,o,rfl,h1,h3,h4,h5⟩;dsimp only;have hT:∀ i,i<(hn+1-min o (hn+1))->P i=true:=λi hi=>by
    rcases h5 with h5 | ⟨h5,h6⟩
    ·omega
    ·exact hP i (hn-o) ∅ ∅ h6
   have hF:∀ i,(hn-la)<=i->i<nn->P i=false:=λi hi hin=>hN (hn-la) i hi hin h4
   refine aB (dX (cq (I:=λx c st''=>st''=st'/\∃ l r,c=(none,l,r)/\l<=r/\r<=nn/\r-l<=nn-x/\(∀ i,i<l->P i=true)/\(∀ i,r<=i->i<nn->P i=false))
    (Q:=λc st''=>st''=st'/\∃ l,c=(none,l,l)/\l<=nn/\(∀ i,i<l->P i=true)/\(∀ i,l<=i->i<nn->P i=false)) ?step2 ?fin2 ⟨rfl,(hn+1-min o (hn+1)),(hn-la),rfl,∅,∅,∅,hT,hF⟩) ?post2)
   case fin2 =>
    rintro c st'' ⟨rfl,l,r,rfl,h1,h2,h3,h4,h5⟩;have:l=r:=∅
    subst this;exact⟨rfl,l,rfl,h2,h4,h5⟩
   case post2 =>
    rintro c st'' ⟨rfl,l,rfl,h2,h4,h5⟩;exact aA (h l h2 h4 h5)
   case step2 =>
    rintro x c st'' _ hx ⟨rfl,l,r,rfl,h1,h2,h3,h4,h5⟩;dsimp only;by_cases hge:l>=r
    ·rw[if_pos hge];have:l=r:=∅
     subst this;exact aA ⟨rfl,l,rfl,h2,h4,h5⟩
    ·rw[if_neg hge];refine aB (hb (l+(r-l) / 2) ∅ _ _ hk ?_);cases e:P (l+(r-l) / 2) with
     | true =>
      simp only[if_true];exact aA ⟨rfl,_,r,rfl,∅,h2,∅,λi hi=>hP i _ ∅ ∅ e,h5⟩
     | false =>
      simp only[aO,if_false];exact aA ⟨rfl,l,_,rfl,∅,∅,∅,h4,λi a b=>hN _ i a b e⟩
theorem wpS_galR {ky:Keyed}{ar:Array Keyed}{bs nn hn:Nat}{st:SortSt}{Q:Option Nat->SortSt->Prop}(C:Cmp M A E s knd O key a₀)(hk:kindOf st=knd)(hm:ky∈a₀.toList)
  (ha:∀ i,i<nn->el ar (bs+i)∈a₀.toList) (hsz:bs+nn<=ar.size) (hs:Seg key ar bs (bs+nn)) (hh:hn<nn)
  (h:∀ k,k<=nn->(∀ i,bs<=i->i<bs+k->O.kle (KA key ar i) (key ky))->(∀ i,bs+k<=i->i<bs+nn->O.klt (key ky) (KA key ar i))->Q (some k) st):wpS M A E s (galP false ky ar bs nn hn) Q st:=by
 refine wpS_galP (P:=λi=>!O.blt (key ky) (KA key ar (bs+i))) hk (λi hi st Q hk q=>?_) (λi j hij hj e=>?_) hh λk hk1 h1 h2=>?_
 ·refine aB (wpS_elem ∅ ?_);simp only[aO,if_false];exact aB (C _ hm _ (ha i hi) st _ hk (aA q))
 ·have e':O.kle (KA key ar (bs+j)) (key ky):=by simpa [KeyOrd.kle] using e
  have:=bn (hs (bs+i) (bs+j) ∅ ∅ ∅) e';simpa [KeyOrd.kle] using this
 ·refine h k hk1 (λi a b=>?_) λi a b=>?_
  ·have:=h1 (i-bs) ∅;rw[show bs+(i-bs)=i by omega] at this;simpa [KeyOrd.kle] using this
  ·have:=h2 (i-bs) ∅ ∅;rw[show bs+(i-bs)=i by omega] at this;simpa [KeyOrd.klt] using this
theorem wpS_galL {ky:Keyed}{ar:Array Keyed}{bs nn hn:Nat}{st:SortSt}{Q:Option Nat->SortSt->Prop}(C:Cmp M A E s knd O key a₀)(hk:kindOf st=knd)(hm:ky∈a₀.toList)
  (ha:∀ i,i<nn->el ar (bs+i)∈a₀.toList) (hsz:bs+nn<=ar.size) (hs:Seg key ar bs (bs+nn)) (hh:hn<nn)
  (h:∀ k,k<=nn->(∀ i,bs<=i->i<bs+k->O.klt (KA key ar i) (key ky))->(∀ i,bs+k<=i->i<bs+nn->O.kle (key ky) (KA key ar i))->Q (some k) st):wpS M A E s (galP true ky ar bs nn hn) Q st:=by
 refine wpS_galP (P:=λi=>O.blt (KA key ar (bs+i)) (key ky)) hk (λi hi st Q hk q=>?_) (λi j hij hj e=>?_) hh λk hk1 h1 h2=>?_
 ·refine aB (wpS_elem ∅ ?_);simp only[if_true];exact C _ (ha i hi) _ hm st _ hk q
 ·exact KeyOrd.klt_of_kle_of_klt (hs (bs+i) (bs+j) ∅ ∅ ∅) e
 ·refine h k hk1 (λi a b=>?_) λi a b=>?_
  ·have:=h1 (i-bs) ∅
   rwa [show bs+(i-bs)=i by omega] at this
  ·have:=h2 (i-bs) ∅ ∅
   rwa [show bs+(i-bs)=i by omega] at this
end
end Ts
namespace Ts
open PySem PyProof.Rows
set_option autoImplicit false
theorem toList_el {a:Array Keyed}{k:Nat}(h:k<a.size):a.toList[k]?=some (el a k):=by
 rw[aZ];exact el_some h
theorem take_succ_el {a:Array Keyed}{i:Nat}(h:i<a.size):a.toList.take (i+1)=a.toList.take i++[el a i]:=by
 rw[bD,toList_el h];rfl
theorem drop_el {a:Array Keyed}{i:Nat}(h:i<a.size):a.toList.drop i=el a i::a.toList.drop (i+1):=by
 have hl:i<a.toList.length:= ~~~h
 rw[gf hl];congr 1;have:=toList_el h;rw[au hl] at this;exact aP this
theorem mem_drop_el {a:Array Keyed}{i:Nat}{y:Keyed}(h:y∈a.toList.drop i):∃ k,i<=k/\k<a.size/\y=el a k:=by
 obtain⟨n,hn⟩:=ca.mp h;rw[gc] at hn;have hlt:i+n<a.size:=by
  have:=(aq.mp hn).1;simpa using this
 rw[toList_el hlt] at hn;exact⟨i+n,∅,hlt,(aP hn).symm⟩
theorem mem_take_el {a:Array Keyed}{i:Nat}{y:Keyed}(h:y∈a.toList.take i):∃ k,k<i/\k<a.size/\y=el a k:=by
 obtain⟨n,hn⟩:=ca.mp h;by_cases hi:n<i
 ·rw[gj hi] at hn;have hlt:n<a.size:=by
   have:=(aq.mp hn).1;simpa using this
  rw[toList_el hlt] at hn;exact⟨n,hi,hlt,(aP hn).symm⟩
 ·rw[List.getElem?_take_eq_none ∅] at hn;cases hn
theorem ext_end (a:Array Keyed)(i:Nat):(a.extract i a.size).toList=a.toList.drop i:=by
 rw[df,cF,cS (by simp)]
theorem ext_top (a:Array Keyed)(i:Nat):(a.extract 0 i).toList=a.toList.take i:=by
 rw[df,cF];simp
theorem ext_mid {a:Array Keyed}{i k:Nat}(h:i+k<a.size):(a.extract i (i+(k+1))).toList=(a.extract i (i+k)).toList++[el a (i+k)]:=by
 rw[df,cF,df,cF,show i+(k+1)-i=k+1 by omega,show i+k-i=k by omega,bD,gc,toList_el h];rfl
theorem ext_low {a:Array Keyed}{p i:Nat}(h:p<i)(hi:i<=a.size):(a.extract p i).toList=el a p::(a.extract (p+1) i).toList:=by
 rw[df,cF,df,cF,drop_el ∅,show i-p=(i-(p+1))+1 by omega,List.take_succ_cons]
section
variable {O:KeyOrd}{key:Keyed->O.α}
def le {O:KeyOrd}(key:Keyed->O.α)(p q:Keyed):Prop:=O.kle (key p) (key q)
theorem pw_of_seg {a:Array Keyed}(h:Seg key a 0 a.size):a.toList.Pairwise (le key):=by
 rw[dG];intro i j hi hj hij;have hi':i<a.size:= ~~~hi
 have hj':j<a.size:= ~~~hj
 have e1:=toList_el hi';rw[au hi] at e1;have e2:=toList_el hj';rw[au hj] at e2;rw[aP e1,aP e2];exact h i j ∅ ∅ hj'
theorem seg_of_pw {a:Array Keyed}(h:a.toList.Pairwise (le key)):Seg key a 0 a.size:=by
 rw[dG] at h;intro i j _ hij hj;by_cases e:i=j
 ·subst e;exact cM _
 ·have hi':i<a.size:=∅
  have hi:i<a.toList.length:= ~~~hi'
  have hj2:j<a.toList.length:= ~~~hj
  have e1:=toList_el hi';rw[au hi] at e1;have e2:=toList_el hj;rw[au hj2] at e2;have:=h i j hi hj2 ∅;rw[aP e1,aP e2] at this;exact this
def Res {O:KeyOrd}(key:Keyed->O.α)(a b m:Array Keyed):Prop:=m.toList.Perm (a.toList++b.toList)/\m.toList.Pairwise (le key)
structure GLo {O:KeyOrd}(key:Keyed->O.α)(a b o:Array Keyed)(i j:Nat):Prop where
 hi:i<=a.size
 hj:j<=b.size
 sz:o.size=i+j
 pm:o.toList.Perm (a.toList.take i++b.toList.take j)
 so:o.toList.Pairwise (le key)
 la:∀ x∈o.toList,∀ k,i<=k->k<a.size->le key x (el a k)
 lb:∀ x∈o.toList,∀ k,j<=k->k<b.size->le key x (el b k)
variable {a b o:Array Keyed}{i j:Nat}
theorem GLo.pushB (g:GLo key a b o i j)(sb:Seg key b 0 b.size)(h:j<b.size)(hl:∀ k,i<=k->k<a.size->le key (el b j) (el a k)):GLo key a b (o.push (el b j)) i (j+1) where
 hi:=g.hi
 hj:=h
 sz:=by rw[gF,g.sz];omega
 pm:=by
  rw[bC,take_succ_el h,<- br];exact g.pm.append_right _
 so:=by
  rw[bC,ck];refine⟨g.so,cw _ _,λx hx y hy=>?_⟩;rw[ag.mp hy];exact g.lb x hx j (aC _) h
 la:=λx hx k h1 h2=>by
  rw[bC,aj,ag] at hx;rcases hx with hx | rfl
  ·exact g.la x hx k h1 h2
  ·exact hl k h1 h2
 lb:=λx hx k h1 h2=>by
  rw[bC,aj,ag] at hx;rcases hx with hx | rfl
  ·exact g.lb x hx k ∅ h2
  ·exact sb j k ∅ ∅ h2
theorem GLo.pushA (g:GLo key a b o i j)(sa:Seg key a 0 a.size)(h:i<a.size)(hl:∀ k,j<=k->k<b.size->le key (el a i) (el b k)):GLo key a b (o.push (el a i)) (i+1) j where
 hi:=h
 hj:=g.hj
 sz:=by rw[gF,g.sz];omega
 pm:=by
  rw[bC,take_succ_el h];refine (g.pm.append_right _).trans ?_;rw[br,br];exact dE.append_left _
 so:=by
  rw[bC,ck];refine⟨g.so,cw _ _,λx hx y hy=>?_⟩;rw[ag.mp hy];exact g.la x hx i (aC _) h
 la:=λx hx k h1 h2=>by
  rw[bC,aj,ag] at hx;rcases hx with hx | rfl
  ·exact g.la x hx k ∅ h2
  ·exact sa i k ∅ ∅ h2
 lb:=λx hx k h1 h2=>by
  rw[bC,aj,ag] at hx;rcases hx with hx | rfl
  ·exact g.lb x hx k h1 h2
  ·exact hl k h1 h2
theorem app_nil (a o:Array Keyed)(i:Nat):o++a.extract i (i+0)=o:=by
 apply io;simp
theorem app_succ {a o:Array Keyed}{i k:Nat}(h:i+k<a.size):o++a.extract i (i+(k+1))=(o++a.extract i (i+k)).push (el a (i+k)):=by
 apply io;rw[bV,ext_mid h,bC,bV,br]
theorem GLo.appA (g:GLo key a b o i j)(sa:Seg key a 0 a.size):∀ k,i+k<=a.size->(∀ m,i<=m->m<i+k->∀ n,j<=n->n<b.size->le key (el a m) (el b n))->GLo key a b (o++a.extract i (i+k)) (i+k) j
 | 0,_,_=>by rw[app_nil];exact g
 | k+1,h,hl=>by
  rw[app_succ ∅];exact (GLo.appA g sa k ∅ λm h1 h2=>hl m h1 ∅).pushA sa ∅ λn h1 h2=>hl (i+k) ∅ ∅ n h1 h2
theorem GLo.appB (g:GLo key a b o i j)(sb:Seg key b 0 b.size):∀ k,j+k<=b.size->(∀ m,j<=m->m<j+k->∀ n,i<=n->n<a.size->le key (el b m) (el a n))->GLo key a b (o++b.extract j (j+k)) i (j+k)
 | 0,_,_=>by rw[app_nil];exact g
 | k+1,h,hl=>by
  rw[app_succ ∅];exact (GLo.appB g sb k ∅ λm h1 h2=>hl m h1 ∅).pushB sb ∅ λn h1 h2=>hl (j+k) ∅ ∅ n h1 h2
theorem pw_drop {a:Array Keyed}(h:Seg key a 0 a.size)(i:Nat):(a.toList.drop i).Pairwise (le key):=(pw_of_seg h).sublist (j9 _ _)
theorem pw_take {a:Array Keyed}(h:Seg key a 0 a.size)(i:Nat):(a.toList.take i).Pairwise (le key):=(pw_of_seg h).sublist (iw _ _)
theorem perm4 {α:Type}(A B C D:List α):(A++B++(C++D)).Perm (A++C++(B++D)):=by
 rw[br,br];refine ja A ?_;rw[<- br,<- br];exact dE.append_right D
theorem GLo.done (g:GLo key a b o i j)(sa:Seg key a 0 a.size)(sb:Seg key b 0 b.size)(h:i=a.size\/j=b.size):Res key a b (o++a.extract i a.size++b.extract j b.size):=by
 unfold Res;rw[bV,bV,ext_end,ext_end];refine⟨?_,?_⟩
 ·rw[br];refine (g.pm.append_right _).trans ((perm4 _ _ _ _).trans ?_);rw[bI,bI]
 ·rw[br,ck];refine⟨g.so,?_,λx hx y hy=>?_⟩
  ·rcases h with h | h
   ·rw[h,dS (by simp)];exact pw_drop sb j
   ·rw[h,dS (l:=b.toList) (by simp),bp];exact pw_drop sa i
  ·rcases aj.mp hy with hy | hy
   ·obtain⟨k,h1,h2,rfl⟩:=mem_drop_el hy;exact g.la x hx k h1 h2
   ·obtain⟨k,h1,h2,rfl⟩:=mem_drop_el hy;exact g.lb x hx k h1 h2
theorem GLo.last (g:GLo key a b o i j)(sb:Seg key b 0 b.size)(h:i+1=a.size)(hl:∀ k,j<=k->k<b.size->le key (el b k) (el a i)):Res key a b (o++b.extract j b.size++a.extract i a.size):=by
 unfold Res;rw[bV,bV,ext_end,ext_end];have ed:a.toList.drop i=[el a i]:=by rw[drop_el ∅,dS (by simp;omega)]
 refine⟨?_,?_⟩
 ·rw[br];refine (g.pm.append_right _).trans ((dE.append_left _).trans ((perm4 _ _ _ _).trans ?_));rw[bI,bI]
 ·rw[br,ck,ed];refine⟨g.so,?_,λx hx y hy=>?_⟩
  ·rw[ck];refine⟨pw_drop sb j,cw _ _,λx hx y hy=>?_⟩;obtain⟨k,h1,h2,rfl⟩:=mem_drop_el hx;rw[ag.mp hy];exact hl k h1 h2
  ·rcases aj.mp hy with hy | hy
   ·obtain⟨k,h1,h2,rfl⟩:=mem_drop_el hy;exact g.lb x hx k h1 h2
   ·rw[ag.mp hy];exact g.la x hx i (aC _) ∅
structure GHi {O:KeyOrd}(key:Keyed->O.α)(a b o:Array Keyed)(i j:Nat):Prop where
 hi:i<=a.size
 hj:j<=b.size
 sz:o.size+i+j=a.size+b.size
 pm:o.toList.Perm (a.toList.drop i++b.toList.drop j)
 so:o.toList.Pairwise λp q=>le key q p
 la:∀ x∈o.toList,∀ k,k<i->le key (el a k) x
 lb:∀ x∈o.toList,∀ k,k<j->le key (el b k) x
theorem GHi.pushA (g:GHi key a b o (i+1) j)(sa:Seg key a 0 a.size)(hl:∀ k,k<j->le key (el b k) (el a i)):GHi key a b (o.push (el a i)) i j where
 hi:=by have:=g.hi;omega
 hj:=g.hj
 sz:=by rw[gF];have:=g.sz;omega
 pm:=by
  rw[bC,drop_el (show i<a.size by have:=g.hi;omega)];refine (dE).trans ?_;exact List.Perm.cons _ g.pm
 so:=by
  rw[bC,ck];refine⟨g.so,cw _ _,λx hx y hy=>?_⟩;rw[ag.mp hy];exact g.la x hx i ∅
 la:=λx hx k h1=>by
  rw[bC,aj,ag] at hx;rcases hx with hx | rfl
  ·exact g.la x hx k ∅
  ·exact sa k i ∅ ∅ (by have:=g.hi;omega)
 lb:=λx hx k h1=>by
  rw[bC,aj,ag] at hx;rcases hx with hx | rfl
  ·exact g.lb x hx k h1
  ·exact hl k h1
theorem GHi.pushB (g:GHi key a b o i (j+1))(sb:Seg key b 0 b.size)(hl:∀ k,k<i->le key (el a k) (el b j)):GHi key a b (o.push (el b j)) i j where
 hi:=g.hi
 hj:=by have:=g.hj;omega
 sz:=by rw[gF];have:=g.sz;omega
 pm:=by
  rw[bC,drop_el (show j<b.size by have:=g.hj;omega)];refine (g.pm.append_right _).trans ?_;rw[br];exact ja _ dE
 so:=by
  rw[bC,ck];refine⟨g.so,cw _ _,λx hx y hy=>?_⟩;rw[ag.mp hy];exact g.lb x hx j ∅
 la:=λx hx k h1=>by
  rw[bC,aj,ag] at hx;rcases hx with hx | rfl
  ·exact g.la x hx k h1
  ·exact hl k h1
 lb:=λx hx k h1=>by
  rw[bC,aj,ag] at hx;rcases hx with hx | rfl
  ·exact g.lb x hx k ∅
  ·exact sb k j ∅ ∅ (by have:=g.hj;omega)
theorem rev_nil (a o:Array Keyed)(p:Nat):o++(a.extract p p).reverse=o:=by
 apply io;simp
theorem rev_succ {a o:Array Keyed}{p i:Nat}(h:p<i)(hi:i<=a.size):o++(a.extract p i).reverse=(o++(a.extract (p+1) i).reverse).push (el a p):=by
 apply io;rw[bV,fL,ext_low h hi,bC,bV,fL,fA,br]
theorem GHi.appA (g:GHi key a b o i j)(sa:Seg key a 0 a.size):∀ d p,p+d=i->(∀ m,p<=m->m<i->∀ k,k<j->le key (el b k) (el a m))->GHi key a b (o++(a.extract p i).reverse) p j
 | 0,p,h,_=>by
  have:p=i:=∅
  subst this;rw[rev_nil];exact g
 | d+1,p,h,hl=>by
  rw[rev_succ ∅ g.hi];exact (GHi.appA g sa d (p+1) ∅ λm h1 h2=>hl m ∅ h2).pushA sa λk hk=>hl p ∅ ∅ k hk
theorem GHi.appB (g:GHi key a b o i j)(sb:Seg key b 0 b.size):∀ d p,p+d=j->(∀ m,p<=m->m<j->∀ k,k<i->le key (el a k) (el b m))->GHi key a b (o++(b.extract p j).reverse) i p
 | 0,p,h,_=>by
  have:p=j:=∅
  subst this;rw[rev_nil];exact g
 | d+1,p,h,hl=>by
  rw[rev_succ ∅ g.hj];exact (GHi.appB g sb d (p+1) ∅ λm h1 h2=>hl m ∅ h2).pushB sb λk hk=>hl p ∅ ∅ k hk
theorem GHi.done (g:GHi key a b o i j)(sa:Seg key a 0 a.size)(sb:Seg key b 0 b.size)(h:i=0\/j=0):Res key a b (a.extract 0 i++b.extract 0 j++o.reverse):=by
 unfold Res;rw[bV,bV,ext_top,ext_top,fL];refine⟨?_,?_⟩
 ·refine (((j6 _).trans g.pm).append_left _).trans ((perm4 _ _ _ _).trans ?_);rw[bI,bI]
 ·rw[ck];refine⟨?_,jD.mpr g.so,λx hx y hy=>?_⟩
  ·rcases h with h | h
   ·rw[h,eS,eG];exact pw_take sb j
   ·rw[h,eS,bp];exact pw_take sa i
  ·rw[List.mem_reverse] at hy;rcases aj.mp hx with hx | hx
   ·obtain⟨k,h1,h2,rfl⟩:=mem_take_el hx;exact g.la y hy k h1
   ·obtain⟨k,h1,h2,rfl⟩:=mem_take_el hx;exact g.lb y hy k h1
theorem GHi.first (g:GHi key a b o i j)(sa:Seg key a 0 a.size)(h:j=1)(hl:∀ k,k<i->le key (el b 0) (el a k)):Res key a b (b.extract 0 j++a.extract 0 i++o.reverse):=by
 subst h;unfold Res;rw[bV,bV,ext_top,ext_top,fL];refine⟨?_,?_⟩
 ·refine (((j6 _).trans g.pm).append_left _).trans ((dE.append_right _).trans ((perm4 _ _ _ _).trans ?_));rw[bI,bI]
 ·rw[ck];refine⟨?_,jD.mpr g.so,λx hx y hy=>?_⟩
  ·rw[ck];refine⟨?_,pw_take sa i,λx hx y hy=>?_⟩
   ·rw[take_succ_el g.hj,eS];exact cw _ _
   ·obtain⟨k,h1,h2,rfl⟩:=mem_take_el hx;obtain⟨k',h1',h2',rfl⟩:=mem_take_el hy;have:k=0:=∅
    subst this;exact hl k' h1'
  ·rw[List.mem_reverse] at hy;rcases aj.mp hx with hx | hx
   ·obtain⟨k,h1,h2,rfl⟩:=mem_take_el hx;exact g.lb y hy k h1
   ·obtain⟨k,h1,h2,rfl⟩:=mem_take_el hx;exact g.la y hy k h1
end
end Ts
namespace Ts
open PySem PyProof.Rows
set_option autoImplicit false
def Sg (st st':SortSt):Prop:=∃ g,st'=fM (kindOf st) (arrOf st) (pendingOf st) g (failedOf st)
theorem Sg.refl (st:SortSt):Sg st st:=⟨gallopOf st,rfl⟩
theorem Sg.kind {st st':SortSt}(h:Sg st st'):kindOf st'=kindOf st:=by obtain⟨g,rfl⟩:=h;rfl
theorem Sg.set {st st':SortSt}(h:Sg st st')(g:Nat):Sg st (fM (kindOf st') (arrOf st') (pendingOf st') g (failedOf st')):=by obtain⟨g',rfl⟩:=h;exact⟨g,rfl⟩
section
variable {M:Model}{A:Around}{E:Value->Shared->Prop}{s:Shared}{a₀:Array Keyed}{knd:SortKind}{O:KeyOrd}{key:Keyed->O.α}
theorem wpS_setGal {g:Nat}{st:SortSt}{Q:Unit->SortSt->Prop}(h:Q () (fM (kindOf st) (arrOf st) (pendingOf st) g (failedOf st))):wpS M A E s (setGal g) Q st:=fv h
theorem wpS_mLo {a b:Array Keyed}{st:SortSt}{Q:Array Keyed->SortSt->Prop}(C:Cmp M A E s knd O key a₀)(hk:kindOf st=knd)
  (ma:∀ k,k<a.size->el a k∈a₀.toList) (mb:∀ k,k<b.size->el b k∈a₀.toList) (sa:Seg key a 0 a.size) (sb:Seg key b 0 b.size) (ha:1<=a.size) (hb:1<=b.size)
  (h0:∀ k,k<a.size->le key (el b 0) (el a k)) (hl:∀ k,k<b.size->le key (el b k) (el a (a.size-1)))
  (h:∀ m st',Res key a b m->Sg st st'->Q m st'):wpS M A E s (mLo a b) Q st:=by
 rw[mLo_eq];refine aB (wpS_rule ?_);refine aB (wpS_elem hb ?_);dsimp only;have G0:GLo key a b #[el b 0] 0 1 :=
  ⟨∅,hb,rfl,by rw[take_succ_el hb];simp,cw _ _,λx hx k _ h2=>by rw[ag.mp hx];exact h0 k h2,λx hx k h1 h2=>by rw[ag.mp hx];exact sb 0 k ∅ ∅ h2⟩
 by_cases c1:1=b.size
 ·rw[if_pos (~~~c1)];exact aA (h _ _ (G0.done sa sb (.inr c1)) (Sg.refl _))
 rw[if_neg (~~~c1)];by_cases c2:0+1=a.size
 ·rw[if_pos (~~~c2)];exact aA (h _ _ (G0.last sb c2 λk _ h2=>by rw[show (0:Nat)=a.size-1 by omega];exact hl k h2) (Sg.refl _))
 rw[if_neg (~~~c2)];refine aB (gu ?_)
 refine aB (dX (cq (I:=λx c st'=>Sg st st'/\∃ o i j mg,c=(none,o,i,j,mg)/\GLo key a b o i j/\i+1<a.size/\j<b.size/\x<o.size)
  (Q:=λc st'=>Sg st st'/\∃ m,c.fst=some m/\Res key a b m) ?step ?fin ⟨Sg.refl _,_,_,_,_,rfl,G0,∅,∅,by simp⟩) ?post)
 case fin =>
  rintro c st' ⟨_,o,i,j,mg,rfl,G,h1,h2,h3⟩;have:=G.sz;omega
 case post =>
  rintro⟨r,c⟩ st' ⟨hg,m,e,hr⟩;cases e;exact aA (h m st' hr hg)
 case step =>
  rintro x c st1 _ hx ⟨hg,o,i,j,mg,rfl,G,h1,h2,h3⟩;dsimp only
  refine aB (dX (cq (I:=λy c st'=>st'=st1/\∃ o i j ac bc,c=(none,o,i,j,ac,bc)/\GLo key a b o i j/\i+1<a.size/\j<b.size/\x<o.size/\(0<y->x+1<o.size))
   (Q:=λc st'=>st'=st1/\((∃ m,c.fst=some m/\Res key a b m)\/∃ o i j ac bc,c=(none,o,i,j,ac,bc)/\GLo key a b o i j/\i+1<a.size/\j<b.size/\x+1<o.size)) ?s1 ?f1 ⟨rfl,_,_,_,_,_,rfl,G,h1,h2,h3,∅⟩) ?p1)
  case f1 =>
   rintro c st' ⟨rfl,o,i,j,ac,bc,rfl,G,h1,h2,h3,h4⟩;exact⟨rfl,.inr ⟨o,i,j,ac,bc,rfl,G,h1,h2,h4 ∅⟩⟩
  case s1 =>
   rintro y c st' _ hy ⟨rfl,o,i,j,ac,bc,rfl,G,h1,h2,h3,h4⟩;dsimp only;refine aB (wpS_elem ∅ ?_);refine aB (wpS_elem ∅ ?_);refine aB (C _ (mb _ ∅) _ (ma _ ∅) _ _ (hg.kind.trans hk) ?_);cases hw:O.blt (key (el b j)) (key (el a i)) with
   | true =>
    simp only[if_true];refine aB (wpS_elem ∅ ?_);have G1:=G.pushB sb h2 λk a1 a2=>bn (bb hw) (sa i k ∅ a1 a2)
    have hz:=G.sz;have hz1:=G1.sz;by_cases e1:j+1=b.size
    ·rw[if_pos (~~~e1)];exact aA ⟨rfl,.inl ⟨_,rfl,G1.done sa sb (.inr e1)⟩⟩
    ·rw[if_neg (~~~e1)];split
     ·exact aA ⟨rfl,.inr ⟨_,_,_,_,_,rfl,G1,∅,∅,∅⟩⟩
     ·exact aA ⟨rfl,_,_,_,_,_,rfl,G1,∅,∅,∅,λ_=>∅⟩
   | false =>
    simp only[aO,if_false];refine aB (wpS_elem ∅ ?_);have hw':O.kle (key (el a i)) (key (el b j)):=hw;have G1:=G.pushA sa ∅ λk a1 a2=>bn hw' (sb j k ∅ a1 a2)
    have hz:=G.sz;have hz1:=G1.sz;by_cases e1:i+1+1=a.size
    ·rw[if_pos (~~~e1)];exact aA ⟨rfl,.inl ⟨_,rfl,G1.last sb e1 λk a1 a2=>by rw[show i+1=a.size-1 by omega];exact hl k a2⟩⟩
    ·rw[if_neg (~~~e1)];split
     ·exact aA ⟨rfl,.inr ⟨_,_,_,_,_,rfl,G1,∅,∅,∅⟩⟩
     ·exact aA ⟨rfl,_,_,_,_,_,rfl,G1,∅,∅,∅,λ_=>∅⟩
  case p1 =>
   rintro⟨r,c⟩ st' ⟨rfl,⟨m,e,hr⟩ | ⟨o,i,j,ac,bc,e,G,h1,h2,h3⟩⟩
   ·cases e;exact aA ⟨hg,m,rfl,hr⟩
   ·cases e;dsimp only;refine aB (wpS_rule ?_)
    refine aB (dX (cq (I:=λy c st'=>Sg st st'/\∃ o i j mg ac bc,c=(none,o,i,j,mg,ac,bc)/\GLo key a b o i j/\i+1<a.size/\j<b.size/\x+1<o.size)
     (Q:=λc st'=>Sg st st'/\((∃ m,c.fst=some m/\Res key a b m)\/∃ o i j mg ac bc,c=(none,o,i,j,mg,ac,bc)/\GLo key a b o i j/\i+1<a.size/\j<b.size/\x+1<o.size)) ?s2 ?f2 ⟨hg,_,_,_,_,_,_,rfl,G,h1,h2,h3⟩) ?p2)
    case f2 =>
     rintro c st' ⟨hg,o,i,j,mg,ac,bc,rfl,G,h1,h2,h3⟩;exact⟨hg,.inr ⟨o,i,j,mg,ac,bc,rfl,G,h1,h2,h3⟩⟩
    case p2 =>
     rintro⟨r,c⟩ st' ⟨hg,⟨m,e,hr⟩ | ⟨o,i,j,mg,ac,bc,e,G,h1,h2,h3⟩⟩
     ·cases e;exact aA ⟨hg,m,rfl,hr⟩
     ·cases e;dsimp only;refine aB (wpS_setGal ?_);exact aA ⟨hg.set _,o,i,j,_,rfl,G,h1,h2,h3⟩
    case s2 =>
     rintro y c st' _ hy ⟨hg,o,i,j,mg,ac,bc,rfl,G,h1,h2,h3⟩;dsimp only;have hz0:=G.sz;by_cases hmg:mg>1
     ·rw[if_pos hmg];refine aB (wpS_setGal ?_);refine aB (wpS_elem ∅ ?_);refine aB (wpS_galR C (by exact hg.kind.trans hk) (mb _ ∅) (λm hm=>ma _ ∅) ∅ (sa.sub ∅ ∅) ∅ λk hkk hle hgt0=>?_);dsimp only;have hgt:∀ m,i+k<=m->m<a.size->O.klt (KA key b j) (KA key a m):=λm h1 h2=>hgt0 m h1 ∅
      by_cases hk0:k>0
      ·rw[if_pos hk0];have G1:=G.appA sa k ∅ λm h1 h2 n h3 h4=>bn (hle m h1 h2) (sb _ n ∅ h3 h4)
       by_cases e1:i+k+1=a.size
       ·rw[if_pos (~~~e1)];exact aA ⟨hg.set _,.inl ⟨_,rfl,G1.last sb e1 λm h1 h2=>by rw[show i+k=a.size-1 by omega];exact hl m h2⟩⟩
       ·rw[if_neg (~~~e1)];by_cases e2:i+k=a.size
        ·rw[if_pos (~~~e2)];exact aA ⟨hg.set _,.inl ⟨_,rfl,G1.done sa sb (.inl e2)⟩⟩
        ·rw[if_neg (~~~e2)];refine aB (wpS_elem ∅ ?_);have G2:=G1.pushB sb ∅ λm h1 h2=>bb (hgt m h1 h2)
         have hz1:=G1.sz;have hz2:=G2.sz;by_cases e3:j+1=b.size
         ·rw[if_pos (~~~e3)];exact aA ⟨hg.set _,.inl ⟨_,rfl,G2.done sa sb (.inr e3)⟩⟩
         ·rw[if_neg (~~~e3)];refine aB (wpS_elem ∅ ?_);refine aB (wpS_galL C (by exact hg.kind.trans hk) (ma _ ∅) (λm hm=>mb _ ∅) ∅ (sb.sub ∅ ∅) ∅ λk2 hk2 hlt hge0=>?_);dsimp only;have hge:∀ m,j+1+k2<=m->m<b.size->O.kle (KA key a (i+k)) (KA key b m):=λm h1 h2=>hge0 m h1 ∅
          by_cases hk20:k2>0
          ·rw[if_pos hk20];have G3:=G2.appB sb k2 ∅ λm h1 h2 n h3 h4=>bn (bb (hlt m h1 h2)) (sa _ n ∅ h3 h4)
           by_cases e5:j+1+k2=b.size
           ·rw[if_pos (~~~e5)];exact aA ⟨hg.set _,.inl ⟨_,rfl,G3.done sa sb (.inr e5)⟩⟩
           ·rw[if_neg (~~~e5)];refine aB (wpS_elem ∅ ?_);have G4:=G3.pushA sa ∅ λk h1 h2=>hge k h1 h2
            by_cases e4:(i+k)+1+1=a.size
            ·rw[if_pos (~~~e4)];exact aA ⟨hg.set _,.inl ⟨_,rfl,G4.last sb e4 λn h1 h2=>by rw[show (i+k)+1=a.size-1 by omega];exact hl n h2⟩⟩
            ·rw[if_neg (~~~e4)];have hz4:=G4.sz;have hz3:=G3.sz;split
             ·exact aA ⟨hg.set _,.inr ⟨_,_,_,_,_,_,rfl,G4,∅,∅,∅⟩⟩
             ·exact aA ⟨hg.set _,_,_,_,_,_,_,rfl,G4,∅,∅,∅⟩
          ·rw[if_neg hk20];have hk2z:k2=0:=∅
           subst hk2z;have G3:=G2;refine aB (wpS_elem ∅ ?_);have G4:=G3.pushA sa ∅ λk h1 h2=>hge k h1 h2
           by_cases e4:(i+k)+1+1=a.size
           ·rw[if_pos (~~~e4)];exact aA ⟨hg.set _,.inl ⟨_,rfl,G4.last sb e4 λn h1 h2=>by rw[show (i+k)+1=a.size-1 by omega];exact hl n h2⟩⟩
           ·rw[if_neg (~~~e4)];have hz4:=G4.sz;have hz3:=G3.sz;split
            ·exact aA ⟨hg.set _,.inr ⟨_,_,_,_,_,_,rfl,G4,∅,∅,∅⟩⟩
            ·exact aA ⟨hg.set _,_,_,_,_,_,_,rfl,G4,∅,∅,∅⟩
      ·rw[if_neg hk0];have hkz:k=0:=∅
       subst hkz;have G1:=G;refine aB (wpS_elem ∅ ?_);have G2:=G1.pushB sb ∅ λm h1 h2=>bb (hgt m h1 h2)
       have hz1:=G1.sz;have hz2:=G2.sz;by_cases e3:j+1=b.size
       ·rw[if_pos (~~~e3)];exact aA ⟨hg.set _,.inl ⟨_,rfl,G2.done sa sb (.inr e3)⟩⟩
       ·rw[if_neg (~~~e3)];refine aB (wpS_elem ∅ ?_);refine aB (wpS_galL C (by exact hg.kind.trans hk) (ma _ ∅) (λm hm=>mb _ ∅) ∅ (sb.sub ∅ ∅) ∅ λk2 hk2 hlt hge0=>?_);dsimp only;have hge:∀ m,j+1+k2<=m->m<b.size->O.kle (KA key a (i)) (KA key b m):=λm h1 h2=>hge0 m h1 ∅
        by_cases hk20:k2>0
        ·rw[if_pos hk20];have G3:=G2.appB sb k2 ∅ λm h1 h2 n h3 h4=>bn (bb (hlt m h1 h2)) (sa _ n ∅ h3 h4)
         by_cases e5:j+1+k2=b.size
         ·rw[if_pos (~~~e5)];exact aA ⟨hg.set _,.inl ⟨_,rfl,G3.done sa sb (.inr e5)⟩⟩
         ·rw[if_neg (~~~e5)];refine aB (wpS_elem ∅ ?_);have G4:=G3.pushA sa ∅ λk h1 h2=>hge k h1 h2
          by_cases e4:(i)+1+1=a.size
          ·rw[if_pos (~~~e4)];exact aA ⟨hg.set _,.inl ⟨_,rfl,G4.last sb e4 λn h1 h2=>by rw[show (i)+1=a.size-1 by omega];exact hl n h2⟩⟩
          ·rw[if_neg (~~~e4)];have hz4:=G4.sz;have hz3:=G3.sz;split
           ·exact aA ⟨hg.set _,.inr ⟨_,_,_,_,_,_,rfl,G4,∅,∅,∅⟩⟩
           ·exact aA ⟨hg.set _,_,_,_,_,_,_,rfl,G4,∅,∅,∅⟩
        ·rw[if_neg hk20];have hk2z:k2=0:=∅
         subst hk2z;have G3:=G2;refine aB (wpS_elem ∅ ?_);have G4:=G3.pushA sa ∅ λk h1 h2=>hge k h1 h2
         by_cases e4:(i)+1+1=a.size
         ·rw[if_pos (~~~e4)];exact aA ⟨hg.set _,.inl ⟨_,rfl,G4.last sb e4 λn h1 h2=>by rw[show (i)+1=a.size-1 by omega];exact hl n h2⟩⟩
         ·rw[if_neg (~~~e4)];have hz4:=G4.sz;have hz3:=G3.sz;split
          ·exact aA ⟨hg.set _,.inr ⟨_,_,_,_,_,_,rfl,G4,∅,∅,∅⟩⟩
          ·exact aA ⟨hg.set _,_,_,_,_,_,_,rfl,G4,∅,∅,∅⟩
     ·rw[if_neg hmg];refine aB (wpS_setGal ?_);refine aB (wpS_elem ∅ ?_);refine aB (wpS_galR C (by exact hg.kind.trans hk) (mb _ ∅) (λm hm=>ma _ ∅) ∅ (sa.sub ∅ ∅) ∅ λk hkk hle hgt0=>?_);dsimp only;have hgt:∀ m,i+k<=m->m<a.size->O.klt (KA key b j) (KA key a m):=λm h1 h2=>hgt0 m h1 ∅
      by_cases hk0:k>0
      ·rw[if_pos hk0];have G1:=G.appA sa k ∅ λm h1 h2 n h3 h4=>bn (hle m h1 h2) (sb _ n ∅ h3 h4)
       by_cases e1:i+k+1=a.size
       ·rw[if_pos (~~~e1)];exact aA ⟨hg.set _,.inl ⟨_,rfl,G1.last sb e1 λm h1 h2=>by rw[show i+k=a.size-1 by omega];exact hl m h2⟩⟩
       ·rw[if_neg (~~~e1)];by_cases e2:i+k=a.size
        ·rw[if_pos (~~~e2)];exact aA ⟨hg.set _,.inl ⟨_,rfl,G1.done sa sb (.inl e2)⟩⟩
        ·rw[if_neg (~~~e2)];refine aB (wpS_elem ∅ ?_);have G2:=G1.pushB sb ∅ λm h1 h2=>bb (hgt m h1 h2)
         have hz1:=G1.sz;have hz2:=G2.sz;by_cases e3:j+1=b.size
         ·rw[if_pos (~~~e3)];exact aA ⟨hg.set _,.inl ⟨_,rfl,G2.done sa sb (.inr e3)⟩⟩
         ·rw[if_neg (~~~e3)];refine aB (wpS_elem ∅ ?_);refine aB (wpS_galL C (by exact hg.kind.trans hk) (ma _ ∅) (λm hm=>mb _ ∅) ∅ (sb.sub ∅ ∅) ∅ λk2 hk2 hlt hge0=>?_);dsimp only;have hge:∀ m,j+1+k2<=m->m<b.size->O.kle (KA key a (i+k)) (KA key b m):=λm h1 h2=>hge0 m h1 ∅
          by_cases hk20:k2>0
          ·rw[if_pos hk20];have G3:=G2.appB sb k2 ∅ λm h1 h2 n h3 h4=>bn (bb (hlt m h1 h2)) (sa _ n ∅ h3 h4)
           by_cases e5:j+1+k2=b.size
           ·rw[if_pos (~~~e5)];exact aA ⟨hg.set _,.inl ⟨_,rfl,G3.done sa sb (.inr e5)⟩⟩
           ·rw[if_neg (~~~e5)];refine aB (wpS_elem ∅ ?_);have G4:=G3.pushA sa ∅ λk h1 h2=>hge k h1 h2
            by_cases e4:(i+k)+1+1=a.size
            ·rw[if_pos (~~~e4)];exact aA ⟨hg.set _,.inl ⟨_,rfl,G4.last sb e4 λn h1 h2=>by rw[show (i+k)+1=a.size-1 by omega];exact hl n h2⟩⟩
            ·rw[if_neg (~~~e4)];have hz4:=G4.sz;have hz3:=G3.sz;split
             ·exact aA ⟨hg.set _,.inr ⟨_,_,_,_,_,_,rfl,G4,∅,∅,∅⟩⟩
             ·exact aA ⟨hg.set _,_,_,_,_,_,_,rfl,G4,∅,∅,∅⟩
          ·rw[if_neg hk20];have hk2z:k2=0:=∅
           subst hk2z;have G3:=G2;refine aB (wpS_elem ∅ ?_);have G4:=G3.pushA sa ∅ λk h1 h2=>hge k h1 h2
           by_cases e4:(i+k)+1+1=a.size
           ·rw[if_pos (~~~e4)];exact aA ⟨hg.set _,.inl ⟨_,rfl,G4.last sb e4 λn h1 h2=>by rw[show (i+k)+1=a.size-1 by omega];exact hl n h2⟩⟩
           ·rw[if_neg (~~~e4)];have hz4:=G4.sz;have hz3:=G3.sz;split
            ·exact aA ⟨hg.set _,.inr ⟨_,_,_,_,_,_,rfl,G4,∅,∅,∅⟩⟩
            ·exact aA ⟨hg.set _,_,_,_,_,_,_,rfl,G4,∅,∅,∅⟩
      ·rw[if_neg hk0];have hkz:k=0:=∅
       subst hkz;have G1:=G;refine aB (wpS_elem ∅ ?_);have G2:=G1.pushB sb ∅ λm h1 h2=>bb (hgt m h1 h2)
       have hz1:=G1.sz;have hz2:=G2.sz;by_cases e3:j+1=b.size
       ·rw[if_pos (~~~e3)];exact aA ⟨hg.set _,.inl ⟨_,rfl,G2.done sa sb (.inr e3)⟩⟩
       ·rw[if_neg (~~~e3)];refine aB (wpS_elem ∅ ?_);refine aB (wpS_galL C (by exact hg.kind.trans hk) (ma _ ∅) (λm hm=>mb _ ∅) ∅ (sb.sub ∅ ∅) ∅ λk2 hk2 hlt hge0=>?_);dsimp only;have hge:∀ m,j+1+k2<=m->m<b.size->O.kle (KA key a (i)) (KA key b m):=λm h1 h2=>hge0 m h1 ∅
        by_cases hk20:k2>0
        ·rw[if_pos hk20];have G3:=G2.appB sb k2 ∅ λm h1 h2 n h3 h4=>bn (bb (hlt m h1 h2)) (sa _ n ∅ h3 h4)
         by_cases e5:j+1+k2=b.size
         ·rw[if_pos (~~~e5)];exact aA ⟨hg.set _,.inl ⟨_,rfl,G3.done sa sb (.inr e5)⟩⟩
         ·rw[if_neg (~~~e5)];refine aB (wpS_elem ∅ ?_);have G4:=G3.pushA sa ∅ λk h1 h2=>hge k h1 h2
          by_cases e4:(i)+1+1=a.size
          ·rw[if_pos (~~~e4)];exact aA ⟨hg.set _,.inl ⟨_,rfl,G4.last sb e4 λn h1 h2=>by rw[show (i)+1=a.size-1 by omega];exact hl n h2⟩⟩
          ·rw[if_neg (~~~e4)];have hz4:=G4.sz;have hz3:=G3.sz;split
           ·exact aA ⟨hg.set _,.inr ⟨_,_,_,_,_,_,rfl,G4,∅,∅,∅⟩⟩
           ·exact aA ⟨hg.set _,_,_,_,_,_,_,rfl,G4,∅,∅,∅⟩
        ·rw[if_neg hk20];have hk2z:k2=0:=∅
         subst hk2z;have G3:=G2;refine aB (wpS_elem ∅ ?_);have G4:=G3.pushA sa ∅ λk h1 h2=>hge k h1 h2
         by_cases e4:(i)+1+1=a.size
         ·rw[if_pos (~~~e4)];exact aA ⟨hg.set _,.inl ⟨_,rfl,G4.last sb e4 λn h1 h2=>by rw[show (i)+1=a.size-1 by omega];exact hl n h2⟩⟩
         ·rw[if_neg (~~~e4)];have hz4:=G4.sz;have hz3:=G3.sz;split
          ·exact aA ⟨hg.set _,.inr ⟨_,_,_,_,_,_,rfl,G4,∅,∅,∅⟩⟩
          ·exact aA ⟨hg.set _,_,_,_,_,_,_,rfl,G4,∅,∅,∅⟩
end
end Ts
namespace Ts
open PySem PyProof.Rows
set_option autoImplicit false
section
variable {M:Model}{A:Around}{E:Value->Shared->Prop}{s:Shared}{a₀:Array Keyed}{knd:SortKind}{O:KeyOrd}{key:Keyed->O.α}
theorem GHi.pushA' {a b o:Array Keyed}{i j:Nat}(g:GHi key a b o i j)(h:1<=i)(sa:Seg key a 0 a.size)(hl:∀ k,k<j->le key (el b k) (el a (i-1))):GHi key a b (o.push (el a (i-1))) (i-1) j:=by
 cases i with
 | zero=>omega
 | succ i=>exact GHi.pushA g sa hl
theorem GHi.pushB' {a b o:Array Keyed}{i j:Nat}(g:GHi key a b o i j)(h:1<=j)(sb:Seg key b 0 b.size)(hl:∀ k,k<i->le key (el a k) (el b (j-1))):GHi key a b (o.push (el b (j-1))) i (j-1):=by
 cases j with
 | zero=>omega
 | succ j=>exact GHi.pushB g sb hl
theorem wpS_mHi {a b:Array Keyed}{st:SortSt}{Q:Array Keyed->SortSt->Prop}(C:Cmp M A E s knd O key a₀)(hk:kindOf st=knd)
  (ma:∀ k,k<a.size->el a k∈a₀.toList) (mb:∀ k,k<b.size->el b k∈a₀.toList) (sa:Seg key a 0 a.size) (sb:Seg key b 0 b.size) (ha:1<=a.size) (hb:1<=b.size)
  (h0:∀ k,k<a.size->le key (el b 0) (el a k)) (hl:∀ k,k<b.size->le key (el b k) (el a (a.size-1)))
  (h:∀ m st',Res key a b m->Sg st st'->Q m st'):wpS M A E s (mHi a b) Q st:=by
 rw[mHi_eq];refine aB (wpS_rule ?_);refine aB (wpS_elem ∅ ?_);dsimp only;have G0:GHi key a b #[el a (a.size-1)] (a.size-1) b.size :=
  ⟨∅,∅,by show 1+(a.size-1)+b.size=_;omega,by
   rw[drop_el (show a.size-1<a.size by omega),dS (show a.toList.length<=a.size-1+1 by simp;omega),dS (l:=b.toList) (by simp)];simp,
   cw _ _,λx hx k h1=>by rw[ag.mp hx];exact sa k (a.size-1) ∅ ∅ ∅,λx hx k h1=>by rw[ag.mp hx];exact hl k h1⟩
 by_cases c1:a.size-1=0
 ·rw[if_pos (~~~c1)];exact aA (h _ _ (G0.done sa sb (.inl c1)) (Sg.refl _))
 rw[if_neg (~~~c1)];by_cases c2:b.size=1
 ·rw[if_pos (~~~c2)];exact aA (h _ _ (G0.first sa c2 λk hk=>h0 k ∅) (Sg.refl _))
 rw[if_neg (~~~c2)];refine aB (gu ?_)
 refine aB (dX (cq (I:=λx c st'=>Sg st st'/\∃ i j o mg,c=(none,i,j,o,mg)/\GHi key a b o i j/\1<=i/\2<=j/\x<o.size)
  (Q:=λc st'=>Sg st st'/\∃ m,c.fst=some m/\Res key a b m) ?step ?fin ⟨Sg.refl _,_,_,_,_,rfl,G0,∅,∅,by simp⟩) ?post)
 case fin =>
  rintro c st' ⟨_,i,j,o,mg,rfl,G,h1,h2,h3⟩;have:=G.sz;omega
 case post =>
  rintro⟨r,c⟩ st' ⟨hg,m,e,hr⟩;cases e;exact aA (h m st' hr hg)
 case step =>
  rintro x c st1 _ hx ⟨hg,i,j,o,mg,rfl,G,h1,h2,h3⟩;dsimp only
  refine aB (dX (cq (I:=λy c st'=>st'=st1/\∃ i j o ac bc,c=(none,i,j,o,ac,bc)/\GHi key a b o i j/\1<=i/\2<=j/\x<o.size/\(0<y->x+1<o.size))
   (Q:=λc st'=>st'=st1/\((∃ m,c.fst=some m/\Res key a b m)\/∃ i j o ac bc,c=(none,i,j,o,ac,bc)/\GHi key a b o i j/\1<=i/\2<=j/\x+1<o.size)) ?s1 ?f1 ⟨rfl,_,_,_,_,_,rfl,G,h1,h2,h3,∅⟩) ?p1)
  case f1 =>
   rintro c st' ⟨rfl,i,j,o,ac,bc,rfl,G,h1,h2,h3,h4⟩;exact⟨rfl,.inr ⟨i,j,o,ac,bc,rfl,G,h1,h2,h4 ∅⟩⟩
  case s1 =>
   rintro y c st' _ hy ⟨rfl,i,j,o,ac,bc,rfl,G,h1,h2,h3,h4⟩;dsimp only;refine aB (wpS_elem (by have:=G.hj;omega) ?_);refine aB (wpS_elem (by have:=G.hi;omega) ?_);refine aB (C _ (mb _ (by have:=G.hj;omega)) _ (ma _ (by have:=G.hi;omega)) _ _ (hg.kind.trans hk) ?_);cases hw:O.blt (key (el b (j-1))) (key (el a (i-1))) with
   | true =>
    simp only[if_true];refine aB (wpS_elem (by have:=G.hi;omega) ?_);have G1:=G.pushA' h1 sa λk a1=>bn (sb k (j-1) ∅ ∅ (by have:=G.hj;omega)) (bb hw)
    have hz:=G.sz;have hz1:=G1.sz;by_cases e1:i-1=0
    ·rw[if_pos (~~~e1)];exact aA ⟨rfl,.inl ⟨_,rfl,G1.done sa sb (.inl e1)⟩⟩
    ·rw[if_neg (~~~e1)];split
     ·exact aA ⟨rfl,.inr ⟨_,_,_,_,_,rfl,G1,∅,∅,∅⟩⟩
     ·exact aA ⟨rfl,_,_,_,_,_,rfl,G1,∅,∅,∅,λ_=>∅⟩
   | false =>
    simp only[aO,if_false];refine aB (wpS_elem (by have:=G.hj;omega) ?_);have hw':O.kle (key (el a (i-1))) (key (el b (j-1))):=hw;have G1:=G.pushB' ∅ sb λk a1=>bn (sa k (i-1) ∅ ∅ (by have:=G.hi;omega)) hw'
    have hz:=G.sz;have hz1:=G1.sz;by_cases e1:j-1=1
    ·rw[if_pos (~~~e1)];exact aA ⟨rfl,.inl ⟨_,rfl,G1.first sa e1 λk a1=>h0 k (by have:=G1.hi;omega)⟩⟩
    ·rw[if_neg (~~~e1)];split
     ·exact aA ⟨rfl,.inr ⟨_,_,_,_,_,rfl,G1,∅,∅,∅⟩⟩
     ·exact aA ⟨rfl,_,_,_,_,_,rfl,G1,∅,∅,∅,λ_=>∅⟩
  case p1 =>
   rintro⟨r,c⟩ st' ⟨rfl,⟨m,e,hr⟩ | ⟨i,j,o,ac,bc,e,G,h1,h2,h3⟩⟩
   ·cases e;exact aA ⟨hg,m,rfl,hr⟩
   ·cases e;dsimp only;refine aB (wpS_rule ?_)
    refine aB (dX (cq (I:=λy c st'=>Sg st st'/\∃ i j o mg ac bc,c=(none,i,j,o,mg,ac,bc)/\GHi key a b o i j/\1<=i/\2<=j/\x+1<o.size)
     (Q:=λc st'=>Sg st st'/\((∃ m,c.fst=some m/\Res key a b m)\/∃ i j o mg ac bc,c=(none,i,j,o,mg,ac,bc)/\GHi key a b o i j/\1<=i/\2<=j/\x+1<o.size)) ?s2 ?f2 ⟨hg,_,_,_,_,_,_,rfl,G,h1,h2,h3⟩) ?p2)
    case f2 =>
     rintro c st' ⟨hg,i,j,o,mg,ac,bc,rfl,G,h1,h2,h3⟩;exact⟨hg,.inr ⟨i,j,o,mg,ac,bc,rfl,G,h1,h2,h3⟩⟩
    case p2 =>
     rintro⟨r,c⟩ st' ⟨hg,⟨m,e,hr⟩ | ⟨i,j,o,mg,ac,bc,e,G,h1,h2,h3⟩⟩
     ·cases e;exact aA ⟨hg,m,rfl,hr⟩
     ·cases e;dsimp only;refine aB (wpS_setGal ?_);exact aA ⟨hg.set _,i,j,o,_,rfl,G,h1,h2,h3⟩
    case s2 =>
     rintro y c st' _ hy ⟨hg,i,j,o,mg,ac,bc,rfl,G,h1,h2,h3⟩;dsimp only;have hz0:=G.sz;by_cases hmg:mg>1
     ·rw[if_pos hmg];refine aB (wpS_setGal ?_);refine aB (wpS_elem (by have:=G.hj;omega) ?_);refine aB (wpS_galR C (by exact hg.kind.trans hk) (mb _ (by have:=G.hj;omega)) (λm hm=>by rw[du];exact ma _ (by have:=G.hi;omega)) (by have:=G.hi;omega) (sa.sub ∅ (by have:=G.hi;omega)) ∅ λp hp hle0 hgt0=>?_);dsimp only;have hle:∀ m,m<p->O.kle (KA key a m) (KA key b (j-1)):=λm h1=>hle0 m ∅ ∅
      have hgt:∀ m,p<=m->m<i->O.klt (KA key b (j-1)) (KA key a m):=λm h1 h2=>hgt0 m ∅ ∅
      by_cases hk0:i-p>0
      ·rw[if_pos hk0];have G1:=G.appA sa (i-p) p ∅ λm h1 h2 n h3=>bn (sb n (j-1) ∅ ∅ (by have:=G.hj;omega)) (bb (hgt m h1 h2))
       by_cases e1:p=0
       ·rw[if_pos (~~~e1)];exact aA ⟨hg.set _,.inl ⟨_,rfl,G1.done sa sb (.inl e1)⟩⟩
       ·rw[if_neg (~~~e1)];have hlo:∀ n,n<p->le key (el a n) (el b (j-1)):=hle;refine aB (wpS_elem (by have:=G1.hj;omega) ?_);have hz1:=G1.sz;have G2:=G1.pushB' ∅ sb hlo;have hz2:=G2.sz;by_cases e3:j-1=1
        ·rw[if_pos (~~~e3)];exact aA ⟨hg.set _,.inl ⟨_,rfl,G2.first sa e3 λm hm=>h0 m (by have:=G2.hi;omega)⟩⟩
        ·rw[if_neg (~~~e3)];refine aB (wpS_elem (by have:=G2.hi;omega) ?_);refine aB (wpS_galL C (by exact hg.kind.trans hk) (ma _ (by have:=G2.hi;omega)) (λm hm=>by rw[du];exact mb _ (by have:=G2.hj;omega)) (by have:=G2.hj;omega) (sb.sub ∅ (by have:=G2.hj;omega)) ∅ λp2 hp2 hlt0 hge0=>?_);dsimp only;have hlt:∀ m,m<p2->O.klt (KA key b m) (KA key a (p-1)):=λm h1=>hlt0 m ∅ ∅
         have hge:∀ m,p2<=m->m<j-1->O.kle (KA key a (p-1)) (KA key b m):=λm h1 h2=>hge0 m ∅ ∅
         by_cases hk20:j-1-p2>0
         ·rw[if_pos hk20];have G3:=G2.appB sb (j-1-p2) p2 ∅ λm h1 h2 n h3=>bn (sa n (p-1) ∅ ∅ (by have:=G2.hi;omega)) (hge m h1 h2)
          by_cases e5:p2=1
          ·rw[if_pos (~~~e5)];exact aA ⟨hg.set _,.inl ⟨_,rfl,G3.first sa e5 λm hm=>h0 m (by have:=G3.hi;omega)⟩⟩
          ·rw[if_neg (~~~e5)];by_cases e6:p2=0
           ·rw[if_pos (~~~e6)];exact aA ⟨hg.set _,.inl ⟨_,rfl,G3.done sa sb (.inr e6)⟩⟩
           ·rw[if_neg (~~~e6)];have hlow:∀ n,n<p2->le key (el b n) (el a (p-1)):=λn hn=>bb (hlt n hn)
            refine aB (wpS_elem (by have:=G3.hi;omega) ?_);have hz3:=G3.sz;have G4:=G3.pushA' ∅ sa hlow;have hz4:=G4.sz;by_cases e4:p-1=0
            ·rw[if_pos (~~~e4)];exact aA ⟨hg.set _,.inl ⟨_,rfl,G4.done sa sb (.inl e4)⟩⟩
            ·rw[if_neg (~~~e4)];split
             ·exact aA ⟨hg.set _,.inr ⟨_,_,_,_,_,_,rfl,G4,∅,∅,∅⟩⟩
             ·exact aA ⟨hg.set _,_,_,_,_,_,_,rfl,G4,∅,∅,∅⟩
         ·rw[if_neg hk20];have hp2z:p2=j-1:=∅
          have G3:=G2;have hlow:∀ n,n<j-1->le key (el b n) (el a (p-1)):=λn hn=>bb (hlt n ∅)
          refine aB (wpS_elem (by have:=G3.hi;omega) ?_);have hz3:=G3.sz;have G4:=G3.pushA' ∅ sa hlow;have hz4:=G4.sz;by_cases e4:p-1=0
          ·rw[if_pos (~~~e4)];exact aA ⟨hg.set _,.inl ⟨_,rfl,G4.done sa sb (.inl e4)⟩⟩
          ·rw[if_neg (~~~e4)];split
           ·exact aA ⟨hg.set _,.inr ⟨_,_,_,_,_,_,rfl,G4,∅,∅,∅⟩⟩
           ·exact aA ⟨hg.set _,_,_,_,_,_,_,rfl,G4,∅,∅,∅⟩
      ·rw[if_neg hk0];have hpz:p=i:=∅
       have G1:=G;have hlo:∀ n,n<i->le key (el a n) (el b (j-1)):=λn hn=>hle n ∅
       refine aB (wpS_elem (by have:=G1.hj;omega) ?_);have hz1:=G1.sz;have G2:=G1.pushB' ∅ sb hlo;have hz2:=G2.sz;by_cases e3:j-1=1
       ·rw[if_pos (~~~e3)];exact aA ⟨hg.set _,.inl ⟨_,rfl,G2.first sa e3 λm hm=>h0 m (by have:=G2.hi;omega)⟩⟩
       ·rw[if_neg (~~~e3)];refine aB (wpS_elem (by have:=G2.hi;omega) ?_);refine aB (wpS_galL C (by exact hg.kind.trans hk) (ma _ (by have:=G2.hi;omega)) (λm hm=>by rw[du];exact mb _ (by have:=G2.hj;omega)) (by have:=G2.hj;omega) (sb.sub ∅ (by have:=G2.hj;omega)) ∅ λp2 hp2 hlt0 hge0=>?_);dsimp only;have hlt:∀ m,m<p2->O.klt (KA key b m) (KA key a (i-1)):=λm h1=>hlt0 m ∅ ∅
        have hge:∀ m,p2<=m->m<j-1->O.kle (KA key a (i-1)) (KA key b m):=λm h1 h2=>hge0 m ∅ ∅
        by_cases hk20:j-1-p2>0
        ·rw[if_pos hk20];have G3:=G2.appB sb (j-1-p2) p2 ∅ λm h1 h2 n h3=>bn (sa n (i-1) ∅ ∅ (by have:=G2.hi;omega)) (hge m h1 h2)
         by_cases e5:p2=1
         ·rw[if_pos (~~~e5)];exact aA ⟨hg.set _,.inl ⟨_,rfl,G3.first sa e5 λm hm=>h0 m (by have:=G3.hi;omega)⟩⟩
         ·rw[if_neg (~~~e5)];by_cases e6:p2=0
          ·rw[if_pos (~~~e6)];exact aA ⟨hg.set _,.inl ⟨_,rfl,G3.done sa sb (.inr e6)⟩⟩
          ·rw[if_neg (~~~e6)];have hlow:∀ n,n<p2->le key (el b n) (el a (i-1)):=λn hn=>bb (hlt n hn)
           refine aB (wpS_elem (by have:=G3.hi;omega) ?_);have hz3:=G3.sz;have G4:=G3.pushA' ∅ sa hlow;have hz4:=G4.sz;by_cases e4:i-1=0
           ·rw[if_pos (~~~e4)];exact aA ⟨hg.set _,.inl ⟨_,rfl,G4.done sa sb (.inl e4)⟩⟩
           ·rw[if_neg (~~~e4)];split
            ·exact aA ⟨hg.set _,.inr ⟨_,_,_,_,_,_,rfl,G4,∅,∅,∅⟩⟩
            ·exact aA ⟨hg.set _,_,_,_,_,_,_,rfl,G4,∅,∅,∅⟩
        ·rw[if_neg hk20];have hp2z:p2=j-1:=∅
         have G3:=G2;have hlow:∀ n,n<j-1->le key (el b n) (el a (i-1)):=λn hn=>bb (hlt n ∅)
         refine aB (wpS_elem (by have:=G3.hi;omega) ?_);have hz3:=G3.sz;have G4:=G3.pushA' ∅ sa hlow;have hz4:=G4.sz;by_cases e4:i-1=0
         ·rw[if_pos (~~~e4)];exact aA ⟨hg.set _,.inl ⟨_,rfl,G4.done sa sb (.inl e4)⟩⟩
         ·rw[if_neg (~~~e4)];split
          ·exact aA ⟨hg.set _,.inr ⟨_,_,_,_,_,_,rfl,G4,∅,∅,∅⟩⟩
          ·exact aA ⟨hg.set _,_,_,_,_,_,_,rfl,G4,∅,∅,∅⟩
     ·rw[if_neg hmg];refine aB (wpS_setGal ?_);refine aB (wpS_elem (by have:=G.hj;omega) ?_);refine aB (wpS_galR C (by exact hg.kind.trans hk) (mb _ (by have:=G.hj;omega)) (λm hm=>by rw[du];exact ma _ (by have:=G.hi;omega)) (by have:=G.hi;omega) (sa.sub ∅ (by have:=G.hi;omega)) ∅ λp hp hle0 hgt0=>?_);dsimp only;have hle:∀ m,m<p->O.kle (KA key a m) (KA key b (j-1)):=λm h1=>hle0 m ∅ ∅
      have hgt:∀ m,p<=m->m<i->O.klt (KA key b (j-1)) (KA key a m):=λm h1 h2=>hgt0 m ∅ ∅
      by_cases hk0:i-p>0
      ·rw[if_pos hk0];have G1:=G.appA sa (i-p) p ∅ λm h1 h2 n h3=>bn (sb n (j-1) ∅ ∅ (by have:=G.hj;omega)) (bb (hgt m h1 h2))
       by_cases e1:p=0
       ·rw[if_pos (~~~e1)];exact aA ⟨hg.set _,.inl ⟨_,rfl,G1.done sa sb (.inl e1)⟩⟩
       ·rw[if_neg (~~~e1)];have hlo:∀ n,n<p->le key (el a n) (el b (j-1)):=hle;refine aB (wpS_elem (by have:=G1.hj;omega) ?_);have hz1:=G1.sz;have G2:=G1.pushB' ∅ sb hlo;have hz2:=G2.sz;by_cases e3:j-1=1
        ·rw[if_pos (~~~e3)];exact aA ⟨hg.set _,.inl ⟨_,rfl,G2.first sa e3 λm hm=>h0 m (by have:=G2.hi;omega)⟩⟩
        ·rw[if_neg (~~~e3)];refine aB (wpS_elem (by have:=G2.hi;omega) ?_);refine aB (wpS_galL C (by exact hg.kind.trans hk) (ma _ (by have:=G2.hi;omega)) (λm hm=>by rw[du];exact mb _ (by have:=G2.hj;omega)) (by have:=G2.hj;omega) (sb.sub ∅ (by have:=G2.hj;omega)) ∅ λp2 hp2 hlt0 hge0=>?_);dsimp only;have hlt:∀ m,m<p2->O.klt (KA key b m) (KA key a (p-1)):=λm h1=>hlt0 m ∅ ∅
         have hge:∀ m,p2<=m->m<j-1->O.kle (KA key a (p-1)) (KA key b m):=λm h1 h2=>hge0 m ∅ ∅
         by_cases hk20:j-1-p2>0
         ·rw[if_pos hk20];have G3:=G2.appB sb (j-1-p2) p2 ∅ λm h1 h2 n h3=>bn (sa n (p-1) ∅ ∅ (by have:=G2.hi;omega)) (hge m h1 h2)
          by_cases e5:p2=1
          ·rw[if_pos (~~~e5)];exact aA ⟨hg.set _,.inl ⟨_,rfl,G3.first sa e5 λm hm=>h0 m (by have:=G3.hi;omega)⟩⟩
          ·rw[if_neg (~~~e5)];by_cases e6:p2=0
           ·rw[if_pos (~~~e6)];exact aA ⟨hg.set _,.inl ⟨_,rfl,G3.done sa sb (.inr e6)⟩⟩
           ·rw[if_neg (~~~e6)];have hlow:∀ n,n<p2->le key (el b n) (el a (p-1)):=λn hn=>bb (hlt n hn)
            refine aB (wpS_elem (by have:=G3.hi;omega) ?_);have hz3:=G3.sz;have G4:=G3.pushA' ∅ sa hlow;have hz4:=G4.sz;by_cases e4:p-1=0
            ·rw[if_pos (~~~e4)];exact aA ⟨hg.set _,.inl ⟨_,rfl,G4.done sa sb (.inl e4)⟩⟩
            ·rw[if_neg (~~~e4)];split
             ·exact aA ⟨hg.set _,.inr ⟨_,_,_,_,_,_,rfl,G4,∅,∅,∅⟩⟩
             ·exact aA ⟨hg.set _,_,_,_,_,_,_,rfl,G4,∅,∅,∅⟩
         ·rw[if_neg hk20];have hp2z:p2=j-1:=∅
          have G3:=G2;have hlow:∀ n,n<j-1->le key (el b n) (el a (p-1)):=λn hn=>bb (hlt n ∅)
          refine aB (wpS_elem (by have:=G3.hi;omega) ?_);have hz3:=G3.sz;have G4:=G3.pushA' ∅ sa hlow;have hz4:=G4.sz;by_cases e4:p-1=0
          ·rw[if_pos (~~~e4)];exact aA ⟨hg.set _,.inl ⟨_,rfl,G4.done sa sb (.inl e4)⟩⟩
          ·rw[if_neg (~~~e4)];split
           ·exact aA ⟨hg.set _,.inr ⟨_,_,_,_,_,_,rfl,G4,∅,∅,∅⟩⟩
           ·exact aA ⟨hg.set _,_,_,_,_,_,_,rfl,G4,∅,∅,∅⟩
      ·rw[if_neg hk0];have hpz:p=i:=∅
       have G1:=G;have hlo:∀ n,n<i->le key (el a n) (el b (j-1)):=λn hn=>hle n ∅
       refine aB (wpS_elem (by have:=G1.hj;omega) ?_);have hz1:=G1.sz;have G2:=G1.pushB' ∅ sb hlo;have hz2:=G2.sz;by_cases e3:j-1=1
       ·rw[if_pos (~~~e3)];exact aA ⟨hg.set _,.inl ⟨_,rfl,G2.first sa e3 λm hm=>h0 m (by have:=G2.hi;omega)⟩⟩
       ·rw[if_neg (~~~e3)];refine aB (wpS_elem (by have:=G2.hi;omega) ?_);refine aB (wpS_galL C (by exact hg.kind.trans hk) (ma _ (by have:=G2.hi;omega)) (λm hm=>by rw[du];exact mb _ (by have:=G2.hj;omega)) (by have:=G2.hj;omega) (sb.sub ∅ (by have:=G2.hj;omega)) ∅ λp2 hp2 hlt0 hge0=>?_);dsimp only;have hlt:∀ m,m<p2->O.klt (KA key b m) (KA key a (i-1)):=λm h1=>hlt0 m ∅ ∅
        have hge:∀ m,p2<=m->m<j-1->O.kle (KA key a (i-1)) (KA key b m):=λm h1 h2=>hge0 m ∅ ∅
        by_cases hk20:j-1-p2>0
        ·rw[if_pos hk20];have G3:=G2.appB sb (j-1-p2) p2 ∅ λm h1 h2 n h3=>bn (sa n (i-1) ∅ ∅ (by have:=G2.hi;omega)) (hge m h1 h2)
         by_cases e5:p2=1
         ·rw[if_pos (~~~e5)];exact aA ⟨hg.set _,.inl ⟨_,rfl,G3.first sa e5 λm hm=>h0 m (by have:=G3.hi;omega)⟩⟩
         ·rw[if_neg (~~~e5)];by_cases e6:p2=0
          ·rw[if_pos (~~~e6)];exact aA ⟨hg.set _,.inl ⟨_,rfl,G3.done sa sb (.inr e6)⟩⟩
          ·rw[if_neg (~~~e6)];have hlow:∀ n,n<p2->le key (el b n) (el a (i-1)):=λn hn=>bb (hlt n hn)
           refine aB (wpS_elem (by have:=G3.hi;omega) ?_);have hz3:=G3.sz;have G4:=G3.pushA' ∅ sa hlow;have hz4:=G4.sz;by_cases e4:i-1=0
           ·rw[if_pos (~~~e4)];exact aA ⟨hg.set _,.inl ⟨_,rfl,G4.done sa sb (.inl e4)⟩⟩
           ·rw[if_neg (~~~e4)];split
            ·exact aA ⟨hg.set _,.inr ⟨_,_,_,_,_,_,rfl,G4,∅,∅,∅⟩⟩
            ·exact aA ⟨hg.set _,_,_,_,_,_,_,rfl,G4,∅,∅,∅⟩
        ·rw[if_neg hk20];have hp2z:p2=j-1:=∅
         have G3:=G2;have hlow:∀ n,n<j-1->le key (el b n) (el a (i-1)):=λn hn=>bb (hlt n ∅)
         refine aB (wpS_elem (by have:=G3.hi;omega) ?_);have hz3:=G3.sz;have G4:=G3.pushA' ∅ sa hlow;have hz4:=G4.sz;by_cases e4:i-1=0
         ·rw[if_pos (~~~e4)];exact aA ⟨hg.set _,.inl ⟨_,rfl,G4.done sa sb (.inl e4)⟩⟩
         ·rw[if_neg (~~~e4)];split
          ·exact aA ⟨hg.set _,.inr ⟨_,_,_,_,_,_,rfl,G4,∅,∅,∅⟩⟩
          ·exact aA ⟨hg.set _,_,_,_,_,_,_,rfl,G4,∅,∅,∅⟩
end
end Ts
namespace Ts
open PySem PyProof.Rows
set_option autoImplicit false
def wb (sa:Nat)(m ar:Array Keyed):Array Keyed:=m.toList.zipIdx.foldl (λa (p,j)=>a.setIfInBounds (sa+j) p) ar
theorem wbL:∀(l:List Keyed) (n sa:Nat) (ar:Array Keyed),sa+n+l.length<=ar.size ->
  ((l.zipIdx n).foldl (λa (p,j)=>a.setIfInBounds (sa+j) p) ar).toList=ar.toList.take (sa+n)++l++ar.toList.drop (sa+n+l.length)
 | [],n,sa,ar,h=>by simp
 | x::l,n,sa,ar,h=>by
  rw[List.zipIdx_cons,gL];have hs:sa+n<ar.size:=by rw[aD] at h;omega
  have hl:(ar.setIfInBounds (sa+n) x).size=ar.size:=by simp
  have ih:=wbL l (n+1) sa (ar.setIfInBounds (sa+n) x) (by rw[hl];rw[aD] at h;omega);refine ih.trans ?_;rw[Array.toList_setIfInBounds,aD];have e1:(ar.toList.set (sa+n) x).take (sa+(n+1))=ar.toList.take (sa+n)++[x]:=by
   rw[show sa+(n+1)=(sa+n)+1 by omega,bD,List.take_set_of_le (aC _),cT (~~~hs)];rfl
  have e2:(ar.toList.set (sa+n) x).drop (sa+(n+1)+l.length)=ar.toList.drop (sa+n+(l.length+1)):=by
   rw[List.drop_set_of_lt ∅];congr 1;omega
  rw[e1,e2];simp
theorem wb_toList {sa:Nat}{m ar:Array Keyed}(h:sa+m.size<=ar.size):(wb sa m ar).toList=ar.toList.take sa++m.toList++ar.toList.drop (sa+m.size):=by
 have:=wbL m.toList 0 sa ar (~~~h);rw[jL,bF] at this;exact this
theorem wb_get {sa:Nat}{m ar:Array Keyed}(h:sa+m.size<=ar.size)(k:Nat):(wb sa m ar)[k]?=if sa<=k/\k<sa+m.size then m[k-sa]? else ar[k]?:=by
 have hl1:(ar.toList.take sa).length=sa:=by simp;omega
 have hl2:(ar.toList.take sa++m.toList).length=sa+m.size:=by rw[ak,hl1];simp
 rw[<- aZ,wb_toList h,<- aZ (xs:=m),<- aZ (xs:=ar)];by_cases h1:k<sa
 ·rw[if_neg ∅,bj (by rw[hl2];omega),bj (by rw[hl1];exact h1),gj h1]
 ·by_cases h2:k<sa+m.size
  ·rw[if_pos ⟨∅,h2⟩,bj (by rw[hl2];exact h2),bP (by rw[hl1];omega),hl1]
  ·rw[if_neg ∅,bP (by rw[hl2];omega),hl2,gc];congr 1;omega
theorem split3 {ar:Array Keyed}{i j:Nat}(hij:i<=j)(hj:j<=ar.size):ar.toList=ar.toList.take i++(ar.extract i j).toList++ar.toList.drop j:=by
 rw[df,cF];conv=>lhs;rw[<- bI i ar.toList,<- bI (j-i) (ar.toList.drop i)]
 rw[br,List.drop_drop];congr 3;omega
theorem ext_split {ar:Array Keyed}{i j k:Nat}(hij:i<=j)(hjk:j<=k)(hk:k<=ar.size):(ar.extract i j).toList++(ar.extract j k).toList=(ar.extract i k).toList:=by
 rw[<- bV,Array.extract_append_extract,Nat.min_eq_left hij,Nat.max_eq_right hjk]
theorem wb_perm {sa e:Nat}{m ar:Array Keyed}(hs:m.size=e-sa)(hse:sa<=e)(he:e<=ar.size)(hp:m.toList.Perm (ar.extract sa e).toList):(wb sa m ar).Perm ar:=by
 rw[Array.perm_iff_toList_perm,wb_toList ∅];conv=>rhs;rw[split3 hse he]
 rw[show sa+m.size=e by omega];exact (hp.append_left _).append_right _
theorem el_extract {ar:Array Keyed}{i j k:Nat}(h:i+k<j)(hj:j<=ar.size):el (ar.extract i j) k=el ar (i+k):=by
 apply el_congr;rw[Array.getElem?_extract];rw[if_pos ∅]
section
variable {M:Model}{A:Around}{E:Value->Shared->Prop}{s:Shared}{a₀:Array Keyed}{knd:SortKind}{O:KeyOrd}{key:Keyed->O.α}
theorem wpS_set {f:SortSt}{st:SortSt}{Q:PUnit->SortSt->Prop}(h:Q ⟨⟩ f):wpS M A E s (set f:StateT SortSt Sem PUnit) Q st:=by
 unfold wpS;rw[StateT.run_set];exact ao ⟨rfl,h⟩
theorem pend_arr (p1 p2:List (Nat×Nat×Nat))(x y z:Nat×Nat×Nat):((p1++x::y::p2).toArray.setIfInBounds p1.length z).eraseIdxIfInBounds (p1.length+1)=(p1++z::p2).toArray:=by
 apply io;rw[Array.eraseIdxIfInBounds_eq];simp[List.set_append_right,List.eraseIdx_append_of_length_le]
theorem wpS_mAt {st:SortSt}{p1 p2:List (Nat×Nat×Nat)}{sa na pw sb nb pw2:Nat}{Q:Bool->SortSt->Prop}(C:Cmp M A E s knd O key a₀)(hB:SB a₀ knd st)
  (hp:pendingOf st=(p1++(sa,na,pw)::(sb,nb,pw2)::p2).toArray) (hsb:sb=sa+na) (hna:1<=na) (hnb:1<=nb) (hsz:sb+nb<=a₀.size)
  (sA:Seg key (arrOf st) sa (sa+na)) (sB:Seg key (arrOf st) sb (sb+nb))
  (h:∀ st',SB a₀ knd st'->pendingOf st'=(p1++(sa,na+nb,pw)::p2).toArray->Seg key (arrOf st') sa (sa+na+nb)->(∀ k,k<sa\/sa+na+nb<=k->(arrOf st')[k]?=(arrOf st)[k]?)->Q true st') :
  wpS M A E s (mergeAt' p1.length) Q st:=by
 rw[mAt_eq];refine aB (gu ?_);have hP:pendingOf st=(p1++(sa,na,pw)::(sb,nb,pw2)::p2).toArray:=hp;have g1:(pendingOf st)[p1.length]?=some (sa,na,pw):=by rw[hP];simp
 have g2:(pendingOf st)[p1.length+1]?=some (sb,nb,pw2):=by rw[hP];simp
 have hZ:(arrOf st).size=a₀.size:=hB.size;dsimp only;rw[g1,g2];dsimp only;refine aB (wpS_set ?_);rw[hP,pend_arr];refine aB (wpS_elem ∅ ?_);refine aB (wpS_galR C (by exact hB.kind) (hB.mem ∅) (λi hi=>hB.mem ∅) ∅ sA ∅ λk hk hle hgt=>?_);dsimp only;have hB1:SB a₀ knd (fM (kindOf st) (arrOf st) ((p1++(sa,na+nb,pw)::p2).toArray) (gallopOf st) (failedOf st)):=⟨hB.perm,hB.kind,hB.failed⟩
 by_cases c1:na-k=0
 ·rw[if_pos (~~~c1)];refine aA (h _ hB1 rfl (λi j h1 h2 h3=>?_) λk hk=>rfl);show O.kle (KA key (arrOf st) i) (KA key (arrOf st) j);by_cases hj:j<sb
  ·exact sA i j h1 h2 ∅
  ·by_cases hi:i<sb
   ·exact bn (hle i h1 ∅) (sB sb j ∅ ∅ ∅)
   ·exact sB i j ∅ h2 ∅
 rw[if_neg (~~~c1)];refine aB (wpS_elem ∅ ?_);refine aB (wpS_galL C (by exact hB.kind) (hB.mem ∅) (λi hi=>hB.mem ∅) ∅ sB ∅ λn hn hlt hge=>?_);dsimp only;have eL:sa+k+(na-k)-1=sb-1:=∅
 rw[eL] at hlt hge;by_cases c2:n=0
 ·rw[if_pos (~~~c2)];refine aA (h _ hB1 rfl (λi j h1 h2 h3=>?_) λk hk=>rfl);show O.kle (KA key (arrOf st) i) (KA key (arrOf st) j);by_cases hj:j<sb
  ·exact sA i j h1 h2 ∅
  ·by_cases hi:i<sb
   ·exact bn (sA i (sb-1) h1 ∅ ∅) (hge j ∅ ∅)
   ·exact sB i j ∅ h2 ∅
 rw[if_neg (~~~c2)];have zx:((arrOf st).extract (sa+k) sb).size=sb-(sa+k):=by rw[ga];omega
 have zy:((arrOf st).extract sb (sb+n)).size=n:=by rw[ga];omega
 have ex:∀ q,q<sb-(sa+k)->el ((arrOf st).extract (sa+k) sb) q=el (arrOf st) (sa+k+q):=λq hq=>el_extract ∅ ∅
 have ey:∀ q,q<n->el ((arrOf st).extract sb (sb+n)) q=el (arrOf st) (sb+q):=λq hq=>el_extract ∅ ∅
 have mx:∀ q,q<((arrOf st).extract (sa+k) sb).size->el ((arrOf st).extract (sa+k) sb) q∈a₀.toList:=λq hq=>by rw[ex q ∅];exact hB.mem ∅
 have my:∀ q,q<((arrOf st).extract sb (sb+n)).size->el ((arrOf st).extract sb (sb+n)) q∈a₀.toList:=λq hq=>by rw[ey q ∅];exact hB.mem ∅
 have gx:Seg key ((arrOf st).extract (sa+k) sb) 0 ((arrOf st).extract (sa+k) sb).size:=λi j h1 h2 h3=>by
  unfold KA;rw[ex i ∅,ex j ∅];exact sA _ _ ∅ ∅ ∅
 have gy:Seg key ((arrOf st).extract sb (sb+n)) 0 ((arrOf st).extract sb (sb+n)).size:=λi j h1 h2 h3=>by
  unfold KA;rw[ey i ∅,ey j ∅];exact sB _ _ ∅ ∅ ∅
 have h00:∀ q,q<((arrOf st).extract (sa+k) sb).size->le key (el ((arrOf st).extract sb (sb+n)) 0) (el ((arrOf st).extract (sa+k) sb) q):=λq hq=>by
  rw[ex q ∅,ey 0 ∅];exact bb (hgt _ ∅ ∅)
 have hll:∀ q,q<((arrOf st).extract sb (sb+n)).size->le key (el ((arrOf st).extract sb (sb+n)) q) (el ((arrOf st).extract (sa+k) sb) (((arrOf st).extract (sa+k) sb).size-1)):=λq hq=>by
  rw[ey q ∅,ex _ ∅,show sa+k+(((arrOf st).extract (sa+k) sb).size-1)=sb-1 by omega];exact bb (hlt _ ∅ ∅)
 have fin:∀(m:Array Keyed) (st':SortSt),Res key ((arrOf st).extract (sa+k) sb) ((arrOf st).extract sb (sb+n)) m ->
   Sg (fM (kindOf st) (arrOf st) ((p1++(sa,na+nb,pw)::p2).toArray) (gallopOf st) (failedOf st)) st' ->
   wpS M A E s (do
    modify λs=>setArr s (m.toList.zipIdx.foldl (λa (p,j)=>a.setIfInBounds (sa+k+j) p) (arrOf s))
    return (failedOf (<- get)).isNone) Q st':=by
  rintro m st' ⟨hm,hpw⟩ ⟨g,rfl⟩;rw[ext_split ∅ ∅ ∅] at hm;have zm:m.size=sb+n-(sa+k):=by
   have:=hm.length_eq;rw[bF,bF,ga] at this;omega
  refine aB (fv ?_);refine aB (gu ?_);have hf:failedOf st=none:=hB.failed;show wpS M A E s (pure (failedOf st).isNone) Q (setArr _ (wb (sa+k) m (arrOf st)));rw[hf];have hpm:(wb (sa+k) m (arrOf st)).Perm (arrOf st):=wb_perm zm ∅ ∅ hm;refine aA (h _ ⟨hpm.trans hB.perm,hB.kind,rfl⟩ rfl ?_ λq hq=>?_)
  ·have sm:=seg_of_pw hpw;have em:∀ q,q<m.size->∃ r,sa+k<=r/\r<sb+n/\el m q=el (arrOf st) r:=λq hq=>by
    have h1:=hm.mem_iff.mp (el_mem hq);obtain⟨r,hr⟩:=ca.mp h1;rw[aZ] at hr;have hr':r<((arrOf st).extract (sa+k) (sb+n)).size:=by
     rcases cv r ((arrOf st).extract (sa+k) (sb+n)).size with h | h
     ·exact h
     ·rw[bM h] at hr;cases hr
    rw[el_some hr'] at hr;rw[ga] at hr';refine⟨sa+k+r,∅,∅,?_⟩;rw[<- aP hr,el_extract ∅ ∅]
   have kin:∀ q,sa+k<=q->q<sb+n->el (wb (sa+k) m (arrOf st)) q=el m (q-(sa+k)):=λq h1 h2=>by
    apply el_congr;rw[wb_get ∅,if_pos ∅]
   have kout:∀ q,q<sa+k\/sb+n<=q->el (wb (sa+k) m (arrOf st)) q=el (arrOf st) q:=λq h1=>by
    apply el_congr;rw[wb_get ∅,if_neg ∅]
   show Seg key (wb (sa+k) m (arrOf st)) sa (sa+na+nb);have lowmid:∀ i r,sa<=i->i<sa+k->sa+k<=r->r<sb+n->O.kle (KA key (arrOf st) i) (KA key (arrOf st) r):=λi r h1 h2 h3 h4=>by
    by_cases hr:r<sb
    ·exact sA i r h1 ∅ ∅
    ·exact bn (hle i h1 h2) (sB sb r ∅ ∅ ∅)
   have midend:∀ r j,sa+k<=r->r<sb+n->sb+n<=j->j<sb+nb->O.kle (KA key (arrOf st) r) (KA key (arrOf st) j):=λr j h1 h2 h3 h4=>by
    by_cases hr:r<sb
    ·exact bn (sA r (sb-1) ∅ ∅ ∅) (hge j ∅ ∅)
    ·exact sB r j ∅ ∅ ∅
   intro i j h1 h2 h3;unfold KA;by_cases i1:i<sa+k
   ·rw[kout i (.inl i1)];by_cases j1:j<sa+k
    ·rw[kout j (.inl j1)];exact sA i j h1 h2 ∅
    ·by_cases j2:j<sb+n
     ·rw[kin j ∅ j2];obtain⟨r,r1,r2,e⟩:=em (j-(sa+k)) ∅;rw[e];exact lowmid i r h1 i1 r1 r2
     ·rw[kout j (.inr ∅)];exact bn (lowmid i sb h1 i1 ∅ ∅) (sB sb j ∅ ∅ ∅)
   ·by_cases i2:i<sb+n
    ·rw[kin i ∅ i2];by_cases j2:j<sb+n
     ·rw[kin j ∅ j2];exact sm _ _ ∅ ∅ ∅
     ·rw[kout j (.inr ∅)];obtain⟨r,r1,r2,e⟩:=em (i-(sa+k)) ∅;rw[e];exact midend r j r1 r2 ∅ ∅
    ·rw[kout i (.inr ∅),kout j (.inr ∅)];exact sB i j ∅ h2 ∅
  ·show (wb (sa+k) m (arrOf st))[q]?=_;rw[wb_get ∅,if_neg ∅]
 by_cases c3:na-k<=n
 ·rw[if_pos c3];exact aB (wpS_mLo C (by exact hB.kind) mx my gx gy ∅ ∅ h00 hll fin)
 ·rw[if_neg c3];exact aB (wpS_mHi C (by exact hB.kind) mx my gx gy ∅ ∅ h00 hll fin)
end
end Ts
namespace Ts
open PySem PyProof.Rows
set_option autoImplicit false
section
variable {M:Model}{A:Around}{E:Value->Shared->Prop}{s:Shared}{a₀:Array Keyed}{knd:SortKind}{O:KeyOrd}{key:Keyed->O.α}
def Rn {O:KeyOrd}(key:Keyed->O.α)(xs:Array Keyed):Nat->List (Nat×Nat×Nat)->Nat->Prop
 | s,[],e=>s=e
 | s,x::r,e=>x.1=s/\1<=x.2.1/\Seg key xs s (s+x.2.1)/\Rn key xs (s+x.2.1) r e
theorem Rn.le {xs:Array Keyed}:∀ {p:List (Nat×Nat×Nat)} {s e:Nat},Rn key xs s p e->s+p.length<=e
 | [],s,e,h=>by cases h;simp
 | x::r,s,e,h=>by
  have:=Rn.le h.2.2.2;have:=h.2.1;rw[aD];omega
theorem Rn.congr {xs ys:Array Keyed}:∀ {p:List (Nat×Nat×Nat)} {s e:Nat},Rn key xs s p e->(∀ k,s<=k->k<e->ys[k]?=xs[k]?)->Rn key ys s p e
 | [],s,e,h,_=>h
 | x::r,s,e,h,k=>⟨h.1,h.2.1,h.2.2.1.congr (λi a b=>KA_congr (k i a (by have:=Rn.le h.2.2.2;omega))),Rn.congr h.2.2.2 λi a b=>k i ∅ b⟩
theorem Rn.app {xs:Array Keyed}:∀ {p q:List (Nat×Nat×Nat)} {s e:Nat},Rn key xs s (p++q) e->∃ m,Rn key xs s p m/\Rn key xs m q e
 | [],q,s,e,h=>⟨s,rfl,h⟩
 | x::r,q,s,e,h=>by
  obtain⟨m,h1,h2⟩:=Rn.app h.2.2.2;exact⟨m,⟨h.1,h.2.1,h.2.2.1,h1⟩,h2⟩
theorem Rn.cat {xs:Array Keyed}:∀ {p q:List (Nat×Nat×Nat)} {s m e:Nat},Rn key xs s p m->Rn key xs m q e->Rn key xs s (p++q) e
 | [],q,s,m,e,h,k=>by cases h;exact k
 | x::r,q,s,m,e,h,k=>⟨h.1,h.2.1,h.2.2.1,Rn.cat h.2.2.2 k⟩
structure RB {O:KeyOrd}(key:Keyed->O.α)(a₀:Array Keyed)(knd:SortKind)(lo:Nat)(p:List (Nat×Nat×Nat))(st:SortSt):Prop where
 sb:SB a₀ knd st
 pd:pendingOf st=p.toArray
 rn:Rn key (arrOf st) 0 p lo
 hl:lo<=a₀.size
theorem wpS_mRB {st:SortSt}{lo:Nat}{p1 p2:List (Nat×Nat×Nat)}{x y:Nat×Nat×Nat}{Q:Bool->SortSt->Prop}(C:Cmp M A E s knd O key a₀)(hB:RB key a₀ knd lo (p1++x::y::p2) st)
  (h:∀ st',RB key a₀ knd lo (p1++(x.1,x.2.1+y.2.1,x.2.2)::p2) st'->(∀ k,lo<=k->(arrOf st')[k]?=(arrOf st)[k]?)->Q true st'):wpS M A E s (mergeAt' p1.length) Q st:=by
 obtain⟨sa,na,pw⟩:=x;obtain⟨sb,nb,pw2⟩:=y;obtain⟨m,r1,r2⟩:=hB.rn.app;obtain⟨e1,n1,g1,e2,n2,g2,r3⟩:=r2;dsimp only at e1 n1 g1 e2 n2 g2 r3;subst e1;have hle:=r3.le;have hl1:=r1.le;have hlo:=hB.hl;refine wpS_mAt C hB.sb hB.pd e2 n1 n2 ∅ g1 (by rw[e2];exact g2) λst' b1 b2 b3 b4=>h st' ⟨b1,b2,?_,hB.hl⟩ λk hk=>b4 k ∅
 refine (r1.congr λk _ hk=>b4 k (.inl hk)).cat ⟨rfl,by dsimp only;omega,?_,?_⟩
 ·dsimp only;rw[<- Nat.add_assoc];exact b3
 ·dsimp only;rw[<- Nat.add_assoc];exact r3.congr λk hk _=>b4 k (.inr hk)
theorem split_at2 {p:List (Nat×Nat×Nat)}{n:Nat}(h:n+1<p.length):∃ p1 x y p2,p=p1++x::y::p2/\p1.length=n:=by
 refine⟨p.take n,p[n],p[n+1],p.drop (n+2),?_,by simp;omega⟩;conv=>lhs;rw[<- bI n p]
 congr 1;rw[gf ∅,gf ∅]
theorem Rn.modify {xs:Array Keyed}{f:Nat×Nat×Nat->Nat×Nat×Nat}(h1:∀ x,(f x).1=x.1)(h2:∀ x,(f x).2.1=x.2.1):∀ {p:List (Nat×Nat×Nat)} {i s e:Nat},Rn key xs s p e->Rn key xs s (p.modify i f) e
 | [],i,s,e,h=>by cases i<;>exact h
 | x::r,0,s,e,h=>by
  rw[List.modify_zero_cons];unfold Rn at h ⊢;rw[h1,h2];exact h
 | x::r,i+1,s,e,h=>by
  rw[List.modify_succ_cons];exact⟨h.1,h.2.1,h.2.2.1,Rn.modify h1 h2 h.2.2.2⟩
theorem RB.power {st:SortSt}{lo:Nat}{p:List (Nat×Nat×Nat)}{f:Nat×Nat×Nat->Nat×Nat×Nat}(hR:RB key a₀ knd lo p st)(h1:∀ x,(f x).1=x.1)(h2:∀ x,(f x).2.1=x.2.1) :
  RB key a₀ knd lo (p.modify (p.length-1) f) (setPending st ((pendingOf st).modify ((pendingOf st).size-1) f)) :=
 ⟨⟨hR.sb.perm,hR.sb.kind,hR.sb.failed⟩,by show (pendingOf st).modify ((pendingOf st).size-1) f=_;rw[hR.pd,List.modify_toArray];simp,hR.rn.modify h1 h2,hR.hl⟩
theorem RB.push {st:SortSt}{lo n:Nat}{p:List (Nat×Nat×Nat)}(hR:RB key a₀ knd lo p st)(h1:1<=n)(h2:lo+n<=a₀.size)(hs:Seg key (arrOf st) lo (lo+n)) :
  RB key a₀ knd (lo+n) (p++[(lo,n,0)]) (setPending st ((pendingOf st).push (lo,n,0))) :=
 ⟨⟨hR.sb.perm,hR.sb.kind,hR.sb.failed⟩,by show (pendingOf st).push _=_;rw[hR.pd,List.push_toArray],hR.rn.cat ⟨rfl,h1,hs,rfl⟩,h2⟩
theorem wpS_sR {st:SortSt}{Q:Unit->SortSt->Prop}(C:Cmp M A E s knd O key a₀)(hB:SB a₀ knd st)(hp:pendingOf st=#[])(h2:2<=a₀.size)
  (h:∀ st',SB a₀ knd st'->Seg key (arrOf st') 0 a₀.size->Q () st'):wpS M A E s sortRuns' Q st:=by
 rw[sortRuns'_eq];refine aB (gu ?_);dsimp only;simp only[hB.size];generalize minRun' a₀.size a₀.size 0=mr
 refine aB (dX (cq
  (I:=λx c st'=>∃ lo p,c=(none,lo)/\RB key a₀ knd lo p st'/\x<=lo)
  (Q:=λc st'=>∃ p,c=(none,a₀.size)/\RB key a₀ knd a₀.size p st') ?step ?fin ⟨0,[],rfl,⟨hB,hp,rfl,∅⟩,∅⟩) ?post)
 case fin =>
  rintro c st' ⟨lo,p,rfl,hR,hx⟩;have:lo=a₀.size:=by have:=hR.hl;omega
  subst this;exact⟨p,rfl,hR⟩
 case post =>
  rintro c st' ⟨p,rfl,hR⟩;dsimp only
  refine aB (dX (cq (I:=λx c st'=>c=(none,())/\∃ p,RB key a₀ knd a₀.size p st'/\(p.length<=1\/p.length+x<=a₀.size))
   (Q:=λc st'=>c=(none,())/\∃ p,RB key a₀ knd a₀.size p st'/\p.length<=1) ?_ ?_ ⟨rfl,p,hR,.inr (by have:=hR.rn.le;omega)⟩) ?_)
  ·rintro x c st3 _ hx ⟨rfl,p,hR3,hlen⟩;refine aB (gu ?_);have hsz:(pendingOf st3).size=p.length:=by rw[hR3.pd];simp
   by_cases hz:(pendingOf st3).size<=1
   ·rw[if_pos hz];exact aA ⟨rfl,p,hR3,∅⟩
   ·rw[if_neg hz];have key1:∀ n,n+1<p.length->wpS M A E s (mergeAt' n) (λb st'=>b=true/\∃ p',RB key a₀ knd a₀.size p' st'/\p'.length+1=p.length) st3:=by
     intro n hn;obtain⟨p1,xx,yy,p2,rfl,rfl⟩:=split_at2 hn;exact wpS_mRB C hR3 λst4 hR4 _=>⟨rfl,_,hR4,by simp;omega⟩
    refine aB (dX (key1 _ ?_) ?_)
    ·have hh:∀(c:Prop) [Decidable c],(if c then p.length-2-1 else p.length-2)+1<p.length:=λc _=>by split<;>omega
     rw[hsz];exact hh _
    ·rintro b st4 ⟨rfl,p',hR4,hl4⟩;simp only[dm,aO,if_false];exact aA ⟨rfl,p',hR4,∅⟩
  ·rintro c st3 ⟨rfl,p,hR3,hlen⟩;exact⟨rfl,p,hR3,∅⟩
  ·rintro c st3 ⟨rfl,p,hR3,hlen⟩;refine aA (h st3 hR3.sb ?_);have hrn:=hR3.rn
   match p,hlen,hrn with
   | [],_,hrn=>exact absurd hrn (by show ¬ (0=a₀.size);omega)
   | [x],_,hrn =>
    obtain⟨_,_,g,e⟩:=hrn;have e:0+x.2.1=a₀.size:=e;rw[e] at g;exact g
   | _::_::_,hlen,_=>simp at hlen
 case step =>
  rintro x c st1 _ hx ⟨lo,p,rfl,hR,hxl⟩;dsimp only;by_cases hlo:lo>=a₀.size
  ·rw[if_pos hlo];have:lo=a₀.size:=by have:=hR.hl;omega
   subst this;exact aA ⟨p,rfl,hR⟩
  rw[if_neg hlo];refine aB (wpS_cR C ∅ ∅ hR.sb λfound st2 hB2 hF2 hm1 hm2 hs2=>?_);dsimp only;have hR2:RB key a₀ knd lo p st2:=⟨hB2,hF2.pend.trans hR.pd,hR.rn.congr λk _ hk=>hF2.low k hk,hR.hl⟩
  by_cases hmin:found<mr
  ·rw[if_pos hmin];refine aB (wpS_rule ?_);refine aB (wpS_bS C ∅ ∅ hB2 hs2 λst3 hB3 hF3 hs3=>?_);simp only[dm,aO,if_false];have hR3:RB key a₀ knd lo p st3:=⟨hB3,hF3.pend.trans hR2.pd,hR2.rn.congr λk _ hk=>hF3.low k hk,hR.hl⟩
   have hn1:1<=min (a₀.size-lo) mr:=∅
   have hn2:lo+min (a₀.size-lo) mr<=a₀.size:=∅
   have hseg:=hs3;refine aB (gu ?_);cases hbk:(pendingOf st3).back? with
   | none =>
    dsimp only;refine aB (fv ?_);exact aA ⟨_,_,rfl,hR3.push hn1 hn2 hseg,∅⟩
   | some t =>
    obtain⟨s1,n1,q⟩:=t;dsimp only
    refine aB (dX (cq (I:=λy c st'=>c=(none,())/\∃ p,RB key a₀ knd lo p st'/\∀ k,lo<=k->(arrOf st')[k]?=(arrOf st3)[k]?)
     (Q:=λc st'=>c=(none,())/\∃ p,RB key a₀ knd lo p st'/\∀ k,lo<=k->(arrOf st')[k]?=(arrOf st3)[k]?) ?_ (λc st' z=>z) ⟨rfl,p,hR3,λ_ _=>rfl⟩) ?_)
    ·rintro y c stt _ hy ⟨rfl,p,hR3,hk3⟩;refine aB (gu ?_);by_cases hz:(pendingOf stt).size>1
     ·rw[if_pos hz];have hz':p.length-2+1<p.length:=by rw[hR3.pd] at hz;simp at hz;omega
      obtain⟨p1,xx,yy,p2,rfl,hl⟩:=split_at2 hz';have e1:(pendingOf stt).size-2=p1.length:=by rw[hR3.pd,hl];simp
      rw[e1];have e2:(pendingOf stt)[p1.length]?=some xx:=by rw[hR3.pd];simp
      rw[e2];obtain⟨x1,x2,x3⟩:=xx;dsimp only;split
      ·exact aA ⟨rfl,_,hR3,hk3⟩
      ·refine aB (wpS_mRB C hR3 λst4 hR4 hk4=>?_);simp only[dm,aO,if_false];exact aA ⟨rfl,_,hR4,λk hk=>(hk4 k hk).trans (hk3 k hk)⟩
     ·rw[if_neg hz];exact aA ⟨rfl,p,hR3,hk3⟩
    ·rintro c stt ⟨rfl,p,hR3,hk3⟩;dsimp only;refine aB (fv ?_);refine aB (fv ?_);have hR5:=hR3.power (f:=λx=>(x.fst,x.snd.fst,power' a₀.size (2*s1+n1) (2*s1+n1+n1+min (a₀.size-lo) mr) a₀.size)) (λ_=>rfl) (λ_=>rfl);exact aA ⟨_,_,rfl,hR5.push hn1 hn2 (hseg.congr λk h1 _=>KA_congr (hk3 k h1)),∅⟩
  ·rw[if_neg hmin];have hn1:1<=found:=hm1;have hn2:lo+found<=a₀.size:=∅
   have hseg:=hs2;refine aB (gu ?_);cases hbk:(pendingOf st2).back? with
   | none =>
    dsimp only;refine aB (fv ?_);exact aA ⟨_,_,rfl,hR2.push hn1 hn2 hseg,∅⟩
   | some t =>
    obtain⟨s1,n1,q⟩:=t;dsimp only
    refine aB (dX (cq (I:=λy c st'=>c=(none,())/\∃ p,RB key a₀ knd lo p st'/\∀ k,lo<=k->(arrOf st')[k]?=(arrOf st2)[k]?)
     (Q:=λc st'=>c=(none,())/\∃ p,RB key a₀ knd lo p st'/\∀ k,lo<=k->(arrOf st')[k]?=(arrOf st2)[k]?) ?_ (λc st' z=>z) ⟨rfl,p,hR2,λ_ _=>rfl⟩) ?_)
    ·rintro y c stt _ hy ⟨rfl,p,hR3,hk3⟩;refine aB (gu ?_);by_cases hz:(pendingOf stt).size>1
     ·rw[if_pos hz];have hz':p.length-2+1<p.length:=by rw[hR3.pd] at hz;simp at hz;omega
      obtain⟨p1,xx,yy,p2,rfl,hl⟩:=split_at2 hz';have e1:(pendingOf stt).size-2=p1.length:=by rw[hR3.pd,hl];simp
      rw[e1];have e2:(pendingOf stt)[p1.length]?=some xx:=by rw[hR3.pd];simp
      rw[e2];obtain⟨x1,x2,x3⟩:=xx;dsimp only;split
      ·exact aA ⟨rfl,_,hR3,hk3⟩
      ·refine aB (wpS_mRB C hR3 λst4 hR4 hk4=>?_);simp only[dm,aO,if_false];exact aA ⟨rfl,_,hR4,λk hk=>(hk4 k hk).trans (hk3 k hk)⟩
     ·rw[if_neg hz];exact aA ⟨rfl,p,hR3,hk3⟩
    ·rintro c stt ⟨rfl,p,hR3,hk3⟩;dsimp only;refine aB (fv ?_);refine aB (fv ?_);have hR5:=hR3.power (f:=λx=>(x.fst,x.snd.fst,power' a₀.size (2*s1+n1) (2*s1+n1+n1+found) a₀.size)) (λ_=>rfl) (λ_=>rfl);exact aA ⟨_,_,rfl,hR5.push hn1 hn2 (hseg.congr λk h1 _=>KA_congr (hk3 k h1)),∅⟩
end
end Ts
end
section
namespace L2
open PySem PySem.Spec PyProof.Rows
def clo (env:Env):List (Str×NameKind)->List (Str×Addr)->List (Str×Addr)
 | [],cs=>cs
 | y::r,cs=>clo env r (if y.2 == bQ then (y.1,(env.cells.lookup y.1).getD 0)::cs else cs)
theorem a9m {env:Env}:∀(names:List (Str×NameKind)) (cs:List (Str×Addr)),(∀ y∈names,y.2=.free->∃ c,env.cells.lookup y.1=some c) ->
  (forIn names cs λ(x:Str×NameKind) (r:List (Str×Addr))=>(if (x.2 == bQ)=true then do
   let c <- cellOf env x.1
   pure (b8 ((x.1,c)::r)) else pure (b8 r):Sem (ForInStep (List (Str×Addr)))))=pure (clo env names cs)
 | [],cs,_=>by rw[List.forIn_nil];rfl
 | y::r,cs,h=>by
  rw[List.forIn_cons];unfold clo;have hr:=a9m r (if y.2 == bQ then (y.1,(env.cells.lookup y.1).getD 0)::cs else cs) λz hz=>h z (aI _ hz)
  by_cases e:(y.2 == bQ)=true
  ·obtain⟨c,hc⟩:=h y aM (~~~e);have ec:cellOf env y.1=pure c:=by unfold cellOf;rw[hc]
   rw[if_pos e] at hr ⊢;rw[if_pos e,ec];rw[hc] at hr ⊢;exact hr
  ·rw[if_neg e] at hr ⊢;rw[if_neg e];exact hr
theorem a5s {env:Env}{scope:Scope}(h:∀ y∈scope.names,y.2=.free->∃ c,env.cells.lookup y.1=some c):closureFor scope env=pure (clo env scope.names []):=by
 have e:=a9m scope.names [] h;unfold closureFor;refine Eq.trans ?_ (congrArg (λt=>t >>= λcs=>(pure cs:Sem (List (Str×Addr)))) e);rfl
theorem K4 {β:Type}(x n:Str)(c:β)(r:List (Str×β)):List.lookup x ((n,c)::r)=if x=n then some c else List.lookup x r:=by
 rw[List.lookup_cons];by_cases e:x=n
 ·have hb:(x == n)=true:=beq_iff_eq.mpr e;rw[if_pos e];simp[hb]
 ·have hb:(x == n)=false:=beq_eq_false_iff_ne.mpr e;rw[if_neg e];simp[hb]
theorem X6 {env:Env}(x:Str):∀(names:List (Str×NameKind)) (cs:List (Str×Addr)),
  (clo env names cs).lookup x=if (names.any λy=>decide (y.1=x) && (y.2 == bQ))=true then some ((env.cells.lookup x).getD 0) else cs.lookup x
 | [],cs=>by simp[clo]
 | y::r,cs=>by
  unfold clo;rw[X6 x r,fm];by_cases e:(y.2 == bQ)=true
  ·rw[if_pos e,K4];by_cases ex:y.1=x
   ·rw[decide_eq_true ex,e,if_pos ex.symm,ex];simp
   ·rw[decide_eq_false ex,if_neg (show ¬ x=y.1 from λz=>ex z.symm),jh,Bool.false_or]
  ·have e':(y.2 == bQ)=false:= ~~~e
   rw[if_neg e,e'];simp
def a2p (sc osc:Scope):Bool :=
 (match sc.kind with | .function=>true | _=>false) &&
  sc.names.all λy=>match y.2 with
   | .cell=>false
   | .local=>(match sc.names.lookup y.1 with | some .local=>true | _=>false)
   | .free=>(match osc.names.lookup y.1 with | some .cell=>true | some .free=>true | _=>false)
   | _=>true
structure a2u (sc osc:Scope):Prop where
 kind:sc.kind=.function
 noCell:∀ y∈sc.names,y.2≠.cell
 loc:∀ y∈sc.names,y.2=.local->sc.names.lookup y.1=some .local
 free:∀ y∈sc.names,y.2=.free->osc.names.lookup y.1=some .cell\/osc.names.lookup y.1=some .free
theorem a1i {sc osc:Scope}(h:a2p sc osc=true):a2u sc osc:=by
 unfold a2p at h;rw[bU,gw] at h;obtain⟨h1,h2⟩:=h;refine⟨?_,λy hy e=>?_,λy hy e=>?_,λy hy e=>?_⟩
 ·cases e:sc.kind with
  | function=>rfl
  | _=>rw[e] at h1;cases h1
 ·have:=h2 y hy;rw[e] at this;cases this
 ·have:=h2 y hy;rw[e] at this;dsimp only at this;split at this
  ·assumption
  ·cases this
 ·have:=h2 y hy;rw[e] at this;dsimp only at this;split at this
  ·left;assumption
  ·right;assumption
  ·cases this
def cxC (X:Cx)(scope:Scope)(N':List Str)(pins:List (Addr×Obj))(fp:List Addr)(s:Shared)(H:Hp):Cx where
 prog:=X.prog
 w:=X.w
 K:=X.K
 mg:=X.mg
 base:=X.base
 A:=X.A
 N:=N'
 sj:=s
 Hz:=H
 env:=compEnvC scope (clo X.env scope.names []) s.heap.objs.size X.env
 outer:=X.stack
 stack:=X.stack
 ex:=fp
 fn:=λ_=>false
 calm:=true
 pn:=X.pn++pins
 xe:=λ_ _=>False
section
variable {X:Cx}{scope:Scope}{own:List Str}{fr:List (Str×Nat)}{fp:List Addr}{pins:List (Addr×Obj)}{σ:St}{H:Hp}{s:Shared}
def st0 (own:List Str)(fr:List (Str×Nat))(σ:St):St:=own.map (λ_=>jC)++fr.map λp=>(σ[p.2]?).join
def a4c (X:Cx)(scope:Scope)(fr:List (Str×Nat)):Prop:=∀ p∈fr,X.N[p.2]?=some p.1/\scope.names.lookup p.1=some .free
theorem C7:a4c X scope []:=λ_ h=>nomatch h
theorem C5 {p:Str×Nat}{r:List (Str×Nat)}(h1:X.N[p.2]?=some p.1)(h2:scope.names.lookup p.1=some .free)(h:a4c X scope r):a4c X scope (p::r):=λq hq=>by
 rcases aJ.mp hq with rfl | hq
 ·exact⟨h1,h2⟩
 ·exact h q hq
theorem S3 {β:Type}{x:Str}{k:β}:∀ {l:List (Str×β)},l.lookup x=some k->(x,k)∈l
 | [],h=>by cases h
 | (n,c)::r,h=>by
  rw[K4] at h;by_cases e:x=n
  ·rw[if_pos e] at h;cases h;rw[e];exact aM
  ·rw[if_neg e] at h;exact aI _ (S3 h)
theorem T9 {env:Env}{x:Str}:∀ {names:List (Str×NameKind)} {k:NameKind},
  (names.map λ(y:Str×NameKind)=>if (y.2 == bQ && env.scope.kind == .function && env.kindOf y.1 == some .cell) then (y.1,cD) else (y.1,y.2)).lookup x=some k ->
  ∃ k',names.lookup x=some k'/\(k=k'\/(k'=.free/\k=.cell))
 | [],k,h=>by cases h
 | (n,c)::r,k,h=>by
  rw[aH] at h;rw[K4];by_cases e:x=n
  ·rw[if_pos e];refine⟨c,rfl,?_⟩;by_cases q:(c == bQ && env.scope.kind == .function && env.kindOf n == some .cell)=true
   ·have hh:(if (((n,c):Str×NameKind).2 == bQ && env.scope.kind == .function && env.kindOf ((n,c):Str×NameKind).1 == some .cell)=true then (((n,c):Str×NameKind).1,cD) else (((n,c):Str×NameKind).1,((n,c):Str×NameKind).2))=(n,cD):=if_pos q;rw[hh,K4,if_pos e] at h;cases h;refine .inr ⟨?_,rfl⟩;simp only[bU] at q;simpa using q.1.1
   ·have hh:(if (((n,c):Str×NameKind).2 == bQ && env.scope.kind == .function && env.kindOf ((n,c):Str×NameKind).1 == some .cell)=true then (((n,c):Str×NameKind).1,cD) else (((n,c):Str×NameKind).1,((n,c):Str×NameKind).2))=(n,c):=if_neg q;rw[hh,K4,if_pos e] at h;cases h;exact .inl rfl
  ·rw[if_neg e];have h':(r.map λ(y:Str×NameKind)=>if (y.2 == bQ && env.scope.kind == .function && env.kindOf y.1 == some .cell) then (y.1,cD) else (y.1,y.2)).lookup x=some k:=by
    by_cases q:(c == bQ && env.scope.kind == .function && env.kindOf n == some .cell)=true
    ·have hh:(if (((n,c):Str×NameKind).2 == bQ && env.scope.kind == .function && env.kindOf ((n,c):Str×NameKind).1 == some .cell)=true then (((n,c):Str×NameKind).1,cD) else (((n,c):Str×NameKind).1,((n,c):Str×NameKind).2))=(n,cD):=if_pos q;rw[hh,K4,if_neg e] at h;exact h
    ·have hh:(if (((n,c):Str×NameKind).2 == bQ && env.scope.kind == .function && env.kindOf ((n,c):Str×NameKind).1 == some .cell)=true then (((n,c):Str×NameKind).1,cD) else (((n,c):Str×NameKind).1,((n,c):Str×NameKind).2))=(n,c):=if_neg q;rw[hh,K4,if_neg e] at h;exact h
   exact T9 h'
theorem a0A {env:Env}{x:Str}:∀ {names:List (Str×NameKind)},names.lookup x=some .free ->
  (names.map λ(y:Str×NameKind)=>if (y.2 == bQ && env.scope.kind == .function && env.kindOf y.1 == some .cell) then (y.1,cD) else (y.1,y.2)).lookup x=some .cell \/
  (names.map λ(y:Str×NameKind)=>if (y.2 == bQ && env.scope.kind == .function && env.kindOf y.1 == some .cell) then (y.1,cD) else (y.1,y.2)).lookup x=some .free
 | [],h=>by cases h
 | (n,c)::r,h=>by
  rw[K4] at h;rw[aH];have red:∀ b:Bool,(if b=true then (n,cD) else (n,c))=(n,if b=true then cD else c):=λb=>by cases b<;>rfl
  have hh:(if (((n,c):Str×NameKind).2 == bQ && env.scope.kind == .function && env.kindOf ((n,c):Str×NameKind).1 == some .cell)=true then (((n,c):Str×NameKind).1,cD) else (((n,c):Str×NameKind).1,((n,c):Str×NameKind).2))=(n,if (c == bQ && env.scope.kind == .function && env.kindOf n == some .cell)=true then cD else c):=red _;rw[hh,K4];by_cases e:x=n
  ·rw[if_pos e] at h ⊢;cases h;generalize (bQ == bQ && env.scope.kind == .function && env.kindOf n == some .cell)=b;cases b
   ·right;rfl
   ·left;rfl
  ·rw[if_neg e] at h ⊢;exact a0A h
theorem a5k (I:Inv X pins σ H s)(hc:a2u scope X.env.scope)(hcalm:X.calm=true)(hf:∀ b∈fp,W6 X pins H b)(hlt:∀ b∈fp,b<s.heap.objs.size)(hfr:a4c X scope fr){h1:Heap}{m:Str->Option Value}(hns:h1.Ns s.heap.objs.size m)
  (hsb:∀ b o,s.heap.get? b=some o->h1.get? b=some o):Inv (cxC X scope (own++fr.map (·.1)) pins fp s H) [] (st0 own fr σ) H {s with heap:=h1}:=by
 have clX:∀ x c,(clo X.env scope.names []).lookup x=some c->X.env.cells.lookup x=some c:=λx c e=>by
  rw[X6] at e;split at e
  ·rename_i q;obtain⟨y,hy,hq⟩:=List.any_eq_true.mp q;rw[bU] at hq;have e1:y.1=x:=of_decide_eq_true hq.1;have e2:y.2=.free:= ~~~hq.2
   obtain⟨c',hc'⟩:=I.ok.has x (by
    have:=hc.free y hy e2;rw[e1] at this
    exact this)
   rw[hc'] at e ⊢;exact e
  ·cases e
 have hlen:∀ b∈frs X.stack,b≠s.heap.objs.size/\b∈X.env.locals::X.fs:=λb hb=>by
  have hm:=I.stkSub b hb;refine⟨λz=>?_,hm⟩;rcases aJ.mp hm with q | q
  ·have:=I.lt;rw[<- q,z] at this;exact dr _ this
  ·exact I.nofs (ge z.symm) q
 have ok:(cxC X scope (own++fr.map (·.1)) pins fp s H).Ok :=
  {mod:=I.ok.mod
   kind:=hc.kind
   glob:=I.ok.glob
   blt:=I.ok.blt
   above:=aC _
   inj:=λx y c hx hy=>I.ok.inj x y c (clX x c hx) (clX y c hy)
   has:=λx hx=>by
    have hx:(relabel scope X.env).names.lookup x=some .cell\/(relabel scope X.env).names.lookup x=some .free:=hx;have key:scope.names.lookup x=some .free:=by
     rcases hx with hx | hx
     ·obtain⟨k',e1,e2⟩:=T9 hx;rcases e2 with e2 | ⟨e2,_⟩
      ·subst e2;exact absurd rfl (hc.noCell (x,.cell) (S3 e1))
      ·subst e2;exact e1
     ·obtain⟨k',e1,e2⟩:=T9 hx;rcases e2 with e2 | ⟨e2,e3⟩
      ·subst e2;exact e1
      ·cases e3
    have hm:=S3 key;refine⟨(X.env.cells.lookup x).getD 0,?_⟩;show (clo X.env scope.names []).lookup x=_;rw[X6,if_pos (eY.mpr ⟨(x,.free),hm,by simp⟩)]
   cab:=λx c h=>nomatch h
   hd:=λ_=>I.ok.hd hcalm
   frames:=I.ok.frames
   stk:=.inl rfl
   exf:=λb hb=>⟨aU (hlt b hb),λx c e=>(hf b hb).2.2.2.2.1 x c (clX x c e)⟩
   bs:=I.bs
   bsz:=bH I.ok.bsz I.sz
   noex:=λb o e hb=>by
    rcases (hf b hb).2.2.2.1 with q | q
    ·exact I.ok.noex b o e q
    ·have h1:b<X.base.objs.size:=aE e;have h2:=I.ok.bsz;exact absurd (bB h1 h2) (Nat.not_lt.mpr q)
   exfs:=λb hb hm=>by
    have hm:=I.stkSub b hm;rcases aJ.mp hm with q | q
    ·exact (hf b hb).2.1 q
    ·exact (hf b hb).2.2.1 q
   funs:=I.stack
   frf:=I.stkFree}
 refine⟨ok,rfl,I.bare,Un.kept hsb,⟨m,hns,λi x v hx hv hvis=>?_⟩,λx c e=>?_,I.fresh,λx c e=>I.freeC x c (clX x c e),λp hp=>?_,I.hok.kept hsb,?_⟩
 ·-- the names
  have hi:own.length<=i:=by
   rcases cv i own.length with h | h
   ·unfold st0 at hv;rw[bj (~~~h),aF] at hv;cases e:own[i]? with
    | none=>rw[e] at hv;cases hv
    | some z=>rw[e] at hv;cases hv
   ·exact h
  have hx:(own++fr.map (·.1))[i]?=some x:=hx;unfold st0 at hv;rw[bP (~~~hi),aF] at hv;rw[bP hi,aF] at hx;rw[ae] at hv;cases e:fr[i-own.length]? with
  | none=>rw[e] at hx;cases hx
  | some p =>
   rw[e] at hx hv;have ex:p.1=x:=aP hx;have ev:(σ[p.2]?).join=some v:=aP hv;obtain⟨hN,hfree⟩:=hfr p (ca.mpr ⟨_,e⟩);rw[ex] at hN hfree;have hk:=hc.free (x,.free) (S3 hfree) rfl;have hσ:σ[p.2]?=some (some v):=by
    cases q:σ[p.2]? with
    | none=>rw[q] at ev;cases ev
    | some o=>rw[q] at ev;exact congrArg some ev
   obtain⟨mX,nX,lX⟩:=I.loc;obtain⟨u,ru,look⟩:=lX p.2 x v hN hσ (.inr hk);refine⟨u,ru,.inr ⟨a0A hfree,?_⟩⟩;rcases look with ⟨k1,_⟩ | ⟨_,c,hcc,hcell⟩
   ·exfalso;have k1:X.env.scope.names.lookup x=some .local:=k1;rcases hk with q | q<;>(rw[k1] at q;cases q)
   ·refine⟨c,?_,?_⟩
    ·show (clo X.env scope.names []).lookup x=_;rw[X6,if_pos (eY.mpr ⟨(x,.free),S3 hfree,by simp⟩),hcc];rfl
    ·exact hcell.keeps hsb
 ·obtain⟨v,hv⟩:=I.cell x c (clX x c e);exact⟨v,hv.keeps hsb⟩
 ·have hp:p∈X.pn++pins:=by
   rcases aj.mp hp with q | q
   ·exact q
   ·cases q
  obtain⟨a1,a2,a3,a4,a5⟩:=I.pin p hp;refine⟨hsb _ _ a1,a2,aU (aE a1),λhm=>?_,a5⟩;have hm:=I.stkSub _ hm;rcases aJ.mp hm with q | q
  ·exact a3 q
  ·exact a4 q
 ·show (st0 own fr σ).length=(own++fr.map (·.1)).length;unfold st0;rw[ak,ak,ae,ae,ae]
end
end L2
namespace L2
open PySem PySem.Spec PyProof.Rows
def PTs (X:Cx)(ifs:List Expr)(t:TT):Prop :=
 ∀(pins:List (Addr×Obj)) (s:Shared) (σ:St) (H:Hp) (Q:Bool->Hp->Prop),Inv X pins σ H s->t σ H Q ->
  wpAny (model X.prog X.w) X.A (forIn ifs true λc r=>if r=true then do let ok <- isTrue c X.env (eval c X.env);pure (b8 ok) else pure (b8 r)) (TP X pins σ Q) X.xe s
def b3q:TT:=λ_ H Q=>Q true H
theorem J9 {X:Cx}:PTs X [] b3q:=λpins s σ H Q I h=>wpAny_tests_nil ⟨H,I,h⟩
theorem M8 {X:Cx}{c:Expr}{t:TT}(h:PT X c t):PTs X [c] t:=λpins s σ H Q I q=>wpAny_tests_one (h pins s σ H Q I q)
theorem a5L {prog:Program}{w:World}{A:Around}{R:Result->Shared->Prop}{s:Shared}{elt target iter:Expr}{ifs:List Expr}{scope:Scope}{pos:Pos}{it acc:Value}{env:Env}(I:Nat->Shared->Prop)
  (turn:∀ n s,I n s->wpAny (model prog w) A (pyNext it) (λr ss=>match r with
   | none=>R (.ok .next) ss
   | some v=>wpAny (model prog w) A (letOwnedTupleGo target it v) (λ_ ss=>wpAny (model prog w) A (assign target env v) (λ_ sk =>
     wpAny (model prog w) A (forIn ifs true λc r=>if r=true then do let ok <- isTrue c env (eval c env);pure (b8 ok) else pure (b8 r)) (λok sw =>
      if ok=true then wpAny (model prog w) A (eval elt env) (λx sq =>
       wpAny (model prog w) A (call (.builtin "list.append") [acc,x]) (λ_ sv=>∃ m,m<n/\I m sv) (λ_ _=>False) sq) (λ_ _=>False) sw
      else ∃ m,m<n/\I m sw) (λ_ _=>False) sk) (λ_ _=>False) ss) (λ_ _=>False) ss) (λ_ _=>False) s)
  (n:Nat) (h:I n s):codeAny (model prog w) A (.compLoop (.ListComp elt [⟨target,iter,ifs,0⟩] scope pos) 0 it acc env) R s:=by
 refine codeAny_loop rfl I (λn s hI=>?_) n h;show wpAny _ A ((compTurn (.ListComp elt [⟨target,iter,ifs,0⟩] scope pos) 0 it acc env).onRaise (λx=>do noteFrame x env;theTreesLotGoes x)) _ _ s;refine wpAny_noted ?_;rw[compTurn_list];refine af (fD (af (cH (turn n s hI) (λr ss h₁=>?_) λ_ _ h'=>h'.elim)));cases r with
 | none=>exact ao h₁
 | some v =>
  refine af (cH h₁ (λ_ ss h₁=>?_) λ_ _ h'=>h'.elim);refine af (cH h₁ (λ_ sk h₂=>af (cH h₂ (λok sw h₃=>?_) λ_ _ h'=>h'.elim)) λ_ _ h'=>h'.elim);cases ok with
  | false=>exact ao ⟨rfl,h₃⟩
  | true =>
   exact af (af (cH h₃ (λx sq h₄=>af (cH h₄ (λ_ sv h₅=>ao (ao ⟨rfl,h₅⟩)) λ_ _ h'=>h'.elim)) λ_ _ h'=>h'.elim))
def lcW (g:TG)(tc:TT)(te:TE)(p:Addr)(J:It)(τ0:St)(H0:Hp)(E:Hp->Prop):Prop :=
 ∃ W:Nat->Nat->St->Hp->Prop,(∃ m,W 0 m τ0 H0)/\∀ i m τ H,W i m τ H ->
  (J.stop i H/\E H)\/(J.go i H/\∃ N:St->Hp->Prop,(∀ τ' H',N τ' H'->∃ m',m'<m/\W (i+1) m' τ' H') /\
   ∀ x H',J.yld i H x H'->g x τ H' fun τ2 H2=>tc τ2 H2 λb H3=>if b=true then te τ2 H3 λv H4=>∃ ys,H4 p=some (.lst ys)/\ys.length<sizeLine/\N τ2 (upd H4 p (.lst (ys++[v]))) else N τ2 H3)
def tLC (own:List Str)(fr:List (Str×Nat))(wi:TI)(g:TG)(tc:TT)(te:TE):TE:=fun σ H Q =>
 wi σ H λJ H1=>∀ p,H1 p=none->lcW g tc te p J (st0 own fr σ) (upd H1 p (.lst [])) λH2=>Q (.ref p) H2
section
variable {X:Cx}{elt tg iter:Expr}{ifs:List Expr}{scope:Scope}{pos:Pos}{own:List Str}{fr:List (Str×Nat)}{wi:TI}{g:TG}{tc:TT}{te:TE}
structure Blk (X:Cx)(scope:Scope)(N':List Str)(tg:Expr)(ifs:List Expr)(elt:Expr)(g:TG)(tc:TT)(te:TE):Prop where
 run:∀ pins fp s H,PG (cxC X scope N' pins fp s H) tg g/\PTs (cxC X scope N' pins fp s H) ifs tc/\PE (cxC X scope N' pins fp s H) elt te
structure a2v (X:Cx)(pins:List (Addr×Obj))(H:Hp)(C:Addr):Prop where
 un:H C=none
 loc:C≠X.env.locals
 new:X.sj.heap.objs.size<=C
 cel:∀ x c,X.env.cells.lookup x=some c->c≠C
 pin:∀ p∈X.pn++pins,p.1≠C
theorem a2v.inv {pins:List (Addr×Obj)}{σ:St}{H:Hp}{s:Shared}{C:Addr}{h':Heap}(f:a2v X pins H C)(I:Inv X pins σ H s)(hs:cj C s.heap h'):Inv X pins σ H {s with heap:=h'} :=
 I.turned (t':=s.toks) (λb o hb e=>hs.extBut b o hb e) f.un f.loc (.inr f.new) f.cel f.pin
theorem a3m {pins:List (Addr×Obj)}{σ:St}{H2:Hp}{s2:Shared}{it:Addr}{fp:List Addr}{tn:Nat->Heap->Prop}{J:It}{EE:Hp->Prop}{RR:Value->Addr->Result->Shared->Prop}{E:Value->Shared->Prop}
  (hcalm:X.calm=true) (hc:a2u scope X.env.scope) (hfr:a4c X scope fr) (B:Blk X scope (own++fr.map (·.1)) tg ifs elt g tc te)
  (I2:Inv X pins σ H2 s2) (T:a2G X.prog X.w X.K tg J fp it tn) (st2:tn 0 s2.heap) (f2:∀ b∈fp,W6 X pins H2 b)
  (hw:lcW g tc te s2.heap.objs.size J (st0 own fr σ) (upd H2 s2.heap.objs.size (.lst [])) EE)
  (hRR:∀ C H' s' m,EE H'->s'.heap.Ns C m->Inv X pins σ H' s'->a2v X pins H' C->RR (.ref s2.heap.objs.size) C (.ok .next) s') :
  wpAny (model X.prog X.w) X.A (newList []) (λacc sw=>wpAny (model X.prog X.w) X.A (newFunctionEnv scope X.env.globals (clo X.env scope.names []) [] X.env.qual none .none (some X.env)) (λcenv sq =>
   codeAny (model X.prog X.w) X.A (.compStart (.ListComp elt [⟨tg,iter,ifs,0⟩] scope pos) 0 (.ref it) acc {cenv with scope:=relabel scope X.env}) (RR acc cenv.locals) sq) E sw) E s2:=by
 have I3:Inv X pins σ (upd H2 s2.heap.objs.size (.lst [])) {s2 with heap:=s2.heap.push {cls:=.type "list",data:=.seq ([]:List Value).toArray},toks:=s2.toks}:=I2.lnew (ys:=[]) (its:=[]) (t':=s2.toks) .nil (bo _);generalize hs3:({s2 with heap:=s2.heap.push {cls:=.type "list",data:=.seq ([]:List Value).toArray},toks:=s2.toks}:Shared)=s3 at I3;have hsz3:s3.heap.objs.size=s2.heap.objs.size+1:=by rw[<- hs3];exact cV ..
 have k3:∀ b o,s2.heap.get? b=some o->s3.heap.get? b=some o:=λb o e=>by rw[<- hs3];exact am _ e
 have hlt:∀ b∈fp,b<s2.heap.objs.size:=λb hb=>let ⟨o,e,_⟩:=T.obj _ _ st2 b hb;aE e
 have f3:∀ b∈fp,W6 X pins (upd H2 s2.heap.objs.size (.lst [])) b:=λb hb=>⟨by rw[B3 (aU (hlt b hb))];exact (f2 b hb).1,(f2 b hb).2⟩
 have st3:tn 0 s3.heap:=T.keep _ _ _ st2 λb _ o e=>k3 b o e
 refine bZ ?_;have e3:({s2 with heap:=s2.heap.push {cls:=.type "list",dict:=none,data:=.seq ([]:List Value).toArray}}:Shared)=s3:=hs3;rw[e3];refine kf hc.noCell (by intro y hy;cases hy) (λh₁ hnsz hsbz=>?_) hc.kind;have k4:∀ b o,s3.heap.get? b=some o->h₁.get? b=some o:=λb o e=>hsbz.extBut b o (aU (aE e)) (am _ e)
 have I4:=a5k (own:=own) I3 hc hcalm f3 (λb hb=>bB (hlt b hb) (by rw[hsz3];exact fW _)) hfr hnsz k4;obtain⟨bg,bt,be⟩:=B.run pins fp s3 (upd H2 s2.heap.objs.size (.lst []));generalize hX':cxC X scope (own++fr.map (·.1)) pins fp s3 (upd H2 s2.heap.objs.size (.lst []))=X' at I4 bg bt be;have eP:X'.prog=X.prog:=by rw[<- hX'];rfl
 have eW:X'.w=X.w:=by rw[<- hX'];rfl
 have eK:X'.K=X.K:=by rw[<- hX'];rfl
 have eA:X'.A=X.A:=by rw[<- hX'];rfl
 have eC:X'.calm=true:=by rw[<- hX'];rfl
 have eX:X'.xe=λ_ _=>False:=by rw[<- hX'];rfl
 have eE:X'.env=compEnvC scope (clo X.env scope.names []) s3.heap.objs.size X.env:=by rw[<- hX'];rfl
 have fC:∀ {H':Hp},(∀ b∈fp,H' b=none)->∀ b∈fp,W6 X' [] H' b:=λhn b hb=>by
  have hb':=f3 b hb;refine⟨hn b hb,?_,?_,?_,?_,?_⟩
  ·exact (I4.ok.exf b (by rw[<- hX'];exact hb)).1
  ·exact I4.ok.exfs b (by rw[<- hX'];exact hb)
  ·left;rw[<- hX'];exact hb
  ·exact (I4.ok.exf b (by rw[<- hX'];exact hb)).2
  ·intro p hp;have hp:p∈X.pn++pins:=by
    rw[<- hX'] at hp;rcases aj.mp hp with q | q
    ·exact q
    ·cases q
   exact hb'.2.2.2.2.2 p hp
 obtain⟨W,⟨m0,w0⟩,turn⟩:=hw;have cenvE:({(newEnv scope s3.heap.objs.size X.env.globals (clo X.env scope.names []) X.env.qual none .none (some X.env) builtinsNs) with scope:=relabel scope X.env}:Env)=X'.env:=by rw[eE];rfl
 have loop:∀ s4:Shared,Inv X' [] (st0 own fr σ) (upd H2 s2.heap.objs.size (.lst [])) s4->tn 0 s4.heap ->
   codeAny (model X.prog X.w) X.A (.compLoop (.ListComp elt [⟨tg,iter,ifs,0⟩] scope pos) 0 (.ref it) (.ref s2.heap.objs.size) X'.env) (RR (.ref s2.heap.objs.size) s3.heap.objs.size) s4:=by
  intro s4 J4 t4;refine a5L (λn s'=>∃ i τ H',Inv X' [] τ H' s'/\tn i s'.heap/\(∀ b∈fp,H' b=none)/\W i n τ H') ?_ m0 ⟨0,_,_,J4,t4,λb hb=>(f3 b hb).1,w0⟩;rintro n s5 ⟨i,τ5,H5,I5,t5,fr5,w5⟩;rcases turn i n τ5 H5 w5 with ⟨stop,qn⟩ | ⟨go,N,hN,step⟩
  ·have hd:=T.done X' eP eW eK eC i [] s5 τ5 H5 (λ_ _=>False) I5 (fC fr5) t5 stop;rw[eA] at hd;refine thn hd λr s6 ⟨hr,I6⟩=>?_
   subst hr;have hbase:Un (frs X.stack) fp (upd H2 s2.heap.objs.size (.lst [])) H5 s3.heap s6.heap:=by have:=I6.base;rw[<- hX'] at this;exact this
   have hok6:HOk X.prog X.w H5 s6.heap:=by have:=I6.hok;rw[eP,eW] at this;exact this
   have os6:s6.os=s3.os:=by have:=I6.os;rw[<- hX'] at this;exact this
   obtain⟨m6,n6,_⟩:=I6.loc;have n6:s6.heap.Ns s3.heap.objs.size m6:=by rw[eE] at n6;exact n6
   have free6:H5 s3.heap.objs.size=none:=by have:=I6.free;rw[eE] at this;exact this
   refine hRR s3.heap.objs.size H5 s6 m6 qn n6 (I3.call' os6 hbase hok6 I6.bare λb hb=>⟨(f3 b hb).2.2.2.1,(f3 b hb).2.1,(f3 b hb).2.2.2.2.1,(f3 b hb).2.2.2.2.2⟩) ⟨free6,?_,I3.sz,?_,?_⟩
   ·exact (aU I3.lt).symm
   ·intro x c e z;obtain⟨v,hv⟩:=I3.cell x c e;have:=hv.lt;rw[z] at this;exact dr _ this
   ·intro p hp z;have:=aE (I3.pin p hp).1;rw[z] at this;exact dr _ this
  ·have hi:=T.item X' eP eW eK eC i [] s5 τ5 H5 (λ_ _=>False) I5 (fC fr5) t5 go;rw[eA] at hi;refine thn hi λr s6 ⟨u,hr,h6⟩=>?_
   subst hr;refine thn h6 λ_ s7 ⟨x,H7,I7,r7,y7,t7,fr7⟩=>?_
   have I7':=I7.pinned (fC fr7) (T.obj _ _ t7);have again:∀ {τ:St} {H':Hp} {s':Shared},Inv X' ([]++a0Z fp s7.heap) τ H' s'->N τ H'->∃ m,m<n/\∃ i τ H',Inv X' [] τ H' s'/\tn i s'.heap/\(∀ b∈fp,H' b=none)/\W i m τ H':=λ{τ H' s'} I8 n8=>by
    obtain⟨m',hm,w8⟩:=hN τ H' n8;refine⟨m',hm,i+1,τ,H',I8.unpinned,T.keep _ _ _ t7 λb hb o e=>(I8.pin (b,o) (aN _ (aN _ (R7 hb e)))).1,λb hb=>?_,w8⟩;obtain⟨o,e,d⟩:=T.obj _ _ t7 b hb;exact (I8.pin (b,o) (aN _ (aN _ (R7 hb e)))).2.1
   have hg:=bg _ s7 τ5 H7 x u _ I7' r7 (step x H7 y7);rw[eP,eW,eA,eX] at hg;refine thn hg λ_ s8 ⟨τ8,H8,I8,q8⟩=>?_
   have ht:=bt _ s8 τ8 H8 _ I8 q8;rw[eP,eW,eA,eX] at ht;refine thn ht λok s9 ⟨H9,I9,q9⟩=>?_
   cases ok with
   | false=>exact again I9 q9
   | true =>
    rw[if_pos rfl] at q9 ⊢;have hv:=be _ s9 τ8 H9 _ I9 q9;rw[eP,eW,eA,eX] at hv;refine thn hv λy s10 ⟨v,H10,I10,r10,ys,hl,hlen,n10⟩=>?_
    have ha:=a1e (X:=X') _ s10 τ8 H10 (.ref s2.heap.objs.size) [v] (.ref s2.heap.objs.size) [y] (λ_ H'=>N τ8 H') I10 rfl (.cons r10 .nil) ⟨_,_,_,rfl,rfl,hl,hlen,n10⟩;rw[eP,eW,eA,eX] at ha;exact thn ha λ_ s11 ⟨_,H11,I11,_,n11⟩=>again I11 n11
 have st4:tn 0 h₁:=T.keep _ _ _ st3 λb _ o e=>k4 b o e
 show codeAny (model X.prog X.w) X.A (.compStart (.ListComp elt [⟨tg,iter,ifs,0⟩] scope pos) 0 (.ref it) (.ref s2.heap.objs.size) ({(newEnv scope s3.heap.objs.size X.env.globals (clo X.env scope.names []) X.env.qual none .none (some X.env) builtinsNs) with scope:=relabel scope X.env}:Env)) (RR (.ref s2.heap.objs.size) s3.heap.objs.size) _;rw[cenvE];exact codeAny_compStart_list (loop _ I4 st4) (T.self X.A 0 _ _ _ st4 (loop _ I4 st4))
theorem a5U {pins:List (Addr×Obj)}{σ:St}{H:Hp}{s:Shared}(I:Inv X pins σ H s)(hc:a2u scope X.env.scope):closureFor scope X.env=pure (clo X.env scope.names []) :=
 a5s λy hy e=>I.ok.has y.1 (hc.free y hy e)
theorem J8 (hcalm:X.calm=true)(hc:a2p scope X.env.scope=true)(hfr:a4c X scope fr)(hi:PI X tg iter wi)(B:Blk X scope (own++fr.map (·.1)) tg ifs elt g tc te)
  (hs:∀ x,foldedSetIterable iter X.env x=pure x:=by intro _;rfl):PE X (.ListComp elt [⟨tg,iter,ifs,0⟩] scope pos) (tLC own fr wi g tc te):=by
 intro pins s σ H Q I h;have hc:=a1i hc;rw[eval_ListComp];refine gD (use:=none) rfl hs (a5U I hc) hc.kind hc.loc (thn (hi pins s σ H _ I h) λv s1 h1=>thn h1 λitv s2 h2=>?_);obtain⟨it,fp,tn,J,H2,e,I2,T,st2,f2,hw⟩:=h2;subst e;refine a3m (RR:=λacc C=>compPost (model X.prog X.w) X.A X.xe none (EP X pins σ Q) acc C) hcalm hc hfr B I2 T st2 f2 (hw _ I2.fresh) ?_;intro C H' s' m q n I' f;exact⟨m,n,λh' hs'=>⟨.ref s2.heap.objs.size,H',f.inv I' hs',rfl,q⟩⟩
theorem L0 {i:Nat}{x:Str}{px spos:Pos}(hcalm:X.calm=true)(hN:X.N.Nodup)(hx:X.N[i]?=some x)(hl:X.env.scope.names.lookup x=some .local)(hsw:swapsWith (.ListComp elt [⟨tg,iter,ifs,0⟩] scope pos) (some (.Name x px)) spos.line X.env=pure true)
  (hc:a2p scope X.env.scope=true) (hfr:a4c X scope fr) (hi:PI X tg iter wi) (B:Blk X scope (own++fr.map (·.1)) tg ifs elt g tc te)
  (hs:∀ x,foldedSetIterable iter X.env x=pure x:=by intro _;rfl):PS X (.Assign [.Name x px] (.ListComp elt [⟨tg,iter,ifs,0⟩] scope pos) spos) (a9D (tLC own fr wi g tc te) (Q3 i)):=by
 intro pins s σ H D I h;have hc:=a1i hc;rw[exec_Assign_Name_used _ _ _ _ hsw];refine af (fD (af ?_));show wpAny _ X.A (do let _ <- comprehension (.ListComp elt [⟨tg,iter,ifs,0⟩] scope pos) scope X.env _ (newList []) false (eval iter X.env) (some (assign (.Name x px) X.env))) _ _ s
 refine af (cH (gD (use:=some (assign (.Name x px) X.env)) (Q:=λ_ s'=>SP X pins D .next s') rfl hs (a5U I hc) hc.kind hc.loc
  (thn (hi pins s σ H _ I h) λv s1 h1=>thn h1 λitv s2 h2=>?_)) (λ_ s' hq=>ao (ao hq)) λ_ _ e=>e)
 obtain⟨it,fp,tn,J,H2,e,I2,T,st2,f2,hw⟩:=h2;subst e;refine a3m (RR:=λacc C=>compPost (model X.prog X.w) X.A X.xe (some (assign (.Name x px) X.env)) (λ_ s'=>SP X pins D .next s') acc C) hcalm hc hfr B I2 T st2 f2 (hw _ I2.fresh) ?_;intro C H' s' m q n I' f;show wpAny _ X.A (assign (.Name x px) X.env (.ref s2.heap.objs.size)) _ _ _;refine kq (a2M I' hN hx (.inl hl) (v:=.ref s2.heap.objs.size) rfl (λs'' I'' hch=>?_) (.inr hl));obtain⟨a,sb,ha⟩:=hch;have hCa:C≠a:=by
  rcases ha with ha | ha
  ·rw[ha];exact f.loc
  ·exact λz=>f.cel x a ha z.symm
 exact⟨m,n.sameBut sb hCa,λh' hs'=>⟨_,H',f.inv I'' hs',q⟩⟩
end
end L2
namespace L2
open PySem PySem.Spec PyProof.Rows
def b4j:Bool->HO
 | true=>.dT []
 | false=>.dK []
def dcW (g:TG)(tc:TT)(te tv:TE)(p:Addr)(J:It)(τ0:St)(H0:Hp)(E:Hp->Prop):Prop :=
 ∃ W:Nat->Nat->St->Hp->Prop,(∃ m,W 0 m τ0 H0)/\∀ i m τ H,W i m τ H ->
  (J.stop i H/\E H)\/(J.go i H/\∃ N:St->Hp->Prop,(∀ τ' H',N τ' H'->∃ m',m'<m/\W (i+1) m' τ' H') /\
   ∀ x H',J.yld i H x H'->g x τ H' fun τ2 H2=>tc τ2 H2 λb H3=>if b=true then te τ2 H3 λk H4=>tv τ2 H4 λv H5=>∃ H6,a4p H5 p k v H6/\N τ2 H6 else N τ2 H3)
def tDC (t:Bool)(own:List Str)(fr:List (Str×Nat))(wi:TI)(g:TG)(tc:TT)(te tv:TE):TE:=fun σ H Q =>
 wi σ H λJ H1=>∀ p,H1 p=none->dcW g tc te tv p J (st0 own fr σ) (upd H1 p (b4j t)) λH2=>Q (.ref p) H2
end L2
end
section
namespace Srt
open PySem PyProof.Rows
section
variable {prog:Program}{w:World}{A:Around}{E:Value->Shared->Prop}{s:Shared}{O:KeyOrd}{key:Value->O.α}{knd:SortKind}
def Asks (prog:Program)(w:World)(A:Around)(O:KeyOrd)(key:Value->O.α)(knd:SortKind)(vs:List Value)(s:Shared):Prop :=
 (2<=vs.length->∀(E:Value->Shared->Prop) (Q:SortKind->Shared->Prop),Q knd s->wpAny (model prog w) A (keyKind' vs.toArray) Q E s) /\
 ∀ x∈vs,∀ y∈vs,∀(E:Value->Shared->Prop) (Q:Bool->Shared->Prop),Q (O.blt (key x) (key y)) s->wpAny (model prog w) A (keyLt' knd x y) Q E s
theorem mem_pairs {vs:List Value}{p:Keyed}(h:p∈(pairsOf vs).toList):p.1∈vs/\p.1=p.2:=by
 rw[pairsOf_toList] at h;obtain⟨i,hi⟩:=ca.mp h;rw[dH] at hi;refine⟨ca.mpr ⟨i,hi.1⟩,?_⟩;have:=hi.1.symm.trans hi.2;exact aP this
theorem cmp_of {vs:List Value}(h:Asks prog w A O key knd vs s):Ts.Cmp (model prog w) A E s knd O (λp=>key p.1) (pairsOf vs):=by
 intro p hp q hq st Q hk hQ;rw[lt'_eq];refine aB (gu ?_);rw[hk];refine aB (wpS_lift (fH (h.2 p.1 (mem_pairs hp).1 q.1 (mem_pairs hq).1 _ _ ⟨rfl,?_⟩)));exact aA hQ
theorem out_of {vs:List Value}{xs:Array Keyed}(hp:xs.Perm (pairsOf vs))(hs:Ts.Seg (O:=O) (λp=>key p.1) xs 0 (pairsOf vs).size) :
  (xs.map (·.2)).toList.Perm vs/\(xs.map (·.2)).toList.Pairwise λx y=>O.kle (key x) (key y):=by
 have hp':=iV.mp hp;have hsz:xs.size=(pairsOf vs).size:=hp.size_eq;rw[Array.toList_map];refine⟨?_,?_⟩
 ·refine (hp'.map _).trans ?_;rw[pairsOf_toList,show (vs.zip vs).map (·.2)=vs from List.map_snd_zip (aC _)]
 ·rw[bT];rw[<- hsz] at hs;refine (Ts.pw_of_seg hs).imp_of_mem λ{a b} ha hb hab=>?_
  have e1:=(mem_pairs (hp'.mem_iff.mp ha)).2;have e2:=(mem_pairs (hp'.mem_iff.mp hb)).2;rw[<- e1,<- e2];exact hab
theorem list_sort_any {a:Addr}{vs:List Value}{n:Nat}{P:Fin->Shared->Prop}(ho:s.heap.get? a=some (seqObj "list" vs.toArray n))(hz:vs.length<=sizeLine)
  (hA:∀ s':Shared,(∀ b o,b≠a->s.heap.get? b=some o->s'.heap.get? b=some o)->Asks prog w A O key knd vs s')
  (h:∀ out:Array Value,out.toList.Perm vs->(out.toList.Pairwise λx y=>O.kle (key x) (key y))->P (.done (.ret .none)) {s with heap:=sortedHeap s.heap a vs out}) :
  wpAny (model prog w) A (Builtin.«list.sort» ⟨[.ref a],[]⟩) P E s:=by
 rw[list_sort_plain];have ha:a<s.heap.objs.size:=aE ho;have hsz:vs.toArray.size=vs.length:=by simp
 refine af (listItems_at ho rfl ?_);refine af (listUpdate_at ho rfl ?_ (hsz:=by rw[hsz];exact hz));obtain⟨e1,ho1⟩:∃ e1,(s.heap.update a (Obj.mapSeq λ_=>#[])).get? a=some (seqObj "list" #[] e1):=⟨_,get?_update_seq ho (λ_=>#[])⟩
 refine af (seqEpoch_at ho1 rfl ?_);refine af (wpAny_newTuple ?_ (~~~hz));refine af (jU ?_);refine cK ?_;have ho6:(((s.heap.update a (Obj.mapSeq λ_=>#[])).push (seqObj "tuple" vs.toArray 0)).push (seqObj "list" #[] 0)).get? a=some (seqObj "list" #[] e1):=by
  rw[j4 _ _ _ (by rw[size_push',Heap.size_update];exact aU (gn ha)),j4 _ _ _ (by rw[Heap.size_update];exact aU ha)];exact ho1
 have keep:∀ b o,b≠a->s.heap.get? b=some o->(((s.heap.update a (Obj.mapSeq λ_=>#[])).push (seqObj "tuple" vs.toArray 0)).push (seqObj "list" #[] 0)).get? b=some o:=λb o hb e =>
  am _ (am _ ((bY ..).extBut b o hb e))
 show wpAny (model prog w) A _ P E {s with heap:=((s.heap.update a (Obj.mapSeq λ_=>#[])).push (seqObj "tuple" vs.toArray 0)).push (seqObj "list" #[] 0)};dsimp only;have hA':=hA {s with heap:=((s.heap.update a (Obj.mapSeq λ_=>#[])).push (seqObj "tuple" vs.toArray 0)).push (seqObj "list" #[] 0)} keep;by_cases h2:vs.toArray.size<2
 ·rw[if_pos h2,if_pos h2];refine af (ao ?_);rw[StateT.run_pure];refine af (ao ?_);dsimp only;refine af (seqEpoch_at ho6 rfl ?_);refine af (listUpdate_at ho6 rfl ?_ (hsz2:=by rw[gR];show (pairsOf vs).size<=_;rw[pairsOf_size];omega));simp only[bne_self_eq_false,aO,if_false]
  have o:=out_of (O:=O) (key:=key) (vs:=vs) (Array.Perm.refl _) (λi j h0 hij hj=>by
   rw[pairsOf_size] at hj;have:i=j:=∅
   subst this;exact cM _)
  exact ao (h _ o.1 o.2)
 ·rw[if_neg h2,if_neg h2];refine af (hA'.1 ∅ _ _ ?_)
  refine af (cH (Ts.wpS_sR (O:=O) (key:=λp=>key p.1) (a₀:=pairsOf vs) (knd:=knd) (st:=fM knd (vs.toArray.zip vs.toArray) #[] 7 none)
   (Q:=λ_ st'=>(arrOf st').Perm (pairsOf vs)/\failedOf st'=none/\Ts.Seg (O:=O) (λp=>key p.1) (arrOf st') 0 (pairsOf vs).size)
   (cmp_of hA') ⟨Array.Perm.refl _,rfl,rfl⟩ rfl (by rw[pairsOf_size];omega) λst' hB hS=>⟨hB.perm,hB.failed,hS⟩) ?_ λ_ _ e=>e)
  rintro⟨⟨⟩,st'⟩ s' ⟨rfl,hp,hf,hs⟩;dsimp only;refine af (seqEpoch_at ho6 rfl ?_);refine af (listUpdate_at ho6 rfl ?_ (hsz2:=by refine bH (ge ((gR ..).trans (hp.size_eq.trans (pairsOf_size _)))) ?_;omega));rw[hf];simp only[bne_self_eq_false,aO,if_false];have o:=out_of hp hs;exact ao (h _ o.1 o.2)
def Coll (prog:Program)(w:World)(A:Around)(r:Addr)(s:Shared)(C:List Value->Prop):Prop :=
 ∀(E:Value->Shared->Prop) (R:List Value->Shared->Prop),(∀(h':Heap) (tk:Nat) (vs:List Value),(∀ b o,s.heap.get? b=some o->h'.get? b=some o)->C vs->R vs {s with heap:=h',toks:=tk})->wpAny (model prog w) A (collect (.ref r)) R E s
theorem sorted_any {r:Addr}{C:List Value->Prop}{Q:Value->Shared->Prop}(hc:Coll prog w A.in1 r s C)(hz:∀ vs,C vs->vs.length<=sizeLine)
  (hA:∀(vs:List Value) (s':Shared),C vs->(∀ b o,s.heap.get? b=some o->s'.heap.get? b=some o)->Asks prog w A.in1.in1 O key knd vs s')
  (h:∀(vs out:List Value) (h1 h':Heap) (tk n:Nat),C vs->out.Perm vs->(out.Pairwise λx y=>O.kle (key x) (key y))->(∀ b o,s.heap.get? b=some o->h1.get? b=some o)->(∀ b o,h1.get? b=some o->h'.get? b=some o) ->
   h'.get? h1.objs.size=some (seqObj "list" out.toArray n)->Q (.ref h1.objs.size) {s with heap:=h',toks:=tk}):wpAny (model prog w) A (call (.builtin "sorted") [.ref r]) Q E s:=by
 refine Calls.call_function_entry kind_sorted plain_sorted entry_sorted (args_sorted1 _) ?_;unfold Builtin.«sorted»;refine af (m:=checkCount "sorted" 1 1 _) (ao ?_);refine af (hc _ _ λh1 tk vs hk hC=>?_);refine af (jU ?_ (by simpa using hz vs hC));have hoL:(h1.push (seqObj "list" vs.toArray 0)).get? h1.objs.size=some (seqObj "list" vs.toArray 0):=aK _ rfl;refine af (cK (cn slot_list_sort ⟨_,hoL,rfl⟩ entry_list_sort (list_sort_any (O:=O) (key:=key) (knd:=knd) hoL (hz vs hC) (λs' hs'=>hA vs s' hC λb o e=>?_) λout hp hs=>⟨_,rfl,?_⟩) (args_list_sort _)))
 ·exact hs' b o (aU (aE (hk b o e))) (am _ (hk b o e))
 ·refine ao ⟨_,rfl,?_⟩;obtain⟨n',hn'⟩:∃ n',(sortedHeap (h1.push (seqObj "list" vs.toArray 0)) h1.objs.size vs out).get? h1.objs.size=some (seqObj "list" out n'):=by
   first | exact sortedHeap_at hoL | exact⟨_,sortedHeap_at hoL⟩
  refine h vs out.toList h1 _ tk n' hC hp hs hk (λb o e=>?_) ?_
  ·have hb:b≠h1.objs.size:=aU (aE e);have hlt:b<(h1.push (seqObj "list" vs.toArray 0)).objs.size:=by rw[size_push'];exact gn (aE e)
   rw[sortedHeap_old hb hlt];exact am _ e
  ·rw[gO];exact hn'
def intOrd:KeyOrd where
 α:=Int
 blt:=λa b=>decide (a<b)
 irrefl:=λa=>by simp
 trans:=λa b c h1 h2=>by simp at *;omega
 negTrans:=λa b c h=>by simp at *;omega
 total:=λa b h1 h2=>by simp at *;omega
def intKey:Value->Int
 | .int i _=>i
 | _=>0
theorem lex_irrefl:∀ a:List Int,HT.lexLt a a=false
 | []=>rfl
 | x::r=>by rw[HT.lexLt_cons,if_pos rfl];exact lex_irrefl r
theorem lex_trans:∀ a b c:List Int,HT.lexLt a b=true->HT.lexLt b c=true->HT.lexLt a c=true
 | [],[],_,h,_=>by cases h
 | [],_::_,[],_,h=>by cases h
 | [],_::_,_::_,_,_=>rfl
 | _::_,[],_,h,_=>by cases h
 | _::_,_::_,[],_,h=>by cases h
 | x::a,y::b,z::c,h1,h2=>by
  rw[HT.lexLt_cons] at h1 h2 ⊢;by_cases e1:x=y
  ·rw[if_pos e1] at h1;subst e1;by_cases e2:x=z
   ·rw[if_pos e2] at h2 ⊢;exact lex_trans a b c h1 h2
   ·rw[if_neg e2] at h2 ⊢;exact h2
  ·rw[if_neg e1] at h1;by_cases e2:y=z
   ·rw[if_pos e2] at h2;subst e2;rw[if_neg e1];exact h1
   ·rw[if_neg e2] at h2;simp at h1 h2;rw[if_neg ∅];simp;omega
theorem lex_total:∀ a b:List Int,HT.lexLt a b=false->HT.lexLt b a=false->a=b
 | [],[],_,_=>rfl
 | [],_::_,h,_=>by cases h
 | _::_,[],_,h=>by cases h
 | x::a,y::b,h1,h2=>by
  rw[HT.lexLt_cons] at h1 h2;by_cases e:x=y
  ·subst e;rw[if_pos rfl] at h1 h2;rw[lex_total a b h1 h2]
  ·rw[if_neg e] at h1;rw[if_neg (λz=>e z.symm)] at h2;simp at h1 h2;omega
def lexOrd:KeyOrd where
 α:=List Int
 blt:=HT.lexLt
 irrefl:=lex_irrefl
 trans:=lex_trans
 negTrans:=λa b c h=>by
  cases h1:HT.lexLt a b with
  | true=>exact .inl rfl
  | false =>
   right;cases h2:HT.lexLt b a with
   | true=>exact lex_trans b a c h2 h
   | false=>rw[<- lex_total a b h1 h2];exact h
 total:=lex_total
theorem asks_ints {vs:List Value}{ns:List Int}(hI:IntsAre vs ns):Asks prog w A intOrd intKey oneType' vs s:=by
 refine⟨λh2 E Q hq=>?_,λx hx y hy E Q hq=>?_⟩
 ·match vs,h2,hI with
  | vq::vz::T8,_,hI=>rw[keyKind_ints hI];exact ao hq
 ·have key:∀ {vs:List Value} {ns:List Int},IntsAre vs ns->∀ x∈vs,∃ i t,x=dO i t:=by
   intro vs ns h;induction h with
   | nil=>intro x hx;cases hx
   | cons n t _ ih =>
    intro x hx;rcases aJ.mp hx with rfl | hx
    ·exact⟨n,t,rfl⟩
    ·exact ih x hx
  obtain⟨i,t,rfl⟩:=key hI x hx;obtain⟨j,u,rfl⟩:=key hI y hy;exact PySem.W.kat_lt_int hq
end
end Srt
namespace Srt
open PySem PyProof.Rows PySem.W
section
variable {prog:Program}{w:World}{A:Around}{E:Value->Shared->Prop}{s:Shared}
def TupInts (h:Heap)(v:Value)(ks:List Int):Prop:=∃ a o items n,v=.ref a/\h.get? a=some o/\o.cls=.type "tuple"/\o.data=.seq items n/\IntsAre items.toList ks/\ks≠[]
theorem TupInts.keep {h h':Heap}{v:Value}{ks:List Int}(t:TupInts h v ks)(k:∀ b o,h.get? b=some o->h'.get? b=some o):TupInts h' v ks :=
 let ⟨a,o,items,n,e,ho,r⟩:=t;⟨a,o,items,n,e,k _ _ ho,r⟩
def tupKey (h:Heap):Value->List Int
 | .ref a=>match h.get? a with
  | some o=>match o.data with
   | .seq items _=>items.toList.map intKey
   | _=>[]
  | none=>[]
 | _=>[]
theorem intKeys_of {us:List Value}{ns:List Int}(h:IntsAre us ns):us.map intKey=ns:=by
 induction h with
 | nil=>rfl
 | cons n t _ ih=>rw[aH,ih];rfl
theorem tupKey_of {h:Heap}{v:Value}{ks:List Int}(t:TupInts h v ks):tupKey h v=ks:=by
 obtain⟨a,o,items,n,rfl,ho,hc,hd,hi,_⟩:=t;simp only[tupKey,ho,hd];exact intKeys_of hi
theorem katlex_ints {b fin:Bool}{Q:Bool->Shared->Prop}:∀ {us:List Value} {ns:List Int} {ws:List Value} {ms:List Int} (i:Nat),IntsAre us ns->IntsAre ws ms->fin=decide (us.length<ws.length)->Q (HT.lexLt ns ms) s ->
  KatLex prog w A b fin Q (us.zip ws) i s
 | _,_,_,_,_,.nil,.nil,hf,hq=>by subst hf;exact hq
 | _,_,_,_,_,.nil,.cons m u h,hf,hq=>by
  subst hf;show Q (decide (0<_)) s;rw[aD,decide_eq_true (fK _)];exact hq
 | _,_,_,_,_,.cons m u h,.nil,hf,hq=>by
  subst hf;show Q (decide (_<0)) s;rw[decide_eq_false (cQ _)];exact hq
 | _,_,_,_,i,.cons n t h,.cons m u k,hf,hq=>by
  rw[fj];refine kat_cons (wpAny_eqBool_int ?_);rw[HT.lexLt_cons] at hq;by_cases e:n=m
  ·rw[if_pos e] at hq;have eb:(n == m)=true:=beq_iff_eq.mpr e;rw[eb];exact kat_yes (katlex_ints (i+1) h k (by rw[hf,aD,aD];simp) hq)
  ·rw[if_neg e] at hq;have eb:(n == m)=false:=beq_eq_false_iff_ne.mpr e;rw[eb];refine kat_no ?_;cases hb:(b && i == 0) with
   | true=>exact oneLt_int hq
   | false=>exact kat_one _ _ (PyProof.Rows.lt_int hq)
theorem katTups_of {h:Heap}:∀ {vs:List Value},(∀ v∈vs,∃ ks,TupInts h v ks)->∃ fs,KatTups h vs fs/\fs.length=vs.length/\∀ f∈fs,∃ i t,f=dO i t
 | [],_=>⟨[],.nil,rfl,λf hf=>nomatch hf⟩
 | v::vs,hv=>by
  obtain⟨fs,k,hl,hf⟩:=katTups_of (vs:=vs) λu hu=>hv u (aI _ hu)
  obtain⟨ks,a,o,items,n,rfl,ho,hc,hd,hi,hne⟩:=hv v aM;obtain⟨i,t,r,e⟩:∃ i t r,items.toList=dO i t::r:=by
   generalize items.toList=l at hi;cases hi with
   | nil=>exact absurd rfl hne
   | cons n t _=>exact⟨n,t,_,rfl⟩
  refine⟨.int i t::fs,.cons ho hc hd ?_ k,by rw[aD,aD,hl],λf hf'=>?_⟩
  ·rw[<- aZ,e];rfl
  ·rcases aJ.mp hf' with rfl | q
   ·exact⟨i,t,rfl⟩
   ·exact hf f q
theorem asks_tups {h:Heap}{vs:List Value}(hv:∀ v∈vs,∃ ks,TupInts h v ks)(hk:∀ b o,h.get? b=some o->s.heap.get? b=some o):Asks prog w A lexOrd (tupKey h) (tuples' true) vs s:=by
 refine⟨λh2 E Q hq=>?_,λx hx y hy E Q hq=>?_⟩
 ·obtain⟨fs,kt,hl,hf⟩:=katTups_of (h:=s.heap) (vs:=vs) λv hm=>let ⟨ks,t⟩:=hv v hm;⟨ks,t.keep hk⟩
  refine kat_kind (T:=.type "int") kt ∅ (λf hm=>?_) (by decide) hq;obtain⟨i,t,rfl⟩:=hf f hm;exact .now
 ·obtain⟨ks,tx⟩:=hv x hx;obtain⟨ms,ty⟩:=hv y hy;rw[tupKey_of tx,tupKey_of ty] at hq;obtain⟨a,o,items,n,rfl,ho,hc,hd,hi,_⟩:=tx.keep hk;obtain⟨a',o',items',n',rfl,ho',hc',hd',hi',_⟩:=ty.keep hk;exact kat_lt ho hd ho' hd' (katlex_ints 0 hi hi' (by simp) hq)
theorem coll_seq {l:Addr}{o:Obj}{c:String}{vs:List Value}{n:Nat}(ho:s.heap.get? l=some o)(hcl:o.cls=.type c)(hcc:c="list"\/c="tuple")(hd:o.data=.seq vs.toArray n)(hsz:vs.length<=sizeLine) :
  Coll prog w A l s λus=>us=vs:=by
 intro E R h;unfold collect;refine af (wpAny_runValue (codeAny_builtin entry_proto_collect' ?_));show wpAny _ _ (newList [] >>= λx=>again (.builtin "list.__iadd__" ⟨[x,.ref l],[]⟩)) _ _ s;refine af (jU (ao ⟨jX _ (by decide +kernel),codeAny_builtin entry_list_iadd' ?_⟩));show wpAny _ _ (Builtin.List.listExtendWith (.ref s.heap.objs.size) (.ref l) (.ref s.heap.objs.size)) _ _ {s with heap:=s.heap.push (seqObj "list" #[] 0)};unfold Builtin.List.listExtendWith;have ho':(s.heap.push (seqObj "list" #[] 0)).get? l=some o:=am _ ho;refine af (gZ (T:=c) ⟨o,ho',hcl⟩ ?_);have ht:(Builtin.List.listSameRef (.ref s.heap.objs.size) (.ref l) || (dA c == dA "list") || (dA c == dA "tuple"))=true:=by
  rcases hcc with rfl | rfl
  ·rw[show (dA "list" == dA "list")=true from rfl];simp
  ·rw[show (dA "tuple" == dA "tuple")=true from rfl];simp
 rw[if_pos ht];refine af (listItems_at ho' hd ?_);refine af (listItems_at (xs:=#[]) (n:=0) (aK _ rfl) rfl ?_);rw[if_neg (by simp)];refine af (listUpdate_at (xs:=#[]) (n:=0) (aK _ rfl) rfl ?_ (bo _) (by show (#[]++vs.toArray).size<=sizeLine+1;simp only[Array.size_append,aQ,cX];omega));refine ao ?_
 show wpAny (model prog w) A (do
   let q <- load s.heap.objs.size
   match q.data with
   | .seq xs _=>pure xs.toList
   | _=>unsupported "internal:collect") R E {s with heap:=(s.heap.push (seqObj "list" #[] 0)).update s.heap.objs.size (Obj.mapSeq (·++vs.toArray))}
 refine af (wpAny_load (get?_update_seq (aK _ rfl) _) ?_);show wpAny _ _ (pure ((#[]:Array Value)++vs.toArray).toList) R E _;rw[show ((#[]:Array Value)++vs.toArray).toList=vs by simp];exact ao (h _ s.toks vs (λb o e=>(bY ..).extBut b o (aU (aE e)) (am _ e)) rfl)
end
end Srt
namespace Srt
open PySem PyProof.Rows PySem.W
section
variable {prog:Program}{w:World}{A:Around}{E:Value->Shared->Prop}{s:Shared}
def RawD (h:Heap)(d:Addr)(es:Array DictEntry)(ep:Nat):Prop:=∃ o,h.get? d=some o/\o.ExactDict/\o.data=.dict es ep
theorem RawD.typeIs {d:Addr}{es:Array DictEntry}{ep:Nat}(r:RawD s.heap d es ep):s.TypeIs (.ref d) "dict":=let ⟨o,ho,hx,_⟩:=r;⟨o,ho,hx.1⟩
theorem RawD.keep {h h':Heap}{d:Addr}{es:Array DictEntry}{ep:Nat}(r:RawD h d es ep)(k:∀ o,h.get? d=some o->h'.get? d=some o):RawD h' d es ep:=let ⟨o,ho,q⟩:=r;⟨o,k _ ho,q⟩
theorem raw_iter {d:Addr}{es:Array DictEntry}{ep:Nat}{Q:Value->Shared->Prop}(hd:(d == sysModules)=false)(r:RawD s.heap d es ep)
  (hQ:Q (.ref s.heap.objs.size) {s with heap:=s.heap.push {cls:=.type "dict_keyiterator",data:=.fields #[.ref d,.int 0 0,.int es.size 0,.int ep 0]}}) :
  wpAny (model prog w) A (pyIter (.ref d)) Q E s:=by
 obtain⟨o,ho,hx,hdat⟩:=id r;have hT:=r.typeIs;refine iZ hT F.slot_dict_iter (cn F.slot_dict_iter hT F.entry_dict_iter ?_ (F.args_dict_iter_1 _));unfold Builtin.«dict.__iter__»;refine af ?_;unfold Builtin.Dict.dictSlotNone;refine af (wpAny_notOrdered_dict hT (ao ?_));show wpAny _ _ (Builtin.Dict.showsAll d >>= _) _ _ s;unfold Builtin.Dict.showsAll;rw[if_neg (by rw[hd];exact aV)];refine af (ao (af (i6 ho hdat (af (jv ho hdat ?_)))));refine af (bZ (ao ⟨_,rfl, "dict_keyiterator",_,⟨_,aK _ rfl,rfl⟩,F.slot_dict_keyiterator_next.lookup,?_⟩));simpa [rawInt] using hQ
theorem raw_next {it d:Addr}{i ep:Nat}{es:Array DictEntry}{Q:Option Value->Shared->Prop}(hit:s.heap.IsKeyIter it d i es.size ep)(r:RawD s.heap d es ep)(hlt:i<es.size)
  (hQ:∀ h',h'.IsKeyIter it d (i+1) es.size ep->cj it s.heap h'->Q (some es[i].key) {s with heap:=h'}):wpAny (model prog w) A (pyNext (.ref it)) Q E s:=by
 obtain⟨o,ho,hc,hd⟩:=id hit;obtain⟨od,hod,hcd,hdd⟩:=id r;unfold pyNext
 refine af (fH (ci (name:=cC "__next__") hit.typeIs eD
  (cn eD hit.typeIs i8 ?_ (iM _))))
 refine af (ao (af (af ?_)));first | refine af (eB hit.typeIs (ao ?_)) | refine af (fu hit.typeIs (ao ?_))
 refine af (ip ho hd ?_);have hown:gt "dict_keyiterator"=false:=by decide
 simp only[hown,aO,if_false];show wpAny _ _ (if (bX d == cJ)=true then _ else _) _ _ s;rw[if_neg (show ¬ ((bX d == cJ)=true) from aV)];refine af (ao (af (i6 hod hdd ?_)));rw[if_neg (by simp)];refine af (ao (af (jv hod hdd ?_)));rw[if_neg (by simp)];refine ao ?_;simp only[show ¬ ((i:Int)<0) from by omega,if_false,bN,aT hlt];refine af ?_;first | refine af (eB hit.typeIs (ao ?_)) | refine af (fu hit.typeIs (ao ?_))
 refine af (kc hit.typeIs ?_);show wpAny _ _ (setField (.ref it) 1 (rawInt ((i:Int)+1)) >>= _) _ _ s;refine af (fh ho hd (by simp) ?_);have hit':(s.heap.update it (ij (·.setIfInBounds 1 (rawInt ((i:Int)+1))))).IsKeyIter it d (i+1) es.size ep :=
  ⟨_,cW _ ho (fJ (db hd _)),(gm ..).trans hc,by rw[db hd];simp[rawInt]⟩
 refine af (cK ?_);refine af (kc (s:={s with heap:=s.heap.update it (ij (·.setIfInBounds 1 (rawInt ((i:Int)+1))))}) hit'.typeIs ?_);show wpAny _ _ (pure es[i].key) _ _ _;exact ao (ao ⟨_,rfl,ao (hQ _ hit' (bY ..))⟩)
theorem raw_end {it d:Addr}{i ep:Nat}{es:Array DictEntry}{Q:Option Value->Shared->Prop}(hh:A.handled=none)(hit:s.heap.IsKeyIter it d i es.size ep)(r:RawD s.heap d es ep)(hge:es.size<=i)
  (hQ:∀ h',iL it s.heap h'->Q none {s with heap:=h'}):wpAny (model prog w) A (pyNext (.ref it)) Q E s:=by
 obtain⟨o,ho,hc,hd⟩:=id hit;obtain⟨od,hod,hcd,hdd⟩:=id r;unfold pyNext
 refine af (fH (ci (name:=cC "__next__") hit.typeIs eD
  (cn eD hit.typeIs i8 ?_ (iM _))))
 refine af (ao (af (af ?_)));first | refine af (eB hit.typeIs (ao ?_)) | refine af (fu hit.typeIs (ao ?_))
 refine af (ip ho hd ?_);have hown:gt "dict_keyiterator"=false:=by decide
 simp only[hown,aO,if_false];show wpAny _ _ (if (bX d == cJ)=true then _ else _) _ _ s;rw[if_neg (show ¬ ((bX d == cJ)=true) from aV)];refine af (ao (af (i6 hod hdd ?_)));rw[if_neg (by simp)];refine af (ao (af (jv hod hdd ?_)));rw[if_neg (by simp)];refine ao ?_;simp only[show ¬ ((i:Int)<0) from by omega,if_false,bN,bM hge];refine af ?_;first | refine af (eB hit.typeIs (ao ?_)) | refine af (fu hit.typeIs (ao ?_))
 show wpAny _ _ (setField (.ref it) 0 .none >>= _) _ _ s;refine af (fh ho hd (by simp) ?_);show wpAny _ _ (newExc (.type "StopIteration") [] >>= _) _ _ _;refine af ?_;simp only[newExc,newTuple];refine af (bZ ?_ (by size_fits));refine af (m:=firstArgMember _ _) (gM (a:=cJ) (by first | rfl | (simp only[firstArgMember];rfl)) ?_);refine bZ ?_ (by size_fits);simp only[raiseNew];refine af (jV ?_);rw[show A.in1.handled=none from hh];refine af (ao (kh ?_));refine af (fU (T:="StopIteration") (b:=true) ⟨_,aK _ rfl,rfl⟩ isSubtype_stop ?_);exact ao (hQ _ (((bY ..).extBut.push _).push _))
theorem raw_walks (hh:A.handled=none)(I d:Addr)(hne:d≠I)(es:Array DictEntry)(ep:Nat) :
  Walks prog w A I [I,d] [I] es.size (λi v=>∃ e,es[i]?=some e/\e.key=v) (λi h=>h.IsKeyIter I d i es.size ep/\RawD h d es ep) where
 sub:=λb hb=>by simp at hb;simp[hb]
 frame:=λ_ _ _ st hk=>⟨st.1.at λo e=>hk I (by simp) o e,st.2.keep λo e=>hk d (by simp) o e⟩
 item:=λi s Q E hi st hQ=>by
  refine raw_next st.1 st.2 hi λh' hit' hs'=>?_
  exact hQ es[i].key h' s.toks ⟨es[i],by simp[hi],rfl⟩ ⟨hit',st.2.keep λo e=>hs'.extBut d o hne e⟩ λb o hb e=>hs'.extBut b o (λh=>hb (by simp[h])) e
 done:=λs Q E st hQ=>raw_end hh st.1 st.2 (aC _) λh' he'=>hQ h' s.toks λb o hb e=>he' b o (λh=>hb (by simp[h])) e
 self:=λ_ _ _ _ st hQ=>wpAny_pyIter_keyiter st.1 hQ
theorem raw_src {d:Addr}{es:Array DictEntry}{ep:Nat}(lo:(d == sysModules)=false):KdlSrc prog w "dict" d d es.size (λi v=>∃ e,es[i]?=some e/\e.key=v) (λh=>RawD h d es ep) where
 type:=λ_ hm=>hm.typeIs
 there:=λ_ hm=>let ⟨_,ho,_⟩:=hm;⟨aE ho,aE ho⟩
 keep:=λ_ _ hm hk=>hm.keep λo e=>hk d (.inl rfl) o e
 notList:=by decide
 notTuple:=by decide
 hint:=λ_ _ _ _ hm hq=>kdl_hint_dict hm.typeIs hq
 iter:=λ_ _ hh hm=>⟨_,_,(λ_ _ hq=>raw_iter lo hm hq),raw_walks hh _ d (let ⟨_,ho,_⟩:=hm;aU (aE ho)) es ep,⟨⟨_,aK _ rfl,rfl,rfl⟩,hm.keep λ_ e=>am _ e⟩⟩
theorem coll_raw {d:Addr}{es:Array DictEntry}{ep:Nat}(hh:A.handled=none)(lo:(d == sysModules)=false)(r:RawD s.heap d es ep)(hz:es.size<=sizeLine):Coll prog w A d s λus=>us=es.toList.map (·.key):=by
 intro E R h;refine kdu_collect (raw_src (ep:=ep) lo) hh r hz λh' tk acc hk hI=>h h' tk acc.toList hk ?_
 apply dw;intro i;rw[aZ,aF,aZ];rcases cv i es.size with hi | hi
 ·have hi':i<acc.size:=by rw[hI.1];exact hi
  obtain⟨e,he,hk⟩:=hI.2 i acc[i] (aT hi');rw[aT hi',he];exact congrArg some hk.symm
 ·rw[bM (by rw[hI.1];exact hi),bM hi];rfl
end
end Srt
namespace L2
open PySem PySem.Spec PyProof.Rows
theorem a0D {α β:Type}{f:α->β}:∀ {l m:List β},l.Perm m->∀ {ps:List α},m=ps.map f->∃ qs:List α,qs.Perm ps/\l=qs.map f:=by
 intro l m h;induction h with
 | nil =>
  intro ps e;cases ps with
  | nil=>exact⟨[],.nil,rfl⟩
  | cons _ _=>cases e
 | @cons x lq lz _ ih =>
  intro ps e;cases ps with
  | nil=>cases e
  | cons p r =>
   rw[aH] at e;injection e with e1 e2
   obtain⟨qs,h1,h2⟩:=ih e2;exact⟨p::qs,h1.cons _,by rw[aH,h2,e1]⟩
 | swap x y l =>
  intro ps e
  match ps,e with
  | p::q::r,e =>
   rw[aH,aH] at e;injection e with e1 e2
   injection e2 with e2 e3
   exact⟨q::p::r,.swap ..,by rw[aH,aH,<- e1,<- e2,<- e3]⟩
 | trans _ _ ih1 ih2 =>
  intro ps e;obtain⟨qs,h1,h2⟩:=ih2 e;obtain⟨rs,h3,h4⟩:=ih1 h2;exact⟨rs,h3.trans h1,h4⟩
theorem Z0 {α:Type}{f:α->Addr}:∀ {ps:List α} {us:List Value},E2 (ps.map λx=>V.ref (f x)) us->us=ps.map λx=>bX (f x)
 | [],_,.nil=>rfl
 | x::r,_,.cons h t=>by
  cases (show _=bX (f x) from h);rw[aH,<- Z0 t]
theorem a0V {α:Type}{f:α->Addr}:∀ ps:List α,E2 (ps.map λx=>V.ref (f x)) (ps.map λx=>bX (f x))
 | []=>.nil
 | x::r=>.cons rfl (a0V r)
theorem a1x:∀ {us:List Value},(∀ u∈us,∃ i t,u=dO i t)->IntsAre us (us.map Srt.intKey)
 | [],_=>.nil
 | u::r,h=>by
  obtain⟨i,t,rfl⟩:=h u aM;exact .cons i t (a1x λv hv=>h v (aI _ hv))
theorem a8V {us:List Value}{ns:List Int}(h:IntsAre us ns):∀ u∈us,∃ i t,u=dO i t:=by
 induction h with
 | nil=>intro x hx;cases hx
 | cons n t _ ih =>
  intro x hx;rcases aJ.mp hx with rfl | hx
  ·exact⟨n,t,rfl⟩
  ·exact ih x hx
def b3h (K:ah)(H:Hp)(p:Addr)(ns:List Int):Prop :=
 SqL K H p (ns.map V.int)\/SqT K H p (ns.map V.int)\/∃ kvs,H p=some (.dK kvs)/\kvs.map (·.1)=ns.map (dN:Int->Key)
section
variable {X:Cx}{pins:List (Addr×Obj)}{σ:St}{H:Hp}{s:Shared}
theorem Inv.collI (I:Inv X pins σ H s){A:Around}(hh:A.handled=none){p:Addr}{ns:List Int}(h:b3h X.K H p ns):Srt.Coll X.prog X.w A p s λus=>IntsAre us ns/\us.length<=sizeLine:=by
 have mono:∀ {vs:List Value},IntsAre vs ns->vs.length<=sizeLine->Srt.Coll X.prog X.w A p s (λus=>us=vs)->Srt.Coll X.prog X.w A p s λus=>IntsAre us ns/\us.length<=sizeLine:=λhi hl c E R k =>
  c E R λh' tk us kp e=>k h' tk us kp (by subst e;exact⟨hi,hl⟩)
 rcases h with h | h | ⟨kvs,h,hk⟩
 ·obtain⟨its,r,pl,hz⟩:=I.list h;obtain⟨o,ho,hc,n,hd⟩:=pl.isList;have hl:its.length<=sizeLine:=by rw[<- r.length];exact hz
  exact mono (a0o r) hl (Srt.coll_seq ho hc (.inl rfl) hd hl)
 ·obtain⟨its,r,pl,hz⟩:=I.tuple h;obtain⟨o,ho,hc,n,hd⟩:=pl;have hl:its.length<=sizeLine:=by rw[<- r.length];exact hz
  exact mono (a0o r) hl (Srt.coll_seq ho hc (.inr rfl) hd hl)
 ·obtain⟨z,lo,vs,rel,o,es,ep,ho,hx,hd,hkeys,hp,hn⟩:=a9i I.hok h;have hl:es.toList.length=kvs.length:=by rw[hp.length,rel.length]
  have key:∀ {l:List DictEntry} {vs:List (Key×Value)} {ns:List Int},Pairs (L1 X.prog X.w) l vs->vs.map (·.1)=ns.map (dN:Int->Key)->IntsAre (l.map (·.key)) ns:=by
   intro l vs ns hp;induction hp generalizing ns with
   | nil =>
    intro e;cases ns with
    | nil=>exact .nil
    | cons _ _=>cases e
   | @cons e kv es kvs h1 h2 _ ih =>
    intro q;cases ns with
    | nil=>cases q
    | cons n r =>
     rw[aH,aH] at q;injection q with q1 q2
     rw[q1] at h1;have hi:Value.isInt n e.key=true:=h1;obtain⟨t,et⟩:=fw hi;rw[aH,et];exact .cons n t (ih q2)
  have hi:=key hp (by rw[<- rel.keys];exact hk);refine mono hi ?_ (Srt.coll_raw hh lo ⟨o,ho,hx,hd⟩ ?_)
  ·rw[ae,hl];exact z
  ·rw[<- bF,hl];exact z
theorem a4j (hc:X.A.handled=none):P3 X (.builtin "sorted") (λxs H Q=>∃(p:Addr) (ns:List Int),xs=[.ref p]/\b3h X.K H p ns/\∀(ns':List Int) (l:Addr),ns'.Perm ns->ns'.Pairwise (·<=·)->H l=none->Q (.ref l) (upd H l (.lst (ns'.map V.int)))):=by
 intro pins s σ H xs us Q I r h;obtain⟨p,ns,rfl,src,q⟩:=h;obtain⟨u,rfl,rx⟩:=V4 r;cases rx;refine Srt.sorted_any (O:=Srt.intOrd) (key:=Srt.intKey) (knd:=oneType') (I.collI (A:=X.A.in1) hc src) (λvs h=>h.2) (λvs s' h _=>Srt.asks_ints h.1) λvs out h1 h' tk n hC hp hs k1 k2 hD=>?_
 have hall:∀ u∈out,∃ i t,u=dO i t:=λu hu=>a8V hC.1 u (hp.mem_iff.mp hu)
 have hio:=a1x hall;have I1:Inv X pins σ H {s with heap:=h1,toks:=tk}:=I.kept k1;have hlen:(out.map Srt.intKey).length<=sizeLine:=by rw[ae,hp.length_eq];exact hC.2
 refine⟨.ref h1.objs.size,_,I1.laid (t':=tk) (o:=.lst ((out.map Srt.intKey).map V.int)) k2 (aC _) ⟨by rw[ae];exact hlen,out,n,a0P hio,hD⟩,rfl,q _ _ ?_ ?_ I1.fresh⟩
 ·have:=hp.map Srt.intKey;rw[Srt.intKeys_of hC.1] at this;exact this
 ·rw[bT];exact hs.imp λ{a b} hab=>by
   have hab:decide (Srt.intKey b<Srt.intKey a)=false:=hab;simp at hab;exact hab
def b3g (K:ah)(H:Hp)(p:Addr)(ps:List (Addr×List Int)):Prop :=
 (SqL K H p (ps.map λx=>V.ref x.1)\/SqT K H p (ps.map λx=>V.ref x.1))/\∀ x∈ps,H x.1=some (.tup (x.2.map V.int))/\x.2≠[]
theorem Inv.tupInts (I:Inv X pins σ H s){a:Addr}{ks:List Int}(h:H a=some (.tup (ks.map V.int)))(hne:ks≠[]):Srt.TupInts s.heap (.ref a) ks:=by
 obtain⟨its,r,⟨o,ho,hc,n,hd⟩,hz⟩:=I.tuple (SqT.of h);exact⟨a,o,its.toArray,n,rfl,ho,hc,hd,a0o r,hne⟩
theorem a1s {p:Addr}{vs:List Value}{C:List (Addr×List Int)->Prop}{Q:VK}(I:Inv X pins σ H s)(hcol:Srt.Coll X.prog X.w X.A.in1 p s λus=>us=vs)(ps:List (Addr×List Int))(hvs:vs=ps.map λx=>bX x.1)(hz:ps.length<=sizeLine)
  (hall:∀ x∈ps,H x.1=some (.tup (x.2.map V.int))/\x.2≠[]) (q:∀(ps':List (Addr×List Int)) (l:Addr),ps'.Perm ps->(ps'.Pairwise λx y=>HT.lexLt y.2 x.2=false)->H l=none->Q (.ref l) (upd H l (.lst (ps'.map λx=>V.ref x.1)))) :
  wpAny (model X.prog X.w) X.A (call (.builtin "sorted") [.ref p]) (EP X pins σ Q) X.xe s:=by
 subst hvs;have ht:∀ x∈ps,Srt.TupInts s.heap (.ref x.1) x.2:=λx hx=>I.tupInts (hall x hx).1 (hall x hx).2
 refine Srt.sorted_any (O:=Srt.lexOrd) (key:=Srt.tupKey s.heap) (knd:=tuples' true) hcol (λvs e=>by subst e;rw[ae];exact hz) (λvs s' e k=>?_) λvs out h1 h' tk n e hp hs k1 k2 hD=>?_
 ·subst e;refine Srt.asks_tups (λv hv=>?_) k;obtain⟨x,hx,rfl⟩:=aR.mp hv;exact⟨x.2,ht x hx⟩
 ·subst e;obtain⟨ps',hpp,rfl⟩:=a0D hp rfl;have I1:Inv X pins σ H {s with heap:=h1,toks:=tk}:=I.kept k1;refine⟨.ref h1.objs.size,_,I1.laid (t':=tk) (o:=.lst (ps'.map λx=>V.ref x.1)) k2 (aC _) ⟨by rw[ae,hpp.length_eq];exact hz,_,n,a0V (f:=λx:Addr×List Int=>x.1) ps',hD⟩,rfl,q _ _ hpp ?_ I1.fresh⟩;rw[bT] at hs;refine hs.imp_of_mem λ{a b} ha hb hab=>?_
  have e1:=Srt.tupKey_of (ht a (hpp.mem_iff.mp ha));have e2:=Srt.tupKey_of (ht b (hpp.mem_iff.mp hb));have hab:HT.lexLt (Srt.tupKey s.heap (.ref b.1)) (Srt.tupKey s.heap (.ref a.1))=false:=hab;rw[e1,e2] at hab;exact hab
theorem a4i:P3 X (.builtin "sorted") (λxs H Q=>∃(p:Addr) (ps:List (Addr×List Int)),xs=[.ref p]/\b3g X.K H p ps/\∀(ps':List (Addr×List Int)) (l:Addr),ps'.Perm ps->(ps'.Pairwise λx y=>HT.lexLt y.2 x.2=false)->H l=none->Q (.ref l) (upd H l (.lst (ps'.map λx=>V.ref x.1)))):=by
 intro pins s σ H xs us Q I r h;obtain⟨p,ps,rfl,⟨src,hall⟩,q⟩:=h;obtain⟨u,rfl,rx⟩:=V4 r;cases rx;rcases src with h | h
 ·obtain⟨its,r',pl,hz⟩:=I.list h;obtain⟨o,ho,hc,n,hd⟩:=pl.isList;rw[ae] at hz;have e:=Z0 r';exact a1s (C:=λ_=>True) I (Srt.coll_seq ho hc (.inl rfl) hd (by rw[e,ae];exact hz)) ps e hz hall q
 ·obtain⟨its,r',pl,hz⟩:=I.tuple h;obtain⟨o,ho,hc,n,hd⟩:=pl;rw[ae] at hz;have e:=Z0 r';exact a1s (C:=λ_=>True) I (Srt.coll_seq ho hc (.inr rfl) hd (by rw[e,ae];exact hz)) ps e hz hall q
end
end L2
end
section
namespace L2
open PySem PySem.Spec PyProof.Rows
mutual
inductive Dt (K:ah)(H:Hp):V->PyData->Prop
 | non:Dt K H .non .none
 | bl (b:Bool):Dt K H (.bl b) (.bool b)
 | int (i:Int):Dt K H (.int i) (.int i)
 | str (x:Str):Dt K H (.str x) (.str x)
 | tup {a:Addr} {xs:List V} {ds:List PyData}:SqT K H a xs->Dts K H xs ds->Dt K H (.ref a) (.tuple ds)
 | lst {a:Addr} {xs:List V} {ds:List PyData}:SqL K H a xs->Dts K H xs ds->Dt K H (.ref a) (.list ds)
inductive Dts (K:ah)(H:Hp):List V->List PyData->Prop
 | nil:Dts K H [] []
 | cons {x:V} {d:PyData} {xs:List V} {ds:List PyData}:Dt K H x d->Dts K H xs ds->Dts K H (x::xs) (d::ds)
end
section
variable {X:Cx}{pins:List (Addr×Obj)}{σ:St}{H:Hp}{s:Shared}
mutual
theorem Inv.reads (I:Inv X pins σ H s):∀ {x:V} {d:PyData} {u:Value},Dt X.K H x d->J2 x u->∃ as,Reads s.heap u d as
 | _,_,_,.non,r=>by cases (show _=cJ from r);exact⟨_,.none⟩
 | _,_,_,.bl b,r=>by cases (show _=bE b from r);exact⟨_,.bool b⟩
 | _,_,_,.int i,r=>by obtain⟨t,e⟩:=(show ∃ t,_=dO i t from r);subst e;exact⟨_,.int i t⟩
 | _,_,_,.str x,r=>by obtain⟨t,e⟩:=(show ∃ t,_=iJ x t from r);subst e;exact⟨_,.str x t⟩
 | _,_,_,.tup (a:=a) h hs,r=>by
  cases (show _=bX a from r);obtain⟨its,rv,⟨o,ho,hc,n,hd⟩,hz⟩:=I.tuple h;obtain⟨as,q⟩:=Inv.readsAll I hs rv;exact⟨_,.tuple ho hc hd (~~~q)⟩
 | _,_,_,.lst (a:=a) h hs,r=>by
  cases (show _=bX a from r);obtain⟨its,rv,pl,hz⟩:=I.list h;obtain⟨o,ho,hc,n,hd⟩:=pl.isList;obtain⟨as,q⟩:=Inv.readsAll I hs rv;exact⟨_,.list ho hc hd (~~~q)⟩
theorem Inv.readsAll (I:Inv X pins σ H s):∀ {xs:List V} {ds:List PyData} {us:List Value},Dts X.K H xs ds->E2 xs us->∃ as,ReadsAll s.heap us ds as
 | _,_,_,.nil,.nil=>⟨_,.nil⟩
 | _,_,_,.cons h t,.cons r q=>by
  obtain⟨as,h1⟩:=Inv.reads I h r;obtain⟨bs,h2⟩:=Inv.readsAll I t q;exact⟨_,.cons h1 h2⟩
end
def a1X (K:ah)(neg:Bool):R2:=λx y H Q=>∃ d e,Dt K H x d/\Dt K H y e/\SeqAt.shaped d=true/\SeqAt.shaped e=true/\Q (.bl (if neg then !PyData.eqv d e else PyData.eqv d e)) H
theorem b2j (hu:X.A.units+64<cLine):OpR X (compareOp .Eq) (a1X X.K false):=by
 intro pins s σ H x y v u Q I rx ry h;obtain⟨d,e,hd,he,sd,se,q⟩:=h;obtain⟨as,r1⟩:=I.reads hd rx;obtain⟨bs,r2⟩:=I.reads he ry;exact eq_dataH r1 r2 sd se hu ⟨.bl _,H,I,rfl,q⟩
theorem b2i (hu:X.A.units+64<cLine):OpR X (compareOp .NotEq) (a1X X.K true):=by
 intro pins s σ H x y v u Q I rx ry h;obtain⟨d,e,hd,he,sd,se,q⟩:=h;obtain⟨as,r1⟩:=I.reads hd rx;obtain⟨bs,r2⟩:=I.reads he ry;exact ne_dataH r1 r2 sd se hu ⟨.bl _,H,I,rfl,q⟩
theorem Dts.ints {K:ah}:∀(ns:List Int),Dts K H (ns.map V.int) (ns.map cg)
 | []=>.nil
 | n::r=>.cons (.int n) (Dts.ints r)
theorem K6:∀ ns:List Int,PyData.canLayAll0 (ns.map cg)=true
 | []=>rfl
 | n::r=>by rw[aH,PyData.canLayAll0,K6 r];rfl
theorem N9:∀ ns:List Int,PyData.depthAll (ns.map cg)=0
 | []=>rfl
 | n::r=>by rw[aH,PyData.depthAll,N9 r];rfl
theorem S1 (ns:List Int):SeqAt.shaped (.list (ns.map cg))=true:=by
 unfold SeqAt.shaped PyData.canLay0 PyData.depth;rw[K6,N9];rfl
theorem a2o:∀ ns ms:List Int,PyData.eqvAll (ns.map cg) (ms.map cg)=decide (ns=ms)
 | [],[]=>rfl
 | [],_::_=>rfl
 | _::_,[]=>rfl
 | a::r,b::t=>by
  rw[aH,aH,PyData.eqvAll,PyData.eqv,a2o r t];by_cases h:a=b<;>by_cases h':r=t<;>simp[h,h']
theorem W1 (ns ms:List Int):PyData.eqv (.tuple (ns.map cg)) (.tuple (ms.map cg))=decide (ns=ms):=by
 rw[PyData.eqv];exact a2o ns ms
theorem a5m (ns ms:List Int):PyData.eqv (.list (ns.map cg)) (.list (ms.map cg))=decide (ns=ms):=by
 rw[PyData.eqv];exact a2o ns ms
theorem Dt.tupI {K:ah}{a:Addr}{ns:List Int}(h:SqT K H a (ns.map V.int)):Dt K H (.ref a) (.tuple (ns.map cg)):=.tup h (Dts.ints ns)
theorem Dt.lstI {K:ah}{a:Addr}{ns:List Int}(h:SqL K H a (ns.map V.int)):Dt K H (.ref a) (.list (ns.map cg)):=.lst h (Dts.ints ns)
theorem b4M {K:ah}{a b:Addr}{ns ms:List Int}{Q:VK}(h1:SqL K H a (ns.map V.int))(h2:SqL K H b (ms.map V.int))(q:Q (.bl (!decide (ns=ms))) H):a1X K true (.ref a) (.ref b) H Q :=
 ⟨_,_,.lstI h1,.lstI h2,S1 _,S1 _,by rw[a5m];exact q⟩
theorem b4U {K:ah}{a b:Addr}{ns ms:List Int}{Q:VK}(h1:SqL K H a (ns.map V.int))(h2:SqL K H b (ms.map V.int))(q:Q (.bl (decide (ns=ms))) H):a1X K false (.ref a) (.ref b) H Q :=
 ⟨_,_,.lstI h1,.lstI h2,S1 _,S1 _,by rw[a5m];exact q⟩
end
end L2
end
section
namespace L2
open PySem PySem.Spec PyProof.Rows
section
variable {X:Cx}
theorem a3y:P3 X (.type "range") (λxs H Q=>∃ hi:Int,xs=[.int hi]/\∀ p,H p=none->Q (.ref p) (upd H p (.rng 0 hi))):=by
 intro pins s σ H xs us Q I r h;obtain⟨hi,rfl,q⟩:=h;obtain⟨u,rfl,rx⟩:=V4 r;obtain⟨t,rfl⟩:=rx;refine call_range_1 ⟨.ref s.heap.objs.size,_,I.laid (o:=.rng 0 hi) (λ_ _ q=>am _ q) (aC _) ⟨_,_,_,aK _ rfl⟩,rfl,q _ I.fresh⟩
def B0 (lo:Int)(n:Nat):List Int:=(List.range n).map λ(i:Nat)=>lo+(i:Int)
theorem B1 (lo:Int)(n:Nat):(B0 lo n).length=n:=by unfold B0;simp
theorem a0W {lo:Int}{n i:Nat}(h:i<n):(B0 lo n)[i]?=some (lo+(i:Int)):=by unfold B0;simp[h]
theorem a5Q {us:List Value}{lo:Int}{n:Nat}(hl:us.length=n)(hi:∀(i:Nat) x,us[i]?=some x->∃ t,x=dO (lo+i*1) t):E2 ((B0 lo n).map V.int) us:=by
 have key:∀(us:List Value) (k:Nat),(∀(i:Nat) x,us[i]?=some x->∃ t,x=dO (lo+((i+k:Nat):Int)) t)->E2 (((List.range' k us.length).map λ(i:Nat)=>lo+(i:Int)).map V.int) us:=by
  intro us;induction us with
  | nil=>intro k _;exact .nil
  | cons u r ih =>
   intro k h;rw[aD,List.range'_succ,aH,aH];refine .cons ?_ (ih (k+1) λi x e=>?_)
   ·obtain⟨t,e⟩:=h 0 u rfl;rw[du] at e;exact⟨t,e⟩
   ·obtain⟨t,e'⟩:=h (i+1) x (~~~e);exact⟨t,by rw[e'];congr 2;omega⟩
 have:=key us 0 λi x e=>by
  obtain⟨t,e'⟩:=hi i x e;exact⟨t,by rw[e',j3,jL]⟩
 unfold B0;rw[gQ,<- hl];exact this
theorem a8f {lo hi:Int}(h1:-(2 ^ 62)<=lo)(h2:lo<2 ^ 62)(h3:-(2 ^ 62)<=hi)(h4:hi<2 ^ 62):Builtin.Range.small lo hi 1=true:=by
 exact PySem.small_one h1 h2 h3 h4
theorem a0g (hc:X.A.handled=none):P3 X (.type "list") (λxs H Q=>∃(p:Addr) (lo hi:Int),xs=[.ref p]/\H p=some (.rng lo hi)/\(-(2 ^ 62)<=lo/\lo<2 ^ 62/\-(2 ^ 62)<=hi/\hi<2 ^ 62)/\(hi-lo).toNat<=2 ^ 24 /\
  ∀ l,H l=none->Q (.ref l) (upd H l (.lst ((B0 lo (hi-lo).toNat).map V.int)))):=by
 intro pins s σ H xs us Q I r h;obtain⟨p,lo,hi,rfl,hp,⟨b1,b2,b3,b4⟩,hz,q⟩:=h;obtain⟨u,rfl,rx⟩:=V4 r;cases rx;have hO:=I.hok p _ hp;unfold L8 at hO;obtain⟨t,u',v,hr⟩:=hO;have hsl:(hi-lo).toNat<=sizeLine:=by rw[sizeLine_eq];omega
 refine call_list_range hc hr (a8f b1 b2 b3 b4) (rangeSize_nat lo hi) hz λh' tk acc' c' hk hS' hacc=>?_
 refine⟨.ref s.heap.objs.size,_,I.laid (t':=tk) (o:=.lst ((B0 lo (hi-lo).toNat).map V.int)) hk (aC _) ⟨by rw[ae,B1];exact hsl,acc'.toList,c',a5Q (by rw[bF];exact hacc.1) λi x e=>hacc.2 i x (by rw[<- aZ];exact e),by rw[gO];exact hS'⟩,rfl,q _ I.fresh⟩
end
end L2
namespace Srt
open PySem PyProof.Rows PySem.W
theorem nolen_lr:typeLookup (.type "list_reverseiterator") "__len__"=pure none:=by rw[typeLookup_type,builtinLookup_eq_fast];kernel_rfl
theorem hint_lr:typeLookup (.type "list_reverseiterator") "__length_hint__"=pure (some (.builtin "list_reverseiterator.__length_hint__")):=by rw[typeLookup_type,builtinLookup_eq_fast];kernel_rfl
section
variable {prog:Program}{w:World}{A:Around}{E:Value->Shared->Prop}{s:Shared}
theorem rev_extend {R:Result->Shared->Prop}{r l S:Addr}{items:Array Value}{res:Value}{c₀:Nat}(hh:A.handled=none)(hr:s.heap.IsRevIter r l ((items.size:Int)-1))(hl:s.heap.IsList l items)(hne:l≠r)(hSr:S≠r)(hSl:S≠l)
  (hS:s.heap.get? S=some {cls:=.type "list",data:=.seq #[] c₀}) (hn:items.size<=sizeLine)
  (hR:∀ h' tk acc' c',(∀ b o,b≠S->b≠r->s.heap.get? b=some o->h'.get? b=some o)->h'.get? S=some {cls:=.type "list",dict:=none,data:=.seq acc' c',slots:=#[]} ->
   ItemsOf (λi v=>items[items.size-1-i]?=some v) acc' items.size->R (.ok (.ret res)) {s with heap:=h',toks:=tk}) :
  wpAny (model prog w) A.in1 (Builtin.List.listExtendWith (.ref S) (.ref r) res)
   (λfin s'=>match fin with | .done f=>R (.ok f) s' | .again c'=>c'.quiet=true/\codeAny (model prog w) A c' R s') (λe s'=>R (.error e) s') s:=by
 have W:=(Walks.listRev (prog:=prog) (w:=w) (A:=A.in1) hh r l hne items).toS;have hSf:S∉[r,l]:=by simp only[aJ,bJ,or_false,not_or];exact⟨hSr,hSl⟩
 unfold Builtin.List.listExtendWith;refine af (gZ hr.typeIs ?_);have h1:Builtin.List.listSameRef (.ref S) (.ref r)=false:=by simp[Builtin.List.listSameRef,hSr]
 rw[if_neg (by rw[h1];decide)];refine af (wpAny_pyIter_revIter hr ?_);refine af (cK ?_);unfold Builtin.List.listLengthHint;refine af (g8 hr.typeIs nolen_lr ?_);show wpAny _ A.in1 (specialOf (bX r) (cC "__length_hint__") >>= _) _ _ _;refine af (g8 hr.typeIs hint_lr ?_);generalize hid:("list_reverseiterator.__length_hint__":String)=id0
 wp_delta
 rw[show splitId id0=some ("list_reverseiterator", "__length_hint__") from by subst hid;decide +kernel];subst hid;refine af (fU (b:=true) hr.typeIs (by rw[isSubtype_type];kernel_rfl) ?_);refine ao ?_;rw[if_neg (by decide)];refine ao ⟨plainId_quiet PySem.F.plain_extend_loop _,codeAny_extend_loopS W hn S hSf res items.size 0 s #[] c₀ rfl (bo _) ⟨bo _, ~~~hr,hl⟩ hS (ItemsOf.nil _) λs' acc' c' hm hS' hacc=>?_⟩;rw[Moved.eq_with hm];refine hR s'.heap s'.toks acc' c' (λb o hb hbr e=>hm.heap b o (λhmem=>?_) e) hS' hacc;rcases aJ.mp hmem with e' | hmem
 ·exact hb e'
 ·exact hbr (ag.mp hmem)
theorem call_list_rev {Q:Value->Shared->Prop}{r l:Addr}{items:Array Value}(hh:A.handled=none)(hr:s.heap.IsRevIter r l ((items.size:Int)-1))(hl:s.heap.IsList l items)(hne:l≠r)(hn:items.size<=sizeLine)
  (hQ:∀ h' tk acc' c',(∀ b o,b≠r->s.heap.get? b=some o->h'.get? b=some o)->h'.get? s.heap.objs.size=some {cls:=.type "list",dict:=none,data:=.seq acc' c',slots:=#[]} ->
   ItemsOf (λi v=>items[items.size-1-i]?=some v) acc' items.size->Q (.ref s.heap.objs.size) {s with heap:=h',toks:=tk}) :
  wpAny (model prog w) A (call (.type "list") [.ref r]) Q E s:=by
 refine callType_codes (Q₁:=λobj ss=>obj=.ref s.heap.objs.size/\ss={s with heap:=s.heap.push {cls:=.type "list",data:=.seq #[]}}) PySem.F.called_list (PySem.F.typeCall_list_1 _) PySem.F.entry_list_init
  (code_list_new _ ⟨rfl,rfl⟩) λobj ss h₁=>?_
 obtain⟨rfl,rfl⟩:=h₁;have hS:(s.heap.push {cls:=.type "list",data:=.seq #[]}).get? s.heap.objs.size=some {cls:=.type "list",data:=.seq #[]}:=aK _ rfl;have rlt:r<s.heap.objs.size:=let ⟨o,ho,_⟩:=hr;aE ho;have llt:l<s.heap.objs.size:=let ⟨o,ho,_⟩:=hl;aE ho;refine⟨⟨_,hS,rfl⟩,PySem.F.args_list_init_2 _ _,?_⟩;show wpAny _ _ (do let old <- Builtin.List.listItems (.ref s.heap.objs.size);Builtin.List.listUpdate (.ref s.heap.objs.size) (λ_=>#[]);letGo old.toList.reverse;Builtin.List.listExtendWith (.ref s.heap.objs.size) (.ref r) .none) _ _ _;refine af ?_;unfold Builtin.List.listItems;refine af (gr hS rfl (ao ?_));show wpAny _ _ (updateSeq s.heap.objs.size (λ_=>#[]) >>= λ_=>letGo (#[]:Array Value).toList.reverse >>= λ_=>Builtin.List.listExtendWith (.ref s.heap.objs.size) (.ref r) .none) _ _ _;refine af (wpAny_updateSeq hS rfl ?_);have hSz:=cW (Obj.mapSeq (λ_=>(#[]:Array Value))) hS rfl;have oth:∀ b o,b≠s.heap.objs.size->s.heap.get? b=some o->((s.heap.push {cls:=.type "list",data:=.seq #[]}).update s.heap.objs.size (Obj.mapSeq (λ_=>(#[]:Array Value)))).get? b=some o :=
  λb o hb e=>(gz _ _ (dZ hb)).trans (am _ e)
 refine af (wpAny_letGo ?_);refine rev_extend (A:=A.in1) hh (hr.at λo e=>oth r o (aU rlt) e) (hl.at λo e=>oth l o (aU llt) e) hne (fg rlt) (fg llt) hSz hn λh' tk acc' c' hk hS' hacc=>?_
 exact⟨rfl,hQ h' tk acc' c' (λb o hb e=>hk b o (aU (aE e)) hb (oth b o (aU (aE e)) e)) hS' hacc⟩
end
end Srt
namespace L2
open PySem PySem.Spec PyProof.Rows
section
variable {X:Cx}{e:Expr}{te:TE}{p1 p2 q1 q2:Pos}
theorem a5V:bootBuiltins "list"=some (.type "list"):=by decide +kernel
theorem a2F:bootBuiltins "reversed"=some (.type "reversed"):=by decide +kernel
theorem a4r:∀ {xs:List V} {us:List Value},E2 xs us->E2 xs.reverse us.reverse
 | _,_,.nil=>.nil
 | _,_,.cons r t=>by
  rw[fA,fA];exact (a4r t).append (.cons r .nil)
def b1a (te:TE):TE:=fun σ H Q=>te σ H λx H1=>∃ a xs,x=.ref a/\H1 a=some (.lst xs)/\∀ l,H1 l=none->Q (.ref l) (upd H1 l (.lst xs.reverse))
theorem a5D (hc:X.A.handled=none)(hg1:Gl X "list")(hm1:X.mg "list"=none)(hg2:Gl X "reversed")(hm2:X.mg "reversed"=none)(he:PE X e te)
  (hs1:starEach [.Call (.Name "reversed" p1) [e] [] q1] X.env=[(false,eval (.Call (.Name "reversed" p1) [e] [] q1) X.env)]:=by rfl) (hs2:starEach [e] X.env=[(false,eval e X.env)]:=by rfl) :
  PE X (.Call (.Name "list" p2) [.Call (.Name "reversed" p1) [e] [] q1] [] q2) (b1a te):=by
 intro pins s σ H Q I h;refine cG (S9 I hg1 hm1 a5V ?_);refine bR ?_ hs1 rfl;rw[hs1];refine fY ?_;refine cG (S9 I hg2 hm2 a2F ?_);refine bR ?_ hs2 rfl;rw[hs2];refine fY (thn (he pins s σ H _ I h) λu s1 ⟨x,H1,I1,r1,q1⟩=>?_);obtain⟨a,xs,rfl,ha,q⟩:=q1;cases r1;refine gh ?_;obtain⟨its,n,rv,ho,hz⟩:=I1.lst ha;have hl:s1.heap.IsList a its.toArray:=⟨_,ho,rfl,n,rfl⟩
 have alt:a<s1.heap.objs.size:=aE ho;refine call_reversed_list hl ?_;refine gh ?_;have k1:∀ b o,s1.heap.get? b=some o->(s1.heap.push (revObj a ((its.toArray.size:Int)-1))).get? b=some o:=λ_ _ q=>am _ q
 refine Srt.call_list_rev (s:={s1 with heap:=s1.heap.push (revObj a ((its.toArray.size:Int)-1))}) hc ⟨_,aK _ rfl,rfl,rfl⟩ (hl.at λo e=>k1 a o e) (aU alt) (by rw[aQ,<- rv.length];exact hz) λh' tk acc' c' hk hS' hacc=>?_
 have eacc:acc'.toList=its.reverse:=by
  apply dw;intro i;rw[aZ];rcases cv i its.length with hi | hi
  ·have hi':i<acc'.size:=by rw[hacc.1,aQ];exact hi
   have:=hacc.2 i acc'[i] (aT hi');rw[aT hi',List.getElem?_reverse hi];rw[aQ,jF] at this;exact this.symm
  ·rw[bM (by rw[hacc.1,aQ];exact hi),bS (by rw[gW];exact hi)]
 have keep:∀ b o,s1.heap.get? b=some o->h'.get? b=some o:=λb o e=>hk b o (aU (aE e)) (k1 b o e)
 have hsz:(s1.heap.push (revObj a ((its.toArray.size:Int)-1))).objs.size=s1.heap.objs.size+1:=cV ..;refine⟨.ref (s1.heap.push (revObj a ((its.toArray.size:Int)-1))).objs.size,_,I1.laid (t':=tk) (a:=(s1.heap.push (revObj a ((its.toArray.size:Int)-1))).objs.size) (o:=.lst xs.reverse) keep (by rw[hsz];omega) ⟨by rw[gW];exact hz,its.reverse,c',a4r rv,by rw[<- eacc,gO];exact hS'⟩,rfl,q _ (I1.hok.fresh (by rw[hsz];omega))⟩
end
end L2
end
section
namespace L2
open PySem PySem.Spec PyProof.Rows
structure Df (K:ah)(mg:Str->Option Value)(x:Str)(st:Stmt)(f:Addr)(fd:FuncData)(ps:List Str):Prop where
 F:Fun K x x st f fd
 b:a3F K fd ps []
 m:mg x=some (.ref f)
theorem C3 {X:Cx}{k:Nat}{f:Addr}{fd:FuncData}{ps:List Str}{sp:Sp}{x:Str}{st:Stmt}{p pos:Pos}{e:Expr}{es:List Expr}{t:TA}(G:E1 X.prog X.w X.K X.mg X.base CX0 k f fd ps sp)(D:Df X.K X.mg x st f fd ps)(hr:T2 k X.A)
  (ha:PA X (e::es) t) (hg:Gl X x:=by rfl) (hdb:(x == ("__debug__":Str))=false:=by decide) (he:starEach (e::es) X.env=(false,eval e X.env)::starEach es X.env:=by rfl) (hpl:(backTo pos (starEach es X.env)).any (·.1)=false:=by rfl) :
  PE X (.Call (.Name x p) (e::es) [] pos) (a8e sp [] E0 t):=a9X G hr hg D.m D.F.kp D.b .nil b3T ha hdb he hpl
structure Bt (mg:Str->Option Value):Prop where
 len:mg "len"=none
 range:mg "range"=none
 list:mg "list"=none
 tuple:mg "tuple"=none
 sorted:mg "sorted"=none
 min:mg "min"=none
 max:mg "max"=none
 int:mg "int"=none
 reversed:mg "reversed"=none
section
variable {X:Cx}(K:ah)
theorem B8 (h:X.K=K:=by rfl):IxR X (a9O K):=by subst h;exact b0q
theorem C2 (h:X.K=K:=by rfl):IxR X (a9N K):=by subst h;exact b2u
theorem a4D (h:X.K=K:=by rfl):SlR X (b1V K):=by subst h;exact a9I
theorem a9H (h:X.K=K:=by rfl):SlR X (b3P K):=by subst h;exact b1S
theorem X3 (h:X.K=K:=by rfl):OpR X (compareOp .In) (rIn K false):=by subst h;exact a7b
theorem a0m (h:X.K=K:=by rfl):OpR X (compareOp .NotIn) (rIn K true):=by subst h;exact a3U
theorem a7B (hu:X.A.units+64<cLine)(h:X.K=K:=by rfl):OpR X (compareOp .Eq) (a1X K false):=by subst h;exact b2j hu
theorem a7n (hu:X.A.units+64<cLine)(h:X.K=K:=by rfl):OpR X (compareOp .NotEq) (a1X K true):=by subst h;exact b2i hu
def b2X (K:ah):List V->Hp->VK->Prop:=λxs H Q=>∃ p ys,xs=[.ref p]/\(SqL K H p ys\/SqT K H p ys)/\Q (.int ys.length) H
def b1y (K:ah):List V->Hp->VK->Prop:=λxs H Q=>∃ p ys,xs=[.ref p]/\(SqL K H p ys\/SqT K H p ys)/\∀ l,H l=none->Q (.ref l) (upd H l (.lst ys))
def a9o (K:ah):List V->Hp->VK->Prop:=λxs H Q=>∃ p ys,xs=[.ref p]/\((SqL K H p ys/\∀ l,H l=none->Q (.ref l) (upd H l (.tup ys)))\/(SqT K H p ys/\Q (.ref p) H))
def a9q (K:ah):List V->Hp->VK->Prop:=λxs H Q=>∃(p:Addr) (ns:List Int),xs=[.ref p]/\b3h K H p ns/\∀(ns':List Int) (l:Addr),ns'.Perm ns->ns'.Pairwise (·<=·)->H l=none->Q (.ref l) (upd H l (.lst (ns'.map V.int)))
def a9p (K:ah):List V->Hp->VK->Prop:=λxs H Q=>∃(p:Addr) (ps:List (Addr×List Int)),xs=[.ref p]/\b3g K H p ps/\∀(ps':List (Addr×List Int)) (l:Addr),ps'.Perm ps->(ps'.Pairwise λx y=>HT.lexLt y.2 x.2=false)->H l=none->Q (.ref l) (upd H l (.lst (ps'.map λx=>V.ref x.1)))
theorem N7 (h:X.K=K:=by rfl):P3 X (.builtin "len") (b2X K):=by subst h;exact a4l
theorem a6A (h:X.K=K:=by rfl):P3 X (.type "list") (b1y K):=by subst h;exact a4k
theorem S6 (h:X.K=K:=by rfl):P3 X (.type "tuple") (a9o K):=by subst h;exact a2E
theorem X8 (hc:X.A.handled=none)(h:X.K=K:=by rfl):P3 X (.builtin "sorted") (a9q K):=by subst h;exact a4j hc
theorem T7 (h:X.K=K:=by rfl):P3 X (.builtin "sorted") (a9p K):=by subst h;exact a4i
variable {tg l o e:Expr}{tl to:TE}{es:List Expr}{t:TA}{pos:Pos}
theorem F0 (hl:PE X l tl)(h:X.K=K:=by rfl):PI X tg l (a8X K tl):=by subst h;exact a9V hl
theorem S0 (hl:PE X l tl)(h:X.K=K:=by rfl):PI X tg l (b2M K tl):=by subst h;exact b1Y hl
theorem K1 {k:Nat}{t:TGs}{n:Nat}(hc:X.calm=true)(hg:PGs X es t)(hn:(assignEach es X.env).length=n:=by rfl)(hst:(assignEach es X.env).findIdx? (·.1)=none:=by rfl)(h:X.K=K:=by rfl):PG X (.Tuple es k pos) (b2Q K n t):=by
 subst h;exact b2a hc hg hn hst
theorem N5 {apos cpos:Pos}(ho:PE X o to)(ha:PA X (e::es) t)(h:X.K=K:=by rfl)
  (hbase:attributeBase o "append" X.env (eval o X.env)=eval o X.env:=by rfl)
  (hfew:((backTo cpos (starEach (e::es) X.env)).all (λx=>!x.1) && (backToKw cpos (keywordEach [] X.env)).all (λx=>x.1.isSome)
   && decide ((e::es).length+([]:List Keyword).length+(if ([]:List Keyword).isEmpty then 0 else 1)<30))=true:=by rfl) (hst:starEach (e::es) X.env=(false,eval e X.env)::starEach es X.env:=by rfl) (hpl:(backTo cpos (starEach es X.env)).any (·.1)=false:=by rfl) (hline:(apos.endLine == cpos.line)=true:=by rfl) :
  PE X (.Call (.Attribute o "append" apos) (e::es) [] cpos) (tBM K "list" a3P to t):=by
 subst h;exact a8r fb PySem.F.slot_list_append PySem.F.type_list_append a1e ho ha hbase hfew hline hst hpl
theorem a9U {apos cpos:Pos}(ho:PE X o to)(h:X.K=K:=by rfl)(hbase:attributeBase o "pop" X.env (eval o X.env)=eval o X.env:=by rfl)(hline:(apos.endLine == cpos.line)=true:=by rfl) :
  PE X (.Call (.Attribute o "pop" apos) [] [] cpos) (b1P K "list" b1W to):=by
 subst h;exact b2e fb jn jl b2n ho hbase hline
theorem a5y (he:PE X e to)(hw:∀ whole,isTrue e X.env whole=(do let v <- whole;standAt e.pos;holding [v] (truthy v)))(h:X.K=K:=by rfl):PT X e (fun σ H Q=>to σ H λx H'=>∃ k,b3f K x H' k/\Q k H'):=by
 subst h;exact a8k he hw
end
section
variable {K:ah}{a p:Addr}{xs:List V}{g:TG}{tc:TT}{te tv:TE}{τ0:St}{H0:Hp}{EE:Hp->Prop}
theorem N1 (Pv:Nat->St->Hp->Prop)(h0:Pv 0 τ0 H0)(hl:∀ i τ H,i<=xs.length->Pv i τ H->SqL K H a xs)
  (hs:∀ i x τ H,xs[i]?=some x->Pv i τ H->(∀ ys,SqL K H a ys->ys[i]?=some x)->g x τ H fun τ2 H2=>tc τ2 H2 λb H3=>if b=true then te τ2 H3 λv H4=>∃ ys,H4 p=some (.lst ys)/\ys.length<sizeLine/\Pv (i+1) τ2 (upd H4 p (.lst (ys++[v]))) else Pv (i+1) τ2 H3)
  (hd:∀ τ H,Pv xs.length τ H->EE H):lcW g tc te p (Itl K a) τ0 H0 EE:=by
 refine⟨λi m τ H=>m=xs.length-i/\i<=xs.length/\Pv i τ H,⟨_,rfl,bo _,h0⟩,?_⟩;rintro i m τ H ⟨rfl,hi,hp⟩;have hq:=hl i τ H hi hp;rcases cv i xs.length with h | h
 ·have hx:xs[i]?=some xs[i]:=au h;refine .inr ⟨⟨xs,_,hq,hx⟩,Pv (i+1),fun τ' H' z=>⟨_,∅,rfl,h,z⟩,?_⟩;rintro x H' ⟨rfl,hy⟩;have e:x=xs[i]:=by have:=hy xs hq;rw[hx] at this;exact (aP this).symm
  subst e;exact hs i _ τ H' hx hp hy
 ·have e:i=xs.length:=∅
  subst e;exact .inl ⟨⟨xs,hq,aC _⟩,hd τ H hp⟩
theorem a2j (Pv:Nat->St->Hp->Prop)(h0:Pv 0 τ0 H0)(hl:∀ i τ H,i<=xs.length->Pv i τ H->SqT K H a xs)
  (hs:∀ i x τ H,xs[i]?=some x->Pv i τ H->g x τ H fun τ2 H2=>tc τ2 H2 λb H3=>if b=true then te τ2 H3 λv H4=>∃ ys,H4 p=some (.lst ys)/\ys.length<sizeLine/\Pv (i+1) τ2 (upd H4 p (.lst (ys++[v]))) else Pv (i+1) τ2 H3)
  (hd:∀ τ H,Pv xs.length τ H->EE H):lcW g tc te p (Itt K a) τ0 H0 EE:=by
 refine⟨λi m τ H=>m=xs.length-i/\i<=xs.length/\Pv i τ H,⟨_,rfl,bo _,h0⟩,?_⟩;rintro i m τ H ⟨rfl,hi,hp⟩;have hq:=hl i τ H hi hp;rcases cv i xs.length with h | h
 ·have hx:xs[i]?=some xs[i]:=au h;refine .inr ⟨⟨xs,_,hq,hx⟩,Pv (i+1),fun τ' H' z=>⟨_,∅,rfl,h,z⟩,?_⟩;rintro x H' ⟨rfl,hy⟩;have e:x=xs[i]:=by have:=hy xs hq;rw[hx] at this;exact (aP this).symm
  subst e;exact hs i _ τ H' hx hp
 ·have e:i=xs.length:=∅
  subst e;exact .inl ⟨⟨xs,hq,aC _⟩,hd τ H hp⟩
theorem S4 {lo:Int}{n:Nat}(Pv:Nat->St->Hp->Prop)(h0:Pv 0 τ0 H0)
  (hs:∀ i τ H,i<n->Pv i τ H->g (.int (lo+i)) τ H fun τ2 H2=>tc τ2 H2 λb H3=>if b=true then te τ2 H3 λv H4=>∃ ys,H4 p=some (.lst ys)/\ys.length<sizeLine/\Pv (i+1) τ2 (upd H4 p (.lst (ys++[v]))) else Pv (i+1) τ2 H3)
  (hd:∀ τ H,Pv n τ H->EE H):lcW g tc te p (Itr lo n) τ0 H0 EE:=by
 refine⟨λi m τ H=>m=n-i/\i<=n/\Pv i τ H,⟨_,rfl,bo _,h0⟩,?_⟩;rintro i m τ H ⟨rfl,hi,hp⟩;rcases cv i n with h | h
 ·refine .inr ⟨h,Pv (i+1),fun τ' H' z=>⟨_,∅,rfl,h,z⟩,?_⟩;rintro x H' ⟨rfl,rfl⟩;exact hs i τ H' h hp
 ·have e:i=n:=∅
  subst e;exact .inl ⟨aC _,hd τ H hp⟩
end
theorem a1j {X:Cx}:P3 X (.type "int") (λxs H Q=>∃ k,xs=[.bl k]/\Q (.int (if k then 1 else 0)) H):=λpins s σ H xs us Q I r h=>a7G pins s σ H xs us Q I r (.inr h)
theorem a4u {H:Hp}{a:Addr}{o:HO}(h:H a=some o):upd H a o=H:=by
 funext b;by_cases e:b=a
 ·subst e;rw[A3,h]
 ·rw[B3 e]
theorem A9.upd {H H':Hp}(s:A9 H H'){p:Addr}{o:HO}(hp:H p=none):A9 H (L2.upd H' p o):=λb u e=>by
 rw[B3 (E4 e hp)];exact s b u e
theorem A9.seqT {K:ah}{H H':Hp}{a:Addr}{xs:List V}(e:A9 H H')(h:SqT K H a xs):SqT K H' a xs:=by
 rcases h with (h | ⟨o,h⟩) | h
 ·exact .inl (.inl (e _ _ h))
 ·exact .inl (.inr ⟨o,e _ _ h⟩)
 ·exact .inr h
theorem C0 {n:Nat}(h:n<=16000000):n<sizeLine:=by rw[sizeLine_eq];omega
end L2
end
section
namespace L2
open PySem
def Tp (H H':Hp):Prop:=∀ a xs,H a=some (.tup xs)->H' a=some (.tup xs)
theorem Tp.refl (H:Hp):Tp H H:=λ_ _ h=>h
theorem Tp.trans {H H1 H2:Hp}(a:Tp H H1)(b:Tp H1 H2):Tp H H2:=λc o h=>b c o (a c o h)
theorem A9.tp {H H':Hp}(s:A9 H H'):Tp H H':=λa xs h=>s a _ h
theorem a8H {H:Hp}{a b:Addr}{xs ys:List V}(h:H a=some (.tup xs))(h':H b=some (.lst ys)):a≠b:=λe=>by subst e;rw[h] at h';cases h'
theorem b2k {H:Hp}{a b:Addr}{xs:List V}{ys:List (List Key×V)}(h:H a=some (.tup xs))(h':H b=some (.dT ys)):a≠b:=λe=>by subst e;rw[h] at h';cases h'
theorem b2l {H:Hp}{a b:Addr}{xs:List V}{ys:List (Key×V)}(h:H a=some (.tup xs))(h':H b=some (.dK ys)):a≠b:=λe=>by subst e;rw[h] at h';cases h'
theorem Tp.new {H H':Hp}(s:Tp H H'){p:Addr}{o:HO}(hp:H p=none):Tp H (upd H' p o):=λa xs h=>by rw[B3 (E4 h hp)];exact s a xs h
theorem Tp.lst {H:Hp}{p:Addr}{o:HO}{ys:List V}(hp:H p=some (.lst ys)):Tp H (upd H p o):=λa xs h=>by rw[B3 (a8H h hp)];exact h
theorem Tp.dT {H:Hp}{p:Addr}{o:HO}{ys:List (List Key×V)}(hp:H p=some (.dT ys)):Tp H (upd H p o):=λa xs h=>by rw[B3 (b2k h hp)];exact h
theorem Tp.dK {H:Hp}{p:Addr}{o:HO}{ys:List (Key×V)}(hp:H p=some (.dK ys)):Tp H (upd H p o):=λa xs h=>by rw[B3 (b2l h hp)];exact h
theorem Tp.nw {H:Hp}{p:Addr}{o:HO}(hp:H p=none):Tp H (upd H p o):=(Tp.refl H).new hp
theorem P8 {H:Hp}{a p:Addr}{o u:HO}(h:H a=some o)(hp:H p=none):upd H p u a=some o:=by rw[B3 (E4 h hp)];exact h
@[elab_as_elim] theorem A5 {G:Hp->Prop} {H:Hp} {p:Addr} {o:HO} (n:H p=none) (k:∀ H',A9 H H'->H' p=some o->G H'):G (upd H p o):=k _ ((A9.refl H).upd n) A3
theorem K8 {a b:TS}{D:U3}{σ:St}{H:Hp}(C:St->Hp->Prop)(ha:∀ R:St->Hp->Prop,(∀ σ H,C σ H->R σ H)->a {D with nx:=R} σ H)(hb:∀ σ H,C σ H->b D σ H):b1D a b D σ H:=ha (b D) hb
def b4n (ds:List Int):Prop:=ds.length<=2000/\∀ x∈ds,0<=x/\x<1000
def P1 (H:Hp)(d:Addr):Prop:=∃ ds:List Int,H d=some (.lst (ds.map V.int))/\b4n ds
def Kp (d:Addr)(H H':Hp):Prop:=∀ b o,b≠d->H b=some o->H' b=some o
theorem Kp.refl (d:Addr)(H:Hp):Kp d H H:=λ_ _ _ h=>h
theorem Kp.trans {d:Addr}{H H1 H2:Hp}(a:Kp d H H1)(b:Kp d H1 H2):Kp d H H2:=λc o hc e=>b c o hc (a c o hc e)
theorem A9.kp {d:Addr}{H H':Hp}(s:A9 H H'):Kp d H H':=λb o _ h=>s b o h
theorem Kp.free {d:Addr}{H H':Hp}(k:Kp d H H')(hd:P1 H' d){l:Addr}(h:H' l=none):H l=none:=by
 cases e:H l with
 | none=>rfl
 | some o =>
  by_cases q:l=d
  ·subst q;obtain⟨ds,e',_⟩:=hd;rw[e'] at h;cases h
  ·rw[k l o q e] at h;cases h
theorem Kp.new {d:Addr}{H H':Hp}(k:Kp d H H'){p:Addr}{o:HO}(hp:H p=none):Kp d H (upd H' p o):=λb u hb e=>by
 rw[B3 (E4 e hp)];exact k b u hb e
theorem P1.new {d:Addr}{H:Hp}(h:P1 H d){p:Addr}{o:HO}(hp:p≠d):P1 (upd H p o) d:=by
 obtain⟨ds,e,hl⟩:=h;exact⟨ds,by rw[B3 hp.symm];exact e,hl⟩
theorem P1.ne {d p:Addr}{H:Hp}(h:P1 H d)(hp:H p=none):p≠d:=λe=>by
 subst e;obtain⟨ds,e,_⟩:=h;rw[hp] at e;cases e
theorem P1.same {d:Addr}{H H':Hp}(h:P1 H d)(s:A9 H H'):P1 H' d:=by
 obtain⟨ds,e,hl⟩:=h;exact⟨ds,s _ _ e,hl⟩
theorem Kp.tp {d:Addr}{H H':Hp}(k:Kp d H H')(hd:P1 H d):Tp H H':=λa xs h=>by
 refine k a _ (λe=>?_) h;subst e;obtain⟨ds,e',_⟩:=hd;rw[h] at e';cases e'
def a4z:Sp:=λvs H Q _=>∃ c k:Int,vs=[.int c,.int k]/\0<=k/\k<2 ^ 30/\∀ z:Int,Q (.int z) H
def Z1:Sp:=λvs H Q _=>∃(d:Addr) (ns:List Int),vs=[.ref d]/\H d=some (.lst (ns.map V.int))/\∀(z:Int) (ns':List Int),ns'.length<=ns.length->(∀ x∈ns',x∈ns)->(z=0\/z∈ns)->Q (.int z) (upd H d (.lst (ns'.map V.int)))
theorem T5 {H:Hp}{d:Addr}{Q:VK}{E:XK}(hd:P1 H d)(h:∀ z H',Kp d H H'->P1 H' d->0<=z->z<1000->Q (.int z) H'):Z1 [.ref d] H Q E:=by
 obtain⟨ds,e,hl,hb⟩:=hd;refine⟨d,ds,rfl,e,λz ns' hn hs hz=>?_⟩;have hz':0<=z/\z<1000:=by
  rcases hz with rfl | hz
  ·exact⟨by decide,by decide⟩
  ·exact hb z hz
 exact h z _ (λb o hb eb=>by rw[B3 hb];exact eb) ⟨ns',A3,∅,λx hx=>hb x (hs x hx)⟩ hz'.1 hz'.2
theorem a8G {H:Hp}{d:Addr}{Q:VK}{E:XK}(hd:P1 H d)(h:∀ z H',Kp d H H'->P1 H' d->(∀ b,b≠d->H' b=H b)->Q (.int z) H'):Z1 [.ref d] H Q E:=by
 obtain⟨ds,e,hl,hb⟩:=hd;exact⟨d,ds,rfl,e,λz ns' hn hs _=>h z _ (λb o hb eb=>by rw[B3 hb];exact eb) ⟨ns',A3,∅,λx hx=>hb x (hs x hx)⟩ λb hb=>B3 hb⟩
def a6h (K:ah):Sp:=λvs H Q _=>∃(a:Addr) (m:Int) (ns:List Int),vs=[.ref a,.int m]/\SqL K H a (ns.map V.int)/\ns.length<=63/\0<=m/\m<=2000 /\
 ∀(p:Addr) (ds:List Int) (H':Hp),b4n ds->A9 H H'->H p=none->H' p=some (.lst (ds.map V.int))->Q (.ref p) H'
def a3K:Sp:=λvs H Q _=>∃(d:Addr) (n:Int),vs=[.ref d,.int n]/\P1 H d/\0<=n/\n<=1000 /\
 ∀(p:Addr) (ks:List Int) (H':Hp),Kp d H H'->P1 H' d->H p=none->H' p=some (.tup (ks.map V.int))->ks.Perm (B0 0 n.toNat)->Q (.ref p) H'
theorem a7U {H:Hp}{d:Addr}{n:Int}{Q:VK}{E:XK}(hd:P1 H d)(h0:0<=n)(h1:n<=1000)(h:∀(p:Addr) (ks:List Int) (H':Hp),Kp d H H'->P1 H' d->H p=none->H' p=some (.tup (ks.map V.int))->ks.Perm (B0 0 n.toNat)->Q (.ref p) H'):a3K [.ref d,.int n] H Q E :=
 ⟨d,n,rfl,hd,h0,h1,h⟩
theorem a1W (i:Nat):B0 0 (i+1)=B0 0 i++[(0:Int)+i]:=by unfold B0;rw[cO,ap];rfl
def sp_law (K:ah):Sp:=λvs H Q _=>∃(a:Addr) (ns:List Int),vs=[.ref a]/\SqL K H a (ns.map V.int)/\ns.length<=63/\∀ H',Q (.bl true) H'
def tl (t:Int×Int):List Int:=[t.1,t.2]
def Lex (t u:Int×Int):Prop:=t.1<u.1\/(t.1=u.1/\t.2<u.2)
structure C4 (n:Int)(ts:⋯):Prop where
 n3:3<=n
 n60:n<=60
 rng:∀ t∈ts,0<=t.1/\t.1<t.2/\t.2<n
 srt:ts.Pairwise Lex
 len:ts.length<=200
 conn:∀ S:Int->Prop,(∀ t∈ts,S t.1↔S t.2)->∀ u v,0<=u->u<n->0<=v->v<n->S u->S v
structure M7 (H:Hp)(ps:List (Addr×List Int))(ts:⋯):Prop where
 to:∀ x∈ps,H x.1=some (.tup (x.2.map V.int))
 eq:ps.map (·.2)=ts.map tl
def V3 (H:Hp)(q:Addr)(ts:⋯):Prop:=∃ ps:List (Addr×List Int),H q=some (.tup (ps.map λx=>V.ref x.1))/\M7 H ps ts
def M0 (H:Hp)(w:Addr)(n:Int)(ts:⋯):Prop:=∃ q,H w=some (.tup [.int n,.ref q])/\V3 H q ts
theorem M7.tp {H H':Hp}{ps:List (Addr×List Int)}{ts:⋯}(h:M7 H ps ts)(t:Tp H H'):M7 H' ps ts:=⟨λx hx=>t _ _ (h.to x hx),h.eq⟩
theorem V3.tp {H H':Hp}{q:Addr}{ts:⋯}(h:V3 H q ts)(t:Tp H H'):V3 H' q ts:=by
 obtain⟨ps,e,p⟩:=h;exact⟨ps,t _ _ e,p.tp t⟩
theorem M0.tp {H H':Hp}{w:Addr}{n:Int}{ts:⋯}(h:M0 H w n ts)(t:Tp H H'):M0 H' w n ts:=by
 obtain⟨q,e,p⟩:=h;exact⟨q,t _ _ e,p.tp t⟩
theorem M7.get {H:Hp}{ps:List (Addr×List Int)}{ts:⋯}(h:M7 H ps ts){i:Nat}{v:V}(e:(ps.map λx=>V.ref x.1)[i]?=some v) :
  ∃ a t,v=.ref a/\ts[i]?=some t/\H a=some (.tup [.int t.1,.int t.2]):=by
 rw[aF] at e;cases hx:ps[i]? with
 | none=>rw[hx] at e;cases e
 | some x =>
  rw[hx] at e;have e1:V.ref x.1=v:=aP e;have e2:(ps.map (·.2))[i]?=some x.2:=by rw[aF,hx];rfl
  rw[h.eq,aF] at e2;cases ht:ts[i]? with
  | none=>rw[ht] at e2;cases e2
  | some t =>
   rw[ht] at e2;have e3:tl t=x.2:=aP e2;refine⟨x.1,t,e1.symm,rfl,?_⟩;rw[h.to x (aG hx),<- e3];rfl
theorem M7.len {H:Hp}{ps:List (Addr×List Int)}{ts:⋯}(h:M7 H ps ts):ps.length=ts.length:=by
 have:=congrArg iT h.eq;simpa using this
def un (l:List Int):Int×Int:=(l.getD 0 0,l.getD 1 0)
theorem a7P (t:Int×Int):un (tl t)=t:=rfl
theorem M7.of_perm {H:Hp}{ps:List (Addr×List Int)}{ts:⋯}(h:∀ x∈ps,H x.1=some (.tup (x.2.map V.int)))(pm:(ps.map (·.2)).Perm (ts.map tl)):∃ ts',ts'.Perm ts/\M7 H ps ts':=by
 refine⟨(ps.map (·.2)).map un,?_,h,?_⟩
 ·have:=pm.map un;rw[cb (l:=ts),show (un ∘ tl)=id from funext a7P,List.map_id] at this;exact this
 ·rw[cb];conv=>lhs;rw[<- List.map_id (ps.map (·.2))]
  refine cI λl hl=>?_
  obtain⟨t,_,rfl⟩:=aR.mp (pm.mem_iff.mp hl);rfl
theorem M7.perm {H:Hp}{ps ps':List (Addr×List Int)}{ts:⋯}(h:M7 H ps ts)(pm:ps'.Perm ps):∃ ts',ts'.Perm ts/\M7 H ps' ts' :=
 M7.of_perm (λx hx=>h.to x (pm.mem_iff.mp hx)) (by rw[<- h.eq];exact pm.map _)
theorem M7.srt {H:Hp}{ps:List (Addr×List Int)}{ts:⋯}(h:M7 H ps ts)(s:ps.Pairwise λx y=>HT.lexLt y.2 x.2=false):ts.Pairwise λx y=>HT.lexLt (tl y) (tl x)=false:=by
 have h1:(ps.map (·.2)).Pairwise λx y=>HT.lexLt y x=false:=bT.mpr s
 rw[h.eq] at h1;exact List.pairwise_map.mp h1
theorem M7.src {K:ah}{H:Hp}{p:Addr}{ps:List (Addr×List Int)}{ts:⋯}(h:M7 H ps ts)(e:H p=some (.lst (ps.map λx=>V.ref x.1))):b3g K H p ps:=by
 refine⟨.inl (SqL.of e),λx hx=>⟨h.to x hx,λe2=>?_⟩⟩;have:x.2∈ps.map (·.2):=fS hx;rw[h.eq] at this;obtain⟨t,_,e3⟩:=aR.mp this;rw[e2] at e3;cases e3
theorem M7.snoc {H:Hp}{ps:List (Addr×List Int)}{ts:⋯}(h:M7 H ps ts){q:Addr}{t:Int×Int}(e:H q=some (.tup [.int t.1,.int t.2])):M7 H (ps++[(q,tl t)]) (ts++[t]):=by
 refine⟨λx hx=>?_,by rw[ap,ap,h.eq];rfl⟩;rcases aj.mp hx with hx | hx
 ·exact h.to x hx
 ·cases ag.mp hx;exact e
def nm (ks:List Int)(u:Int):Int:=ks.getD u.toNat 0
def ren (ks:List Int)(t:Int×Int):Int×Int:=(if nm ks t.2<nm ks t.1 then nm ks t.2 else nm ks t.1,if nm ks t.2>nm ks t.1 then nm ks t.2 else nm ks t.1)
section
variable {ks:List Int}{n:Int}
theorem a6s (hp:ks.Perm (B0 0 n.toNat)){u:Int}(h0:0<=u)(h1:u<n):ks[u.toNat]?=some (nm ks u):=by
 have hl:ks.length=n.toNat:=by rw[hp.length_eq,B1]
 have hu:u.toNat<ks.length:=∅
 unfold nm;rw[cB,au hu];rfl
theorem a8F (hp:ks.Perm (B0 0 n.toNat)){u:Int}(h0:0<=u)(h1:u<n):0<=nm ks u/\nm ks u<n:=by
 have hm:=hp.mem_iff.mp (aG (a6s hp h0 h1));unfold B0 at hm;obtain⟨i,hi,e⟩:=aR.mp hm;have:=bh.mp hi;omega
theorem a1d (hp:ks.Perm (B0 0 n.toNat)){u v:Int}(h0:0<=u)(h1:u<n)(k0:0<=v)(k1:v<n)(e:nm ks u=nm ks v):u=v:=by
 have hnd:ks.Nodup:=hp.nodup_iff.mpr (by
  unfold B0;refine bT.mpr (List.Pairwise.imp ?_ cE)
  intro a b h e;omega)
 have a1:=a6s hp h0 h1;have a2:=a6s hp k0 k1;rw[<- e] at a2;have hl:ks.length=n.toNat:=by rw[hp.length_eq,B1]
 have:=(j7 (l:=ks) (i:=u.toNat) (j:=v.toNat) ∅ hnd).mp (by rw[a1,a2]);omega
theorem a8E (hp:ks.Perm (B0 0 n.toNat)){v:Int}(k0:0<=v)(k1:v<n):∃ u,0<=u/\u<n/\nm ks u=v:=by
 have hm:v∈B0 0 n.toNat:=by
  unfold B0;exact aR.mpr ⟨v.toNat,bh.mpr ∅,∅⟩
 obtain⟨i,hi,e⟩:=dy (hp.mem_iff.mpr hm);have hl:ks.length=n.toNat:=by rw[hp.length_eq,B1]
 refine⟨(i:Int),∅,∅,?_⟩;unfold nm;rw[cB,bN,au hi];exact e
theorem a3X {t u:Int×Int}:HT.lexLt (tl t) (tl u)=true↔Lex t u:=by
 unfold tl Lex;rw[HT.lexLt_cons];split
 ·rename_i h;rw[HT.lexLt_cons];split
  ·rename_i h2;constructor
   ·intro e;cases e
   ·intro e;omega
  ·rename_i h2;rw[decide_eq_true_iff];constructor
   ·intro e;exact .inr ⟨h,e⟩
   ·intro e;rcases e with e | e
    ·omega
    ·exact e.2
 ·rename_i h;rw[decide_eq_true_iff];constructor
  ·intro e;exact .inl e
  ·intro e;rcases e with e | e
   ·exact e
   ·exact absurd e.1 h
end
end L2
end
section
namespace L2
open PySem
def nb (ts:⋯)(v:Int):List Int:=ts.filterMap λt=>if t.1=v then some t.2 else if t.2=v then some t.1 else none
def G9 (n:Int)(ts:⋯):List (List Int):=(List.range n.toNat).map λ(v:Nat)=>nb ts (v:Int)
structure E5 (H:Hp)(p:Addr)(as:List Addr)(rows:List (List Int)):Prop where
 top:H p=some (.lst (as.map V.ref))
 len:as.length=rows.length
 nd:as.Nodup
 np:p∉as
 row:∀(i:Nat) a r,as[i]?=some a->rows[i]?=some r->H a=some (.lst (r.map V.int))
section
variable {H H':Hp}{p:Addr}{as:List Addr}{rows:List (List Int)}
theorem E5.mono (h:E5 H p as rows)(k:∀ a o,a=p\/a∈as->H a=some o->H' a=some o):E5 H' p as rows :=
 ⟨k _ _ (.inl rfl) h.top,h.len,h.nd,h.np,λi a r ha hr=>k _ _ (.inr (aG ha)) (h.row i a r ha hr)⟩
theorem E5.same (h:E5 H p as rows)(s:A9 H H'):E5 H' p as rows:=h.mono λa o _ e=>s a o e
theorem E5.kp {d:Addr}(h:E5 H p as rows)(k:Kp d H H')(hp:d≠p)(ha:d∉as):E5 H' p as rows :=
 h.mono λa o q e=>k a o (λe2=>by subst e2;exact q.elim hp ha) e
theorem E5.app (h:E5 H p as rows){i:Nat}{a:Addr}{r:List Int}(ha:as[i]?=some a)(hr:rows[i]?=some r)(x:Int):E5 (upd H a (.lst ((r++[x]).map V.int))) p as (rows.set i (r++[x])):=by
 have hpa:p≠a:=λe=>h.np (by rw[e];exact aG ha)
 refine⟨by rw[B3 hpa];exact h.top,by rw[eI];exact h.len,h.nd,h.np,λj b s hb hs=>?_⟩;by_cases e:j=i
 ·subst e;rw[ha] at hb;cases hb;rw[cT (aq.mp hr).1] at hs;cases hs;exact A3
 ·have hba:b≠a:=λe2=>by
   subst e2;exact e ((j7 (aq.mp hb).1 h.nd).mp (by rw[hb,ha]))
  rw[dh (dZ e)] at hs;rw[B3 hba];exact h.row j b s hb hs
theorem E5.snoc (h:E5 H p as rows){q:Addr}(hq:H q=none){r:List Int}:E5 (upd (upd H q (.lst (r.map V.int))) p (.lst ((as++[q]).map V.ref))) p (as++[q]) (rows++[r]):=by
 have hpq:p≠q:=E4 h.top hq;have hqa:q∉as:=λhm=>by
  obtain⟨i,hi,e⟩:=dy hm;have hi2:i<rows.length:=by have:=h.len;omega
  have:=h.row i q rows[i] (by rw[au hi,e]) (au hi2);rw[hq] at this;cases this
 refine⟨A3,by rw[ak,ak,h.len];rfl,?_,?_,?_⟩
 ·rw[b9];exact⟨h.nd,by simp,λa ha b hb e=>by simp at hb;subst hb;subst e;exact hqa ha⟩
 ·intro hm;rcases aj.mp hm with hm | hm
  ·exact h.np hm
  ·exact hpq (ag.mp hm)
 ·intro i a s ha hs;by_cases hi:i<as.length
  ·rw[bj hi] at ha;rw[bj (by rw[<- h.len];exact hi)] at hs;have ham:=aG ha;have h1:a≠p:=λe=>by subst e;exact h.np ham
   have h2:a≠q:=λe=>by subst e;exact hqa ham
   rw[B3 h1,B3 h2];exact h.row i a s ha hs
  ·rw[bP ∅] at ha;rw[bP (by rw[<- h.len];omega)] at hs;have e0:i-as.length=0:=by
    have:=(aq.mp ha).1;simp at this;omega
   rw[e0] at ha;rw[<- h.len,e0] at hs;cases ha;cases hs;rw[B3 hpq.symm,A3]
theorem E5.nil (h:H p=some (.lst [])):E5 H p [] []:=⟨h,rfl,by simp,by simp,λi a r ha=>by cases ha⟩
theorem E5.get (h:E5 H p as rows){v:Int}(h0:0<=v){r:List Int}(hr:rows[v.toNat]?=some r):∃ a,as[v.toNat]?=some a/\atI (as.map V.ref) v=some (.ref a)/\H a=some (.lst (r.map V.int))/\a≠p:=by
 have hl:=(aq.mp hr).1;have hl2:v.toNat<as.length:=by have:=h.len;omega
 have ha:as[v.toNat]?=some as[v.toNat]:=au hl2;refine⟨_,ha,?_,h.row _ _ _ ha hr,λe=>h.np (by rw[<- e];exact aG ha)⟩;have:=R0 (xs:=as.map V.ref) (j:=v.toNat) (v:=V.ref as[v.toNat]) (by rw[aF,ha];rfl);rw[aY h0] at this;exact this
end
theorem C8 {n:Int}{ts:⋯}{v:Int}(h0:0<=v)(h1:v<n):(G9 n ts)[v.toNat]?=some (nb ts v):=by
 unfold G9;rw[aF,gY ∅];show some (nb ts ((v.toNat:Nat):Int))=_;rw[aY h0]
theorem E8 (n:Int)(ts:⋯):(G9 n ts).length=n.toNat:=by unfold G9;simp
theorem a6u (ts:⋯)(t:Int×Int)(v:Int):nb (ts++[t]) v=nb ts v++(if t.1=v then [t.2] else if t.2=v then [t.1] else []):=by
 unfold nb;rw[List.filterMap_append];congr 1;by_cases h1:t.1=v
 ·simp[h1]
 ·by_cases h2:t.2=v
  ·simp[h1,h2]
  ·simp[h1,h2]
theorem a4O {n:Int}{ts:⋯}{t:Int×Int}(h0:0<=t.1)(h1:t.1<t.2)(h2:t.2<n) :
  G9 n (ts++[t])=((G9 n ts).set t.1.toNat (nb ts t.1++[t.2])).set t.2.toNat (nb ts t.2++[t.1]):=by
 refine dw λi=>?_
 by_cases hi:i<n.toNat
 ·have hl:∀ us:⋯,(G9 n us)[i]?=some (nb us (i:Int)):=λus=>by
   have:=C8 (n:=n) (ts:=us) (v:=(i:Int)) ∅ ∅;simpa using this
  rw[hl,a6u];by_cases e2:i=t.2.toNat
  ·subst e2;rw[cT (by rw[eI,E8];exact hi)];rw[aY ∅,if_neg ∅,if_pos rfl]
  ·rw[dh (dZ e2)];by_cases e1:i=t.1.toNat
   ·subst e1;rw[cT (by rw[E8];exact hi)];rw[aY h0,if_pos rfl]
   ·rw[dh (dZ e1),hl,if_neg ∅,if_neg ∅,bp]
 ·rw[bS (by rw[E8];omega),bS (by rw[eI,eI,E8];omega)]
theorem X2 {ts:⋯}{v x:Int}:x∈nb ts v↔(v,x)∈ts\/((x,v)∈ts)/\(x≠v\/(v,x)∈ts):=by
 unfold nb;rw[jY];constructor
 ·rintro⟨t,ht,e⟩;obtain⟨a,b⟩:=t;dsimp only at e;split at e
  ·rename_i h;cases e;subst h;exact .inl ht
  ·rename_i h;split at e
   ·rename_i h2;cases e;subst h2;exact .inr ⟨ht,.inl h⟩
   ·cases e
 ·rintro (h | ⟨h,h'⟩)
  ·exact⟨_,h,by simp⟩
  ·rcases h' with h' | h'
   ·exact⟨_,h,by simp[h']⟩
   ·exact⟨_,h',by simp⟩
def L5 (n:Int)(ts:⋯):Prop:=∀ t∈ts,0<=t.1/\t.1<t.2/\t.2<n
theorem X1 {n:Int}{ts:⋯}(h:L5 n ts){v x:Int}:x∈nb ts v↔v∈nb ts x:=by
 rw[X2,X2];constructor
 ·rintro (q | ⟨q,q'⟩)
  ·exact .inr ⟨q,.inl (by have:=h _ q;dsimp only at this;omega)⟩
  ·exact .inl q
 ·rintro (q | ⟨q,q'⟩)
  ·exact .inr ⟨q,.inl (by have:=h _ q;dsimp only at this;omega)⟩
  ·exact .inl q
theorem L6 {n:Int}{ts:⋯}(h:L5 n ts){v x:Int}(hx:x∈nb ts v):0<=x/\x<n/\0<=v/\v<n/\x≠v:=by
 rcases X2.mp hx with q | ⟨q,_⟩
 ·have:=h _ q;dsimp only at this;omega
 ·have:=h _ q;dsimp only at this;omega
theorem U6 {n:Int}{ts:⋯}(h:L5 n ts)(hs:ts.Pairwise Lex)(v:Int):(nb ts v).Pairwise (·<·):=by
 unfold nb;rw[List.pairwise_filterMap];refine fN ?_ hs;intro a b ha hb hab x hx y hy;have h1:=h a ha;have h2:=h b hb;unfold Lex at hab;have cx:(a.1=v/\a.2=x)\/(a.2=v/\a.1=x):=by
  split at hx
  ·rename_i q;cases hx;exact .inl ⟨q,rfl⟩
  ·split at hx
   ·rename_i q;cases hx;exact .inr ⟨q,rfl⟩
   ·cases hx
 have cy:(b.1=v/\b.2=y)\/(b.2=v/\b.1=y):=by
  split at hy
  ·rename_i q;cases hy;exact .inl ⟨q,rfl⟩
  ·split at hy
   ·rename_i q;cases hy;exact .inr ⟨q,rfl⟩
   ·cases hy
 omega
theorem Y2 {ts:⋯}(v:Int):(nb ts v).length<=ts.length:=by unfold nb;exact List.length_filterMap_le _ _
theorem a1r {l l':List Int}(p:l'.Perm l)(s:l'.Pairwise (·<=·))(h:l.Pairwise (·<·)):l'=l :=
 eO (le:=(·<=·)) (λ_ _ _ _ a b=>Int.le_antisymm a b) s (h.imp λa=>Int.le_of_lt a) p
theorem W9 {l l':List Int}(h:l.Pairwise (·<·))(h':l'.Pairwise (·<·))(e:∀ x,x∈l↔x∈l'):l=l':=by
 refine eO (le:=(·<·)) (λa b _ _ x y=>∅) h h' ?_;refine (cc (h.imp λx e=>∅) (h'.imp λx e=>∅)).mpr e
structure a5Y (H Hc:Hp)(p:Addr)(as:List Addr)(rows:List (List Int)):Prop where
 same:A9 H Hc
 np:H p=none
 na:∀ a∈as,H a=none
 rows:E5 Hc p as rows
theorem a0k (n:Int):G9 n []=List.replicate n.toNat []:=by
 unfold G9 nb;refine dw λi=>?_
 by_cases h:i<n.toNat
 ·rw[aF,gY h,jq,if_pos h];rfl
 ·rw[bS (by simp;omega),bS (by simp;omega)]
theorem a5Y.step {H Hc:Hp}{p:Addr}{as:List Addr}{n:Int}{us:⋯}{t:Int×Int}(h:a5Y H Hc p as (G9 n us))(h0:0<=t.1)(h1:t.1<t.2)(h2:t.2<n) :
  ∃ a1 a2,atI (as.map V.ref) t.1=some (.ref a1)/\Hc a1=some (.lst ((nb us t.1).map V.int))/\(upd Hc a1 (.lst ((nb us t.1).map V.int++[V.int t.2]))) p=some (.lst (as.map V.ref))/\atI (as.map V.ref) t.2=some (.ref a2) /\
   (upd Hc a1 (.lst ((nb us t.1).map V.int++[V.int t.2]))) a2=some (.lst ((nb us t.2).map V.int)) /\
   a5Y H (upd (upd Hc a1 (.lst ((nb us t.1).map V.int++[V.int t.2]))) a2 (.lst ((nb us t.2).map V.int++[V.int t.1]))) p as (G9 n (us++[t])):=by
 have g1:=C8 (n:=n) (ts:=us) h0 (show t.1<n by omega);have g2:=C8 (n:=n) (ts:=us) (show 0<=t.2 by omega) h2;obtain⟨a1,e1,r1,c1,p1⟩:=h.rows.get h0 g1;have R1:=h.rows.app e1 g1 t.2;have g2':((G9 n us).set t.1.toNat (nb us t.1++[t.2]))[t.2.toNat]?=some (nb us t.2):=by
  rw[dh ∅];exact g2
 obtain⟨a2,e2,r2,c2,p2⟩:=R1.get (show 0<=t.2 by omega) g2';have R2:=R1.app e2 g2' t.1;rw[<- a4O h0 h1 h2] at R2;rw[ap] at R1 R2 c2;rw[ap] at R2;refine⟨a1,a2,r1,c1,R1.top,r2,c2,?_,h.np,h.na,R2⟩;exact (h.same.upd (h.na _ (aG e1))).upd (h.na _ (aG e2))
def a1g (H:Hp)(p:Addr)(i:Nat)(τ:St)(Hc:Hp):Prop:=∃(c:Option V) (as:List Addr),τ=[c]/\a5Y H Hc p as (List.replicate i [])
theorem V3.get {H:Hp}{q:Addr}{ts:⋯}(h:V3 H q ts):∃ xs,H q=some (.tup xs)/\xs.length=ts.length/\∀(i:Nat) v,xs[i]?=some v->∃ a t,v=.ref a/\ts[i]?=some t/\H a=some (.tup [.int t.1,.int t.2]):=by
 obtain⟨ps,e,hp⟩:=h;exact⟨_,e,by rw[ae];exact hp.len,λi v hv=>hp.get hv⟩
def V6:Sp:=λvs H Q _=>∃(w:Addr) (n:Int) (ts:⋯),vs=[.ref w]/\M0 H w n ts/\0<=n/\n<=1000/\ts.length<=1000/\L5 n ts /\
 ∀(p:Addr) (as:List Addr) (H':Hp),A9 H H'->H p=none->(∀ a∈as,H a=none)->E5 H' p as (G9 n ts)->Q (.ref p) H'
def a3L:Sp:=λvs H Q _=>∃(w:Addr) (n:Int) (ts:⋯),vs=[.ref w]/\M0 H w n ts/\0<=n/\n<=1000/\ts.length<=1000/\L5 n ts/\ts.Pairwise Lex /\
 ∀(p:Addr) (as:List Addr) (H':Hp),A9 H H'->H p=none->(∀ a∈as,H a=none)->E5 H' p as (G9 n ts)->Q (.ref p) H'
end L2
end
section
namespace L2
open PySem
theorem a6I (x:Int)(us:List Int):inV (.int x) (us.map V.int)=decide (x∈us):=by
 unfold inV;induction us with
 | nil=>rfl
 | cons u r ih =>
  rw[aH,fm,ih];show (decide (u=x) || _)=_;by_cases h:u=x
  ·subst h;simp
  ·have h':¬ x=u:=λe=>h e.symm
   simp[h,h']
theorem a3v (us:List Int):(us.map V.int).all a0J=true:=by
 rw[gw];intro v hv;obtain⟨u,_,rfl⟩:=aR.mp hv;rfl
section
variable {K:ah}{H:Hp}{p:Addr}{us:List Int}{x:Int}{Q:VK}
theorem a0p (h:SqL K H p (us.map V.int)\/SqT K H p (us.map V.int))(q:Q (.bl (decide (x∈us))) H):rIn K false (.int x) (.ref p) H Q :=
 ⟨p,_,rfl,h,rfl,a3v us,by rw[a6I];exact q⟩
theorem a1c (h:SqL K H p (us.map V.int)\/SqT K H p (us.map V.int))(q:Q (.bl (!decide (x∈us))) H):rIn K true (.int x) (.ref p) H Q :=
 ⟨p,_,rfl,h,rfl,a3v us,by rw[a6I];exact q⟩
end
def kvI (us:List Int):List (Key×V):=us.map λx=>(dN x,V.bl true)
def a7K (us:List Int)(x:Int):List Int:=if x∈us then us else us++[x]
theorem a6E (us:List Int):(kvI us).length=us.length:=by unfold kvI;simp
theorem a3Y {a b:Int}:(dN a:Key)=dN b↔a=b:=⟨λe=>by injection e,λe=>by rw[e]⟩
theorem a9R (us:List Int)(x:Int):S2 (kvI us) (dN x) (V.bl true)=kvI (a7K us x):=by
 unfold S2 a7K;by_cases h:x∈us
 ·have h1:((kvI us).any λkv=>decide (kv.1=dN x))=true:=by
   rw[eY];exact⟨_,fS h,by simp⟩
  rw[if_pos h1,if_pos h];unfold kvI;rw[cb];refine cI λt ht=>?_
  show (if _ then _ else _)=_;split<;>rfl
 ·have h1:¬ ((kvI us).any λkv=>decide (kv.1=dN x))=true:=by
   rw[eY];rintro⟨kv,hk,e⟩;obtain⟨t,ht,rfl⟩:=aR.mp hk;have:=a3Y.mp (of_decide_eq_true e);subst this;exact h ht
  rw[if_neg h1,if_neg h];unfold kvI;rw[ap];rfl
theorem a9x (us:List Int)(x:Int):(T4 (kvI us) (dN x)).isSome=decide (x∈us):=by
 induction us with
 | nil=>rfl
 | cons u r ih =>
  unfold kvI at ih ⊢;rw[aH];by_cases h:u=x
  ·rw[N2 (a3Y.mpr h)];subst h;simp
  ·rw[N3 (λe=>h (a3Y.mp e)),ih];have h':¬ x=u:=λe=>h e.symm
   simp[h']
theorem a8M (us:List Int):(kvI us).map (·.1)=us.map (dN:Int->Key):=by
 unfold kvI;rw[cb];rfl
theorem a7q {us:List Int}(h:us.length<=100000):(kvI us).length<sizeLine:=by rw[a6E];exact C0 ∅
theorem X0:∀ {us l:List Int},us.Nodup->us ⊆ l->us.length<=l.length
 | [],_,_,_=>bo _
 | x::r,l,hn,hs=>by
  have hx:x∈l:=hs (aM ..);have hn':=bW.mp hn;have:=X0 (us:=r) (l:=l.erase x) hn'.2 (λy hy=>(eN (λe=>by subst e;exact hn'.1 hy)).mpr (hs (aI _ hy)));rw[dJ hx] at this;have:=fz hx;rw[aD];omega
theorem R5 {us:List Int}{n:Int}(hnd:us.Nodup)(h:∀ x∈us,0<=x/\x<n):us.length<=n.toNat:=by
 have hs:us ⊆ B0 0 n.toNat:=λx hx=>by
  obtain⟨h0,h1⟩:=h x hx;unfold B0;exact aR.mpr ⟨x.toNat,bh.mpr ∅,∅⟩
 have:=X0 hnd hs;rw[B1] at this;exact this
theorem V7 (n:Nat):(B0 0 n).Pairwise (·<·):=by
 unfold B0;refine bT.mpr (cE.imp ?_);intro a b h;omega
theorem E6 {n:Nat}{x:Int}:x∈B0 0 n↔0<=x/\x<n:=by
 unfold B0;rw[aR];constructor
 ·rintro⟨i,hi,rfl⟩;have:=bh.mp hi;omega
 ·rintro⟨h0,h1⟩;exact⟨x.toNat,bh.mpr ∅,∅⟩
theorem a4d (p:Int->Bool){x:Int}(h:p x=true):[x].filter p=[x]:=cz h
theorem a6K (p:Int->Bool){x:Int}(h:¬ p x=true):[x].filter p=[]:=cP h
theorem E7 {l:List Int}(h:l.Pairwise (·<·)):l.Nodup:=h.imp λx e=>∅
theorem a2w {l l':List Int}(p:l'.Perm l)(s:l'.Pairwise (·<=·))(h:l.Nodup):l'.Pairwise (·<·):=by
 refine (fO s (p.nodup_iff.mpr h)).imp ?_;rintro a b ⟨h1,h2⟩;omega
end L2
end
section
namespace STab
open PySem PySem.SetTable
def Ris (xs:Array Nat):Prop:=∀ i j (hi:i<xs.size) (hj:j<xs.size),i<j->xs[i]<xs[j]
theorem go_spec {xs:Array Nat}{j:Nat}(hr:Ris xs):∀(fuel lo hi:Nat),lo<=hi->hi<=xs.size->hi-lo<=fuel ->
  (∀ i (h:i<xs.size),i<lo->xs[i]<j)->(∀ i (h:i<xs.size),hi<=i->j<=xs[i]) ->
  below.go xs j fuel lo hi<=xs.size/\(∀ i (h:i<xs.size),i<below.go xs j fuel lo hi->xs[i]<j)/\(∀ i (h:i<xs.size),below.go xs j fuel lo hi<=i->j<=xs[i])
 | 0,lo,hi,h1,h2,h3,h4,h5=>by
  have e:hi=lo:=∅
  subst e;unfold below.go;exact⟨h2,h4,h5⟩
 | fuel+1,lo,hi,h1,h2,h3,h4,h5=>by
  unfold below.go;by_cases hlt:lo<hi
  ·rw[if_pos hlt];have hm:(lo+hi) / 2<xs.size:=∅
   have hg:xs.getD ((lo+hi) / 2) j=xs[(lo+hi) / 2]:=by simp[Array.getD,hm]
   dsimp only;rw[hg];by_cases hc:xs[(lo+hi) / 2]<j
   ·rw[if_pos hc];refine go_spec hr fuel _ _ ∅ h2 ∅ (λi h hi'=>?_) h5;by_cases he:i=(lo+hi) / 2
    ·subst he;exact hc
    ·exact iF (hr i _ h hm ∅) hc
   ·rw[if_neg hc];refine go_spec hr fuel _ _ ∅ ∅ ∅ h4 (λi h hi'=>?_);by_cases he:i=(lo+hi) / 2
    ·subst he;omega
    ·have:=hr _ i hm h ∅;omega
  ·rw[if_neg hlt];have e:hi=lo:=∅
   subst e;exact⟨h2,h4,h5⟩
theorem below_spec {xs:Array Nat}(hr:Ris xs)(j:Nat):below xs j<=xs.size/\(∀ i (h:i<xs.size),i<below xs j->xs[i]<j)/\(∀ i (h:i<xs.size),below xs j<=i->j<=xs[i]):=by
 unfold below;exact go_spec hr _ _ _ (bo _) (aC _) ∅ (λi h hi=>absurd hi (cQ _)) (λi h hi=>absurd h (Nat.not_lt.mpr hi))
theorem below_at {xs:Array Nat}(hr:Ris xs){i:Nat}(hi:i<xs.size):below xs xs[i]=i:=by
 obtain⟨h1,h2,h3⟩:=below_spec hr xs[i];rcases cU (below xs xs[i]) i with h | h | h
 ·have:=h3 (below xs xs[i]) ∅ (aC _);have:=hr _ i ∅ hi h;omega
 ·exact h
 ·have:=h2 i hi h;omega
theorem below_next {xs:Array Nat}(hr:Ris xs){i:Nat}(hi:i<xs.size):below xs (xs[i]+1)=i+1:=by
 obtain⟨h1,h2,h3⟩:=below_spec hr (xs[i]+1);rcases cU (below xs (xs[i]+1)) (i+1) with h | h | h
 ·have:=h3 i hi ∅;omega
 ·exact h
 ·have:=h2 (i+1) ∅ h;have:=hr i (i+1) hi ∅ ∅;omega
theorem below_zero {xs:Array Nat}(hr:Ris xs):below xs 0=0:=by
 obtain⟨h1,h2,h3⟩:=below_spec hr 0;rcases Nat.eq_zero_or_pos (below xs 0) with h | h
 ·exact h
 ·have:=h2 0 ∅ h;omega
theorem has_none (j:Nat):has #[] j=false:=by
 unfold has;simp
theorem slot_live {t:SetTable}{j i:Nat}(h:t.slot j=.live i):t.place[i]?=some j:=by
 unfold slot at h;dsimp only at h;split at h
 ·rename_i hc;injection h with h
  subst h;simpa using hc
 ·split at h<;>exact Slot.noConfusion h
theorem slot_dummy {t:SetTable}{j:Nat}(hd:t.dummies=#[]):t.slot j≠.dummy:=by
 intro h;unfold slot at h;dsimp only at h;rw[hd,has_none] at h;split at h
 ·exact Slot.noConfusion h
 ·simp at h
theorem slot_empty {t:SetTable}{j:Nat}(hr:Ris t.place)(h:t.slot j=.empty):j∉t.place.toList:=by
 intro hm;obtain⟨i,hi,e⟩:=dy hm;have hi':i<t.place.size:= ~~~hi
 have e':t.place[i]=j:= ~~~e
 have hb:=below_at hr hi';rw[e'] at hb;unfold slot at h;dsimp only at h;rw[hb,aT hi',e'] at h;simp at h
theorem slot_free {t:SetTable}{j:Nat}(hd:t.dummies=#[])(h:j∉t.place.toList):t.slot j=.empty:=by
 cases hs:t.slot j with
 | empty=>rfl
 | dummy=>exact absurd hs (slot_dummy hd)
 | live i =>
  have:=slot_live hs;exact absurd (by rw[<- aZ] at this;exact aG this) h
theorem ris_of {xs:Array Nat}(h:xs.toList.Pairwise (·<·)):Ris xs:=by
 intro i j hi hj hij;have:=dG.mp h i j (~~~hi) (~~~hj) hij;simpa using this
theorem of_ris {xs:Array Nat}(h:Ris xs):xs.toList.Pairwise (·<·):=by
 refine List.pairwise_iff_getElem.mpr λi j hi hj hij=>?_
 have:=h i j (~~~hi) (~~~hj) hij;simpa using this
theorem ris_put {xs:Array Nat}{j:Nat}(hr:Ris xs)(hn:j∉xs.toList):Ris (insertAt xs (below xs j) j):=by
 obtain⟨h1,h2,h3⟩:=below_spec hr j;refine ris_of ?_;rw[toList_insertAt];have hp:=of_ris hr;have hlo:∀ x∈xs.toList.take (below xs j),x<j:=by
  intro x hx;obtain⟨i,hi,e⟩:=dy hx;have hi2:i<below xs j/\i<xs.size:=by simp at hi;omega
  have:=h2 i hi2.2 hi2.1;simp at e;rw[<- e];exact this
 have hhi:∀ x∈xs.toList.drop (below xs j),j<x:=by
  intro x hx;have hxm:x∈xs.toList:=List.mem_of_mem_drop hx;obtain⟨i,hi,e⟩:=dy hx;have hi2:below xs j+i<xs.size:=by simp at hi;omega
  have:=h3 (below xs j+i) hi2 ∅;simp at e;rw[e] at this;have:j≠x:=λe=>hn (e ▸ hxm)
  omega
 refine List.pairwise_append.mpr ⟨hp.sublist (iw _ _),gb.mpr ⟨hhi,hp.sublist (j9 _ _)⟩,?_⟩;intro a ha b hb;rcases aJ.mp hb with rfl | hb
 ·exact hlo a ha
 ·exact iF (hlo a ha) (hhi b hb)
def f5 (N i:Nat):Nat:=(i*5+1) % N
def it5 (N:Nat):Nat->Nat->Nat
 | 0,i=>i
 | n+1,i=>it5 N n (f5 N i)
theorem it5_add (N:Nat):∀(m n i:Nat),it5 N (m+n) i=it5 N n (it5 N m i)
 | 0,n,i=>by rw[du];rfl
 | m+1,n,i=>by rw[jK];show it5 N (m+n) (f5 N i)=it5 N n (it5 N m (f5 N i));exact it5_add N m n _
def orb (N:Nat):Nat->Nat->List Nat
 | 0,_=>[]
 | n+1,i=>i::orb N n (f5 N i)
theorem orb_mem (N:Nat):∀(n i r:Nat),r∈orb N n i->∃ k,k<n/\it5 N k i=r
 | 0,_,_,h=>by simp[orb] at h
 | n+1,i,r,h=>by
  rcases aJ.mp h with rfl | h
  ·exact⟨0,fK _,rfl⟩
  ·obtain⟨k,hk,e⟩:=orb_mem N n _ r h;exact⟨k+1,Nat.succ_lt_succ hk,e⟩
structure Full (N:Nat):Prop where
 all:∀ r,r<N->r∈orb N N 0
 back:it5 N N 0=0
theorem full_of {N:Nat}(h1:(List.range N).all (λr=>(orb N N 0).contains r)=true)(h2:(it5 N N 0 == 0)=true):Full N :=
 ⟨λr hr=>by have:=List.all_eq_true.mp h1 r (bh.mpr hr);simpa using this, ~~~h2⟩
theorem full8:Full 8:=full_of (by decide +kernel) (by decide +kernel)
theorem full32:Full 32:=full_of (by decide +kernel) (by decide +kernel)
theorem full128:Full 128:=full_of (by decide +kernel) (by decide +kernel)
theorem full512:Full 512:=full_of (by decide +kernel) (by decide +kernel)
theorem Full.hit {N:Nat}(F:Full N){i r:Nat}(hi:i<N)(hr:r<N):∃ k,k<N/\it5 N k i=r:=by
 obtain⟨m,hm,em⟩:=orb_mem N N 0 i (F.all i hi);obtain⟨n,hn,en⟩:=orb_mem N N 0 r (F.all r hr);by_cases hmn:m<=n
 ·refine⟨n-m,∅,?_⟩;have:=it5_add N m (n-m) 0;rw[em,show m+(n-m)=n by omega,en] at this;exact this.symm
 ·refine⟨N-m+n,∅,?_⟩;have h1:=it5_add N m (N-m) 0;rw[em,show m+(N-m)=N by omega,F.back] at h1;rw[it5_add,<- h1,en]
def leaps (mask:Nat):Nat->Nat×Nat->Nat×Nat
 | 0,p=>p
 | n+1,p=>leaps mask n (leap mask p.1 p.2)
theorem leaps_add (mask:Nat):∀(m n:Nat) (p:Nat×Nat),leaps mask (m+n) p=leaps mask n (leaps mask m p)
 | 0,n,p=>by rw[du];rfl
 | m+1,n,p=>by rw[jK];show leaps mask (m+n) _=leaps mask n (leaps mask m _);exact leaps_add mask m n _
theorem leaps_snd (mask:Nat):∀(n:Nat) (p:Nat×Nat),(leaps mask n p).2=p.2 / 32 ^ n
 | 0,p=>by simp[leaps]
 | n+1,p=>by
  show (leaps mask n (leap mask p.1 p.2)).2=_;rw[leaps_snd];show p.2 / 32 / 32 ^ n=_;rw[Nat.div_div_eq_div_mul,Nat.pow_succ,Nat.mul_comm]
theorem leaps_fst (mask:Nat):∀(n:Nat) (p:Nat×Nat),p.1<=mask->(leaps mask n p).1<=mask
 | 0,p,h=>h
 | n+1,p,h=>leaps_fst mask n _ (dL (iC (p.1*5+1+p.2 / 32) (fK mask)))
theorem leaps_zero (mask:Nat):∀(n i:Nat),leaps mask n (i,0)=(it5 (mask+1) n i,0)
 | 0,i=>rfl
 | n+1,i=>by
  show leaps mask n (leap mask i 0)=_;have:leap mask i 0=(f5 (mask+1) i,0):=by simp[leap,f5]
  rw[this,leaps_zero];rfl
theorem leaps_hit {mask:Nat}(F:Full (mask+1)){i perturb r:Nat}(hi:i<=mask)(hp:perturb<2 ^ 64)(hr:r<=mask):∃ n,n<mask+14/\(leaps mask n (i,perturb)).1=r:=by
 have h2:(leaps mask 13 (i,perturb)).2=0:=by
  rw[leaps_snd];exact Nat.div_eq_of_lt (bB hp (by decide))
 have h1:=leaps_fst mask 13 (i,perturb) hi;have e:leaps mask 13 (i,perturb)=((leaps mask 13 (i,perturb)).1,0):=by rw[<- h2]
 obtain⟨k,hk,ek⟩:=F.hit (i:=(leaps mask 13 (i,perturb)).1) (r:=r) ∅ ∅;refine⟨13+k,∅,?_⟩;rw[leaps_add,e,leaps_zero];exact ek
def adv (t:SetTable):Nat->Probe->Probe
 | 0,p=>p
 | n+1,p=>adv t n (t.advance p)
theorem adv_add (t:SetTable):∀(m n:Nat) (p:Probe),adv t (m+n) p=adv t n (adv t m p)
 | 0,n,p=>by rw[du];rfl
 | m+1,n,p=>by rw[jK];show adv t (m+n) _=adv t n (adv t m _);exact adv_add t m n _
structure Good (t:SetTable)(p:Probe):Prop where
 i:p.i<=t.mask
 j:p.j+p.more<=t.mask
 more:p.more<=9
 perturb:p.perturb<2 ^ 64
 dummy:p.dummy=none
theorem runEnd_le {mask i:Nat}(h:i<=mask):i<=runEnd mask i/\runEnd mask i<=mask/\runEnd mask i-i<=9:=by
 unfold runEnd;split<;>omega
theorem Good.advance {t:SetTable}{p:Probe}(g:Good t p):Good t (t.advance p):=by
 obtain⟨h1,h2,h3,h4,h5⟩:=g;unfold SetTable.advance;split
 ·exact⟨h1,by simp only;omega,by simp only;omega,h4,h5⟩
 ·have hm:(leap t.mask p.i p.perturb).1<=t.mask:=dL (iC (p.i*5+1+p.perturb / 32) (fK t.mask));have hr:=runEnd_le hm;have hp:(leap t.mask p.i p.perturb).2<2 ^ 64:=j5 (Nat.div_le_self _ _) h4;exact⟨hm,by simp only;omega,by simp only;omega,hp,h5⟩
theorem good_start (t:SetTable)(h:Int):Good t (t.probeStart h):=by
 have hm:bits h % (t.mask+1)<=t.mask:=dL (iC (bits h) (fK t.mask));have hr:=runEnd_le hm;refine⟨hm,by simp only[probeStart];omega,by simp only[probeStart];omega,?_,rfl⟩;show bits h<2 ^ 64;unfold bits;have h1:=ft h (show (2 ^ 64:Int)≠0 by decide);have h2:=d9 h (show (0:Int)<2 ^ 64 by decide);have h3:(2 ^ 64:Int)=((2 ^ 64:Nat):Int):=by norm_cast
 omega
theorem to_leap (t:SetTable):∀(m:Nat) (p:Probe),p.more=m->∃ q,adv t (m+1) p=q/\q.j=(leap t.mask p.i p.perturb).1/\q.i=(leap t.mask p.i p.perturb).1/\q.perturb=(leap t.mask p.i p.perturb).2
 | 0,p,h=>by
  refine⟨_,rfl,?_⟩;show (t.advance p).j=_/\(t.advance p).i=_/\(t.advance p).perturb=_;unfold SetTable.advance;rw[if_neg ∅];exact⟨rfl,rfl,rfl⟩
 | m+1,p,h=>by
  have e:t.advance p={p with j:=p.j+1,more:=p.more-1}:=by unfold SetTable.advance;rw[if_pos ∅]
  show ∃ q,adv t (m+1) (t.advance p)=q/\_;rw[e];exact to_leap t m {p with j:=p.j+1,more:=p.more-1} (by simp only;omega)
theorem Good.adv {t:SetTable}:∀(n:Nat) {p:Probe},Good t p->Good t (STab.adv t n p)
 | 0,_,g=>g
 | n+1,_,g=>Good.adv n g.advance
theorem to_leaps (t:SetTable):∀(n:Nat) (p:Probe),Good t p->p.j=p.i->∃ m,m<=10*n/\(adv t m p).j=(leaps t.mask n (p.i,p.perturb)).1
 | 0,p,_,h=>⟨0,aC _,h⟩
 | n+1,p,g,_=>by
  obtain⟨q,hq,h1,h2,h3⟩:=to_leap t p.more p rfl;have gq:Good t q:=hq ▸ g.adv _;obtain⟨m,hm,e⟩:=to_leaps t n q gq (h1.trans h2.symm);refine⟨p.more+1+m,by have:=g.more;omega,?_⟩;rw[adv_add,hq,e,h2,h3];rfl
theorem start_head (t:SetTable)(h:Int):(t.probeStart h).j=(t.probeStart h).i:=rfl
theorem start_hit {t:SetTable}(F:Full (t.mask+1))(h:Int){r:Nat}(hr:r<=t.mask):∃ n,n<10*turns t.mask/\(adv t n (t.probeStart h)).j=r:=by
 have g:=good_start t h;obtain⟨n,hn,e⟩:=leaps_hit F g.i g.perturb hr;obtain⟨m,hm,e'⟩:=to_leaps t n _ g (start_head t h);refine⟨m,by unfold turns;omega,e'.trans e⟩
theorem probe_go {t:SetTable}{hashAt:Nat->Int}{h:Int}(hd:t.dummies=#[]):∀(fuel:Nat) (p:Probe) (n:Nat),Good t p->n<fuel->t.slot (adv t n p).j=.empty ->
    ∃ k,k<=n/\(∀ k',k'<k->∃ i,t.slot (adv t k' p).j=.live i/\hashAt i≠h) /\
      ((t.slot (adv t k p).j=.empty/\probe.go t hashAt h fuel p=some (.empty (adv t k p).j none)) \/
       ∃ i,t.slot (adv t k p).j=.live i/\hashAt i=h/\probe.go t hashAt h fuel p=some (.candidate (adv t k p).j i (t.advance (adv t k p))))
  | 0,p,n,_,hn,_=>absurd hn (cQ _)
  | fuel+1,p,n,g,hn,he=>by
    cases hs:t.slot p.j with
    | empty =>
      refine⟨0,bo _,λk' hk=>absurd hk (cQ _),.inl ⟨hs,?_⟩⟩;unfold probe.go;rw[hs];dsimp only;rw[g.dummy];rfl
    | dummy=>exact absurd hs (slot_dummy hd)
    | live i =>
      by_cases hi:hashAt i=h
      · refine⟨0,bo _,λk' hk=>absurd hk (cQ _),.inr ⟨i,hs,hi,?_⟩⟩
        unfold probe.go;rw[hs];dsimp only;rw[if_pos (~~~hi)];rfl
      · cases n with
        | zero=>exact absurd (hs.symm.trans he) (by simp)
        | succ n =>
          obtain⟨k,hk,hb,hr⟩:=probe_go hd fuel (t.advance p) n g.advance ∅ he;refine⟨k+1,∅,λk' hk'=>?_,?_⟩
          · cases k' with
            | zero=>exact⟨i,hs,hi⟩
            | succ k'=>exact hb k' ∅
          · have e:probe.go t hashAt h (fuel+1) p=probe.go t hashAt h fuel (t.advance p):=by
              rw[probe.go];rw[hs];dsimp only;rw[if_neg (~~~hi)]
            rw[e];exact hr
theorem nat_sub:∀ {us l:List Nat},us.Nodup->us ⊆ l->us.length<=l.length
 | [],_,_,_=>bo _
 | x::r,l,hn,hs=>by
  have hx:x∈l:=hs (aM ..);have hn':=bW.mp hn;have:=nat_sub (us:=r) (l:=l.erase x) hn'.2 (λy hy=>(eN (λe=>by subst e;exact hn'.1 hy)).mpr (hs (aI _ hy)));rw[dJ hx] at this;have:=fz hx;rw[aD];omega
theorem some_free {N:Nat}{xs:List Nat}(h:xs.length<N):∃ r,r<N/\r∉xs:=by
 apply aX;intro hn;have hall:∀ r,r∈List.range N->r∈xs:=λr hr=>aX λhx=>hn ⟨r,bh.mp hr,hx⟩
 have:(List.range N).length<=xs.length:=by
  exact nat_sub List.nodup_range hall
 simp at this;omega
structure Ok (t:SetTable)(n:Nat)(led:Bool):Prop where
 ris:Ris t.place
 dum:t.dummies=#[]
 size:t.place.size=n
 inn:∀ x∈t.place.toList,x<=t.mask
 full:Full (t.mask+1)
 plain:t.plain=true
 led:t.led=led
 room:n*5<t.mask*3
 mask:t.mask=7\/t.mask=31\/t.mask=127\/t.mask=511
theorem ok_fresh (led:Bool):Ok (.fresh 0 0 led) 0 led :=
 ⟨λi j hi=>absurd hi (cQ _),rfl,rfl,λx h=>by simp[SetTable.fresh] at h,full8,rfl,rfl,(by show 0*5<7*3;decide),.inl rfl⟩
theorem Ok.fill {t:SetTable}{n:Nat}{led:Bool}(o:Ok t n led):t.fill=n:=by unfold SetTable.fill;rw[o.dum,o.size];rfl
theorem Ok.fits {t:SetTable}{n:Nat}{led:Bool}(o:Ok t n led):t.fits n=true:=by
 unfold SetTable.fits;rw[o.fill,o.size];have:=o.room;simp;omega
theorem Ok.hole {t:SetTable}{n:Nat}{led:Bool}(o:Ok t n led):∃ r,r<=t.mask/\t.slot r=.empty:=by
 obtain⟨r,hr,hn⟩:=some_free (N:=t.mask+1) (xs:=t.place.toList) (by have:=o.room;have:=o.size;simp;omega);exact⟨r,∅,slot_free o.dum hn⟩
theorem Ok.probe {t:SetTable}{n:Nat}{led:Bool}(o:Ok t n led)(hashAt:Nat->Int)(h:Int) :
    ∃ k,(∀ k',k'<k->∃ i,t.slot (adv t k' (t.probeStart h)).j=.live i/\hashAt i≠h) /\
      ((t.slot (adv t k (t.probeStart h)).j=.empty/\t.probe hashAt h (t.probeStart h)=some (.empty (adv t k (t.probeStart h)).j none)) \/
       ∃ i,t.slot (adv t k (t.probeStart h)).j=.live i/\hashAt i=h/\t.probe hashAt h (t.probeStart h)=some (.candidate (adv t k (t.probeStart h)).j i (t.advance (adv t k (t.probeStart h))))):=by
  obtain⟨r,hr,he⟩:=o.hole;obtain⟨n,hn,en⟩:=start_hit o.full h hr;obtain⟨k,hk,hb,hx⟩:=probe_go (hashAt:=hashAt) (h:=h) o.dum (10*turns t.mask) (t.probeStart h) n (good_start t h) hn (en ▸ he);exact⟨k,hb,hx⟩
structure Ok1 (t:SetTable)(n:Nat)(led:Bool):Prop where
 ris:Ris t.place
 dum:t.dummies=#[]
 size:t.place.size=n
 inn:∀ x∈t.place.toList,x<=t.mask
 full:Full (t.mask+1)
 plain:t.plain=true
 led:t.led=led
 mask:t.mask=7\/t.mask=31\/t.mask=127\/t.mask=511
 le:n<=t.mask
 last:(n-1)*5<t.mask*3
theorem Ok1.fits {t:SetTable}{n:Nat}{led:Bool}(o:Ok1 t n led):t.fits n=true:=by
 unfold SetTable.fits SetTable.fill;rw[o.dum,o.size];have:=o.le;simp;omega
theorem Ok.put {t:SetTable}{n:Nat}{led:Bool}(o:Ok t n led){j:Nat}(hj:t.slot j=.empty)(hm:j<=t.mask):Ok1 (t.put j).1 (n+1) led:=by
 have hn:=slot_empty o.ris hj;have hd:(t.put j).1.dummies=#[]:=by
  show (if has t.dummies j then eraseAt t.dummies (below t.dummies j) else t.dummies)=#[];rw[o.dum,has_none];rfl
 have hr:=o.room;refine⟨ris_put o.ris hn,hd,?_,?_,o.full,o.plain,o.led,o.mask,?_,?_⟩
 ·show (insertAt t.place (below t.place j) j).size=n+1;rw[<- bF,(insertAt_perm _ _ _).length_eq];simp[o.size]
 ·intro x hx;have hx':x∈(insertAt t.place (below t.place j) j).toList:=hx;have:=(insertAt_perm t.place (below t.place j) j).mem_iff.mp hx';simp at this;rcases this with h | rfl
  ·exact o.inn x (~~~h)
  ·exact hm
 ·show n+1<=t.mask;rcases o.mask with h | h | h | h<;>omega
 ·show (n+1-1)*5<t.mask*3;simpa using hr
theorem Ok1.ok {t:SetTable}{n:Nat}{led:Bool}(o:Ok1 t n led)(h:t.tooFull=false):Ok t n led:=by
 have hf:t.fill=n:=by unfold SetTable.fill;rw[o.dum,o.size];rfl
 refine⟨o.ris,o.dum,o.size,o.inn,o.full,o.plain,o.led,?_,o.mask⟩;unfold SetTable.tooFull at h;rw[hf] at h;simpa using h
theorem free_some {mask:Nat}{owner:Array (Option Nat)}:∀(fuel i perturb n:Nat),i<=mask->n<fuel->owner.getD (leaps mask n (i,perturb)).1 (some 0)=none ->
  ∃ j,layClean.free mask owner fuel i perturb=some j/\owner.getD j (some 0)=none
 | 0,_,_,_,_,hn,_=>absurd hn (cQ _)
 | fuel+1,i,perturb,n,hi,hn,he=>by
  unfold layClean.free;cases hf:(List.range (runEnd mask i+1-i)).find? (λk=>(owner.getD (i+k) (some 0)).isNone) with
  | some k =>
   have:=List.find?_some hf;exact⟨i+k,rfl, ~~~this⟩
  | none =>
   cases n with
   | zero =>
    have h1:=j0.mp hf 0 (bh.mpr (by have:=runEnd_le hi;omega));have he':owner.getD i (some 0)=none:=he;rw[jL,he'] at h1;exact absurd rfl h1
   | succ n =>
    exact free_some fuel _ _ n (leaps_fst mask 1 (i,perturb) hi) ∅ he
def own (N:Nat)(owner:Array (Option Nat)):List Nat:=(List.range N).filterMap λj=>owner.getD j none
theorem filterMap_len {α β:Type}{f:α->Option β}:∀ {l:List α},(∀ x∈l,(f x).isSome=true)->(l.filterMap f).length=l.length
 | [],_=>rfl
 | x::l,h=>by
  obtain⟨y,hy⟩:=eU.mp (h x (aM ..));rw[cr hy,aD,aD,filterMap_len λz hz=>h z (aI _ hz)]
theorem fm_congr {α β:Type}{f g:α->Option β}:∀ {l:List α},(∀ x∈l,g x=f x)->l.filterMap g=l.filterMap f
 | [],_=>rfl
 | x::l,h=>by
  have ih:=fm_congr (l:=l) λy hy=>h y (aI _ hy)
  rw[dM,dM,h x (aM ..),ih]
theorem filterMap_put {α:Type}{f g:Nat->Option α}{j:Nat}{k:α}:∀ {l:List Nat},l.Nodup->j∈l->f j=none->g j=some k->(∀ x,x≠j->g x=f x)->(l.filterMap g).Perm (k::l.filterMap f)
 | [],_,hj,_,_,_=>by simp at hj
 | x::l,hn,hj,hf,hg,he=>by
  have hn':=bW.mp hn;by_cases hx:x=j
  ·subst hx;rw[cr hg,da hf];have:l.filterMap g=l.filterMap f:=fm_congr λy hy=>he y λe=>hn'.1 (e ▸ hy)
   rw[this]
  ·have hj':j∈l:=(aJ.mp hj).resolve_left λe=>hx e.symm
   have ih:=filterMap_put hn'.2 hj' hf hg he;cases hfx:f x with
   | none=>rw[da hfx,da ((he x hx).trans hfx)];exact ih
   | some y =>
    rw[cr hfx,cr ((he x hx).trans hfx)];exact (ih.cons y).trans (iE ..)
theorem getD_free {owner:Array (Option Nat)}{j:Nat}(h:owner.getD j (some 0)=none):j<owner.size/\owner.getD j none=none:=by
 by_cases hj:j<owner.size
 ·refine⟨hj,?_⟩;simp[Array.getD,hj] at h ⊢;exact h
 ·simp[Array.getD,hj] at h
def layF (mask:Nat):Option (Array (Option Nat)×Nat)->Int->Option (Array (Option Nat)×Nat):=λacc h=>do
  let (owner,k) <- acc
  let j <- layClean.free mask owner (turns mask) (bits h % (mask+1)) (bits h)
  pure (owner.setIfInBounds j (some k),k+1)
theorem layF_fold {mask:Nat}(F:Full (mask+1)):∀(hs:List Int) (owner:Array (Option Nat)) (k:Nat),owner.size=mask+1->(own (mask+1) owner).Perm (List.range k)->k+hs.length<=mask ->
  ∃ owner',hs.foldl (layF mask) (some (owner,k))=some (owner',k+hs.length)/\owner'.size=mask+1/\(own (mask+1) owner').Perm (List.range (k+hs.length))
 | [],owner,k,h1,h2,_=>⟨owner,rfl,h1,h2⟩
 | h::hs,owner,k,h1,h2,h3=>by
  rw[aD] at h3;have hole:∃ r,r<=mask/\owner.getD r (some 0)=none:=by
   apply aX;intro hn;have:(own (mask+1) owner).length=mask+1:=by
    unfold own;rw[filterMap_len,dI];intro x hx;have hx':x<owner.size:=by rw[h1];exact bh.mp hx
    have hx2:x<=mask:=by rw[h1] at hx';omega
    cases hg:owner.getD x none with
    | some y=>rfl
    | none =>
     refine absurd ⟨x,hx2,?_⟩ hn;simp[Array.getD,hx'] at hg ⊢;exact hg
   rw[h2.length_eq,dI] at this;omega
  obtain⟨r,hr,er⟩:=hole;have hb:bits h % (mask+1)<=mask:=dL (iC (bits h) (fK mask));have hp:bits h<2 ^ 64:=(good_start {mask:=mask,place:=#[],dummies:=#[],finger:=0,led:=true,moves:=0,plain:=true} h).perturb;obtain⟨n,hn,en⟩:=leaps_hit F hb hp hr;obtain⟨j,hj,ej⟩:=free_some (owner:=owner) (turns mask) _ (bits h) n hb (by unfold turns;omega) (by rw[en];exact er);obtain⟨hjs,hjn⟩:=getD_free ej;have hstep:layF mask (some (owner,k)) h=some (owner.setIfInBounds j (some k),k+1):=by
   show (do let j <- layClean.free mask owner (turns mask) (bits h % (mask+1)) (bits h);pure (owner.setIfInBounds j (some k),k+1))=_;rw[hj];rfl
  rw[gL,hstep];have hown:(own (mask+1) (owner.setIfInBounds j (some k))).Perm (List.range (k+1)):=by
   refine List.Perm.trans (filterMap_put (j:=j) (k:=k) (f:=λj=>owner.getD j none) List.nodup_range (bh.mpr (h1 ▸ hjs)) hjn ?_ ?_) ?_
   ·simp[Array.getD,hjs]
   ·intro x hx;by_cases hxs:x<owner.size
    ·simp[Array.getD,hxs,fR,dZ hx]
    ·simp[Array.getD,hxs]
   ·rw[show List.range (k+1)=List.range k++[k] from cO];exact (h2.cons k).trans (fZ k _).symm
  obtain⟨o',e',s',p'⟩:=layF_fold F hs (owner.setIfInBounds j (some k)) (k+1) (~~~h1) hown ∅;refine⟨o',?_,s',?_⟩
  ·rw[e',aD,show k+1+hs.length=k+(hs.length+1) by omega]
  ·rw[aD,show k+(hs.length+1)=k+1+hs.length by omega];exact p'
theorem filterMap_pairs {owner:Array (Option Nat)}:∀ l:List Nat,((l.filterMap λj=>(owner.getD j none).map (j,·)).map (·.2))=l.filterMap λj=>owner.getD j none
 | []=>rfl
 | x::l=>by
  cases h:owner.getD x none with
  | none=>rw[da (by rw[h];rfl),da (f:=λj=>owner.getD j none) h];exact filterMap_pairs l
  | some y=>rw[cr (b:=(x,y)) (by rw[h];rfl),cr (f:=λj=>owner.getD j none) h,aH,filterMap_pairs l]
theorem pairs_fst {owner:Array (Option Nat)}:∀ {l:List Nat},l.Pairwise (·<·)->((l.filterMap λj=>(owner.getD j none).map (j,·)).map (·.1)).Pairwise (·<·)/\∀ x∈(l.filterMap λj=>(owner.getD j none).map (j,·)).map (·.1),x∈l
 | [],_=>⟨.nil,λx h=>h⟩
 | x::l,h=>by
  obtain⟨h1,h2⟩:=gb.mp h;obtain⟨i1,i2⟩:=pairs_fst (owner:=owner) h2;cases hg:owner.getD x none with
  | none =>
   rw[da (by rw[hg];rfl)];exact⟨i1,λy hy=>aI _ (i2 y hy)⟩
  | some y =>
   rw[cr (b:=(x,y)) (by rw[hg];rfl),aH];refine⟨gb.mpr ⟨λz hz=>h1 z (i2 z hz),i1⟩,λz hz=>?_⟩;rcases aJ.mp hz with rfl | hz
   ·exact aM ..
   ·exact aI _ (i2 z hz)
theorem range_rising (n:Nat):(List.range n).Pairwise (·<·):=cE
end STab
end
section
namespace Srt
open PySem PyProof.Rows
section
variable {prog:Program}{w:World}{A:Around}{E:Value->Shared->Prop}{s:Shared}
def BagAt (h:Heap)(a:Addr)(es:Array (Int×Value))(ep:Nat)(t:SetTable)(led:Bool):Prop:=∃ o,h.get? a=some o/\o.ExactSet/\o.data=.set es ep t/\STab.Ok t es.size led
theorem BagAt.keep {h h':Heap}{a:Addr}{es:Array (Int×Value)}{ep:Nat}{t:SetTable}{led:Bool}(b:BagAt h a es ep t led)(k:∀ o,h.get? a=some o->h'.get? a=some o):BagAt h' a es ep t led:=let ⟨o,ho,q⟩:=b;⟨o,k _ ho,q⟩
theorem BagAt.typeIs {a:Addr}{es:Array (Int×Value)}{ep:Nat}{t:SetTable}{led:Bool}(b:BagAt s.heap a es ep t led):s.TypeIs (.ref a) "set":=let ⟨o,ho,hx,_⟩:=b;⟨o,ho,hx.1⟩
theorem bag_store {h:Heap}{a:Addr}{o:Obj}{es es':Array (Int×Value)}{ep:Nat}{t t':SetTable}(ho:h.get? a=some o)(hx:o.ExactSet)(hd:o.data=.set es ep t) :
  ∃ o',(h.update a (gl es' t')).get? a=some o'/\o'.ExactSet/\o'.data=.set es' (ep+1) t':=by
 have e:=putSet_of es' t' hd;refine⟨{o with data:=.set es' (ep+1) t'},?_,hx,rfl⟩;have hg:=cW (gl es' t') ho (by rw[e];rfl);rw[hg,e]
theorem bag_loop {I S:Addr}{fp wr:List Addr}{n:Nat}{P:Nat->Value->Prop}{St:Nat->Heap->Prop}{R:Result->Shared->Prop}(W:Walks prog w A.in1 I fp wr n P St)(hSf:S∉fp)(Sd:Nat->Heap->Prop)
  (hkeep:∀ i h h',Sd i h->(∀ b o,b∉wr->h.get? b=some o->h'.get? b=some o)->Sd i h')
  (hadd:∀(i:Nat) (v:Value) (s:Shared) (E:Value->Shared->Prop) (Q:Bool->Shared->Prop),i<n->P i v->Sd i s.heap->(∀ h' tk b,cj S s.heap h'->Sd (i+1) h'->Q b {s with heap:=h',toks:=tk})->wpAny (model prog w) A.in1 (setAdd S v) Q E s) :
  ∀(k i:Nat) (s:Shared),n-i=k->i<=n->St i s.heap->Sd i s.heap ->
   (∀ h' tk,(∀ b o,b∉S::wr->s.heap.get? b=some o->h'.get? b=some o)->Sd n h'->R (.ok (.ret .none)) {s with heap:=h',toks:=tk}) ->
   codeAny (model prog w) A (.builtin "set.update.loop" ⟨[.ref S,.ref I],[]⟩) R s:=by
 have hSw:S∉wr:=λh=>hSf (W.sub _ h)
 intro k;induction k with
 | zero =>
  intro i s hk hi hst hS hR;obtain rfl:i=n:=∅
  refine codeAny_builtin jJ ?_;rw[gJ gE _];show wpAny _ A.in1 (pyNext (.ref I) >>= _) _ _ s;refine af (W.done s _ _ hst λh' tk hm=>ao (hR h' tk (λb o hb e=>hm b o (λhw=>hb (aI _ hw)) e) (hkeep _ _ _ hS hm)))
 | succ k ih =>
  intro i s hk hi hst hS hR;have hlt:i<n:=∅
  refine codeAny_builtin jJ ?_;rw[gJ gE _];show wpAny _ A.in1 (pyNext (.ref I) >>= _) _ _ s;refine af (W.item i s _ _ hlt hst λv h1 tk1 hP hst1 hm1=>?_);show wpAny _ A.in1 (holding [v] (setAdd S v) >>= _) _ _ _;refine af (cK (hadd i v _ _ _ hlt hP (hkeep _ _ _ hS hm1) λh2 tk2 b hsb hS2=>?_));refine ao ⟨plainId_quiet gE _,ih (i+1) _ ∅ hlt (W.frame _ _ _ hst1 λb hb o e=>?_) hS2 λh3 tk3 hm3 hS3=>hR h3 tk3 (λb o hb e=>?_) hS3⟩
  ·show h2.get? b=some o;rw[hsb.2 b (λhb':b=S=>hSf (hb' ▸ hb))];exact e
  ·refine hm3 b o hb ?_;show h2.get? b=some o;rw[hsb.2 b (λhb':b=S=>hb (hb' ▸ aM ..))];exact hm1 b o (λhw=>hb (aI _ hw)) e
def ledOf (w:World):Bool:=!w.params.followText "set-order"
def freshSet (w:World):Obj:={cls:=.type "set",dict:=none,data:=.set #[] 0 (.fresh 0 0 (ledOf w))}
theorem set_new (a:Value){Q₁:Value->Shared->Prop}(h:Q₁ (.ref s.heap.objs.size) {s with heap:=s.heap.push (freshSet w)}) :
  codeAny (model prog w) A (.call (.builtin "set.__new__") ⟨[.type "set",a],[]⟩) (wants Q₁ E) s:=by
 refine codeAny_of_tree ?_;show wpAny _ A.in1 (checkBuiltinCall "set.__new__" ⟨[.type "set",a],[]⟩ >>= λ_=>again (.builtin "set.__new__" ⟨[.type "set",a],[]⟩)) _ _ s;refine af (gM (PySem.F.newCall_set_1 a) (ao ⟨plainId_quiet jo _,codeAny_builtin PySem.F.entry_set_new ?_⟩));rw[gJ jo _];unfold Builtin.«set.__new__» Builtin.Frozenset.newClass;have hsub:=PySem.sub_set_self;obtain⟨hp,g,d,tk,os⟩:=s;dsimp only
 wp_walk
 refine fi (ao ?_);dsimp only;simp only[newObj];exact af (wpAny_alloc (ao (ao h)))
structure SetSrc (prog:Program)(w:World)(h₀:Heap)(l:Addr)(c:String)(n:Nat)(P:Nat->Value->Prop):Prop where
 typ:∃ o,h₀.get? l=some o/\o.cls=.type c
 sub1:isSubtype (.type c) (.type "set")=pure false
 sub2:isSubtype (.type c) (.type "frozenset")=pure false
 ne:(dA c == dA "dict")=false
 iter:∀(A:Around) (s:Shared),(∀ b o,h₀.get? b=some o->s.heap.get? b=some o)->∃(oI:Obj) (St:Nat->Heap->Prop),
  (∀(E:Value->Shared->Prop) (Q:Value->Shared->Prop),Q (.ref s.heap.objs.size) {s with heap:=s.heap.push oI}->wpAny (model prog w) A (pyIter (.ref l)) Q E s) /\
  (∀ A':Around,A'.handled=none->Walks prog w A' s.heap.objs.size [s.heap.objs.size,l] [s.heap.objs.size] n P St)/\St 0 (s.heap.push oI)
end
end Srt
end
section
namespace Srt
open PySem PyProof.Rows
section
variable {prog:Program}{w:World}{A:Around}{E:Value->Shared->Prop}{s:Shared}
set_option maxHeartbeats 3200000 in
theorem call_bag {l:Addr}{c:String}{n:Nat}{P:Nat->Value->Prop}{Q:Value->Shared->Prop}(hh:A.handled=none)(src:SetSrc prog w s.heap l c n P)(Sd:Nat->Heap->Prop)
  (hkeep:∀ i h h',Sd i h->(∀ b o,b<=s.heap.objs.size->h.get? b=some o->h'.get? b=some o)->Sd i h')
  (hadd:∀(i:Nat) (v:Value) (s':Shared) (E:Value->Shared->Prop) (Q:Bool->Shared->Prop),i<n->P i v->Sd i s'.heap->(∀ h' tk b,cj s.heap.objs.size s'.heap h'->Sd (i+1) h'->Q b {s' with heap:=h',toks:=tk})->wpAny (model prog w) A.in1.in1.in1 (setAdd s.heap.objs.size v) Q E s')
  (h0:∀ h',h'.get? s.heap.objs.size=some (freshSet w)->(∀ b o,s.heap.get? b=some o->h'.get? b=some o)->Sd 0 h')
  (h:∀(h':Heap) (tk:Nat),(∀ b o,s.heap.get? b=some o->h'.get? b=some o)->Sd n h'->Q (.ref s.heap.objs.size) {s with heap:=h',toks:=tk}) :
  wpAny (model prog w) A (call (.type "set") [.ref l]) Q E s:=by
 obtain⟨c0,tl,hmro⟩:=PySem.F.called_set.mro;have hmade:=PySem.F.called_set.made;have hsub:=PySem.F.called_set.sub;refine wpAny_call (codeAny_of_tree ?_);show wpAny _ _ (callAny (.type "set") _) _ _ _;refine ao ⟨jX _ (by decide +kernel),codeAny_builtin F.entry_type_call ?_⟩;rw[Around.under_plain (weight_type_call_type "set" [.ref l] []) rfl];have h1:=PySem.F.called_set.notType;have h2:=PySem.F.called_set.canCreate;have hct:=PySem.F.typeCall_set_1 (.ref l);repeat (any_goals (first | assumption | wp_step))
 obtain⟨led,hled⟩:∃ led,led=ledOf w:=⟨_,rfl⟩
 refine codeAny_mono (set_new (.ref l) (E:=E) (Q₁:=λobj ss=>obj=.ref s.heap.objs.size/\ss={s with heap:=s.heap.push {cls:=.type "set",dict:=none,data:=.set #[] 0 (.fresh 0 0 led)}}) ⟨rfl,by rw[hled];rfl⟩) λr ss hr=>?_
 cases r with
 | error e=>exact hr
 | ok fl =>
  cases fl with
  | ret obj =>
   obtain⟨rfl,rfl⟩:=hr;have hS:(s.heap.push ({cls:=.type "set",dict:=none,data:=.set #[] 0 (.fresh 0 0 led)})).get? s.heap.objs.size=some ({cls:=.type "set",dict:=none,data:=.set #[] 0 (.fresh 0 0 led)}):=aK _ rfl;have hT:Shared.TypeIs {s with heap:=s.heap.push ({cls:=.type "set",dict:=none,data:=.set #[] 0 (.fresh 0 0 led)})} (.ref s.heap.objs.size) "set":=⟨_,hS,rfl⟩
   have hli:=PySem.F.called_set.init.lookup;have hbi:=PySem.F.called_set.init.bind (.ref s.heap.objs.size);repeat (any_goals (first | assumption | wp_step))
   refine codeAny_mono (codeAny_call_builtin (R:=wants (λr sk=>r=.none/\∃ h' tk,sk={s with heap:=h',toks:=tk}/\Sd n h'/\(∀ b o,s.heap.get? b=some o->h'.get? b=some o)) E) PySem.F.called_set.init.plain PySem.F.entry_set_init (check_set_init_1 hT ?_)) λrz sk hrz=>?_
   ·obtain⟨ol,hol,hcl⟩:=src.typ;have hlS:l<s.heap.objs.size:=aE hol;obtain⟨ocls,odict,odata,oslots⟩:=ol;simp only at hcl;subst hcl;have hol':(s.heap.push ({cls:=.type "set",dict:=none,data:=.set #[] 0 (.fresh 0 0 led)})).get? l=some {cls:=.type c,dict:=odict,data:=odata,slots:=oslots}:=am _ hol;have hsls:=src.sub1;have hslf:=src.sub2;have hne:=src.ne;obtain⟨oI,St,hit,W,st⟩:=src.iter A.in1.in1 {s with heap:=s.heap.push ({cls:=.type "set",dict:=none,data:=.set #[] 0 (.fresh 0 0 led)})} λb o e=>am _ e
    unfold Builtin.«set.__init__» noKeywords Builtin.Frozenset.updateFrom;generalize hPI:pyIter=PI
    wp_walk
    subst hPI;refine hit _ _ (af (wpAny_runValue ?_));have hsp:(s.heap.push {cls:=.type "set",dict:=none,data:=.set #[] 0 (.fresh 0 0 led)}).objs.size=s.heap.objs.size+1:=cV ..;refine bag_loop (W _ (by simp[hh])) (S:=s.heap.objs.size) ?_ Sd (λi h1 h2 hs hk=>hkeep i h1 h2 hs λb o hb e=>hk b o ?_ e) hadd (n-0) 0 _ ∅ (bo _) st (h0 _ ?_ ?_) λh' tk hm hS'=>?_
    ·show s.heap.objs.size∉[(s.heap.push {cls:=.type "set",dict:=none,data:=.set #[] 0 (.fresh 0 0 led)}).objs.size,l];rw[hsp];simp only[aJ,bJ,or_false,not_or];exact⟨aU (dD _),fg hlS⟩
    ·show b∉[(s.heap.push {cls:=.type "set",dict:=none,data:=.set #[] 0 (.fresh 0 0 led)}).objs.size];rw[hsp,ag];omega
    ·rw[show freshSet w={cls:=.type "set",dict:=none,data:=.set #[] 0 (.fresh 0 0 led)} from by rw[hled];rfl];exact am _ hS
    ·exact λb o e=>am _ (am _ e)
    ·show wpAny _ _ _ _ _ _;refine ao ?_;show wpAny _ _ (ret cJ) _ _ _;refine ao ⟨rfl,h',tk,rfl,hS',λb o e=>hm b o ?_ (am _ (am _ e))⟩;have hb:b<s.heap.objs.size:=aE e;show b∉[s.heap.objs.size,(s.heap.push {cls:=.type "set",dict:=none,data:=.set #[] 0 (.fresh 0 0 led)}).objs.size];rw[hsp];simp only[aJ,bJ,or_false,not_or];exact⟨aU hb,aU (gn hb)⟩
   ·cases rz with
    | error e=>exact hrz
    | ok flz =>
     cases flz with
     | ret r =>
      obtain⟨rfl,h',tk,rfl,hS',hk'⟩:=hrz;repeat (any_goals (first | assumption | wp_step))
      exact h _ _ hk' hS'
     | _=>exact hrz.elim
  | _=>exact hr.elim
end
end Srt
end
section
namespace Srt
open PySem PyProof.Rows
theorem ow_si:Manifest.owners.lookup (String.ofList ['r','o','t','a','r','e','t','i','_','t','e','s'].reverse)=some Manifest.sig_set_iterator:=by kernel_rfl
theorem sl_si_next:Slot "set_iterator" "__next__" "set_iterator.__next__":=.of (owner:="set_iterator") (n:="__next__") (by rw[typeLookup_type,builtinLookup_eq_fast];kernel_rfl) (by decide +kernel) (by decide +kernel) (by decide +kernel) (by first | exact .inl (by decide +kernel) | exact .inr (by decide +kernel)) (by rw[isSubtype_type];kernel_rfl)
theorem sl_si_iter:Slot "set_iterator" "__iter__" "set_iterator.__iter__":=.of (owner:="set_iterator") (n:="__iter__") (by rw[typeLookup_type,builtinLookup_eq_fast];kernel_rfl) (by decide +kernel) (by decide +kernel) (by decide +kernel) (by first | exact .inl (by decide +kernel) | exact .inr (by decide +kernel)) (by rw[isSubtype_type];kernel_rfl)
theorem en_si_next:entryFor table "set_iterator.__next__"=some Builtin.«set_iterator.__next__»:=entryFor_of_tree (by kernel_rfl)
theorem ar_si_next (a:Value):argsOk "set_iterator.__next__" ⟨[a],[]⟩:=by unfold argsOk;rw[signature?_of (id:="set_iterator.__next__") (n:=['_','_','t','x','e','n','_','_']) (o:=['r','o','t','a','r','e','t','i','_','t','e','s']) (by kernel_rfl) ow_si];kernel_rfl
theorem ar_si_iter (a:Value):argsOk "set_iterator.__iter__" ⟨[a],[]⟩:=by unfold argsOk;rw[signature?_of (id:="set_iterator.__iter__") (n:=['_','_','r','e','t','i','_','_']) (o:=['r','o','t','a','r','e','t','i','_','t','e','s']) (by kernel_rfl) ow_si];kernel_rfl
theorem en_set_iter:entryFor table "set.__iter__"=some Builtin.«frozenset.__iter__»:=entryFor_alias (id':="frozenset.__iter__") (by kernel_rfl) rfl (by decide +kernel) (by kernel_rfl)
end Srt
namespace Srt
open PySem PyProof.Rows
theorem en_si_iter:entryFor table "set_iterator.__iter__"=some Builtin.«dict_keyiterator.__iter__»:=entryFor_alias (id':="dict_keyiterator.__iter__") (by kernel_rfl) rfl (by decide +kernel) (by kernel_rfl)
theorem erase_perm {α:Type}:∀ {l:List α} {i:Nat} (h:i<l.length),(l[i]::l.eraseIdx i).Perm l
 | [],i,h=>absurd h (cQ _)
 | x::l,0,_=>.rfl
 | x::l,i+1,h=>(iE ..).trans ((erase_perm (l:=l) (i:=i) (Nat.lt_of_succ_lt_succ h)).cons x)
theorem pick_go {α:Type}{next:Nat->Nat}:∀(fuel k:Nat) (left:List α) (out:Array α),left.length<=fuel->(pickOrder.go next fuel k left out).toList.Perm (out.toList++left)
 | 0,k,left,out,h=>by
  obtain rfl:left=[]:=List.eq_nil_of_length_eq_zero ∅;simp[pickOrder.go]
 | fuel+1,k,left,out,h=>by
  unfold pickOrder.go;cases left with
  | nil=>simp
  | cons y r =>
   have hlt:next k % (y::r).length<(y::r).length:=iC _ (by simp)
   rw[au hlt];dsimp only;refine (pick_go fuel (k+1) _ _ (by rw[List.length_eraseIdx_of_lt hlt];omega)).trans ?_;rw[bC,br];exact (erase_perm hlt).append_left _
theorem pick_perm {α:Type}(next:Nat->Nat)(xs:Array α):(pickOrder next xs).toList.Perm xs.toList:=by
 have:=pick_go (next:=next) xs.size 0 xs.toList #[] (by simp);simpa [pickOrder] using this
def ordOf (w:World)(a:Addr)(ep:Nat)(es:Array (Int×Value)):Array (Int×Value):=if w.params.followText "set-order" then pickOrder (w.params.setOrder a ep) es else es
theorem ord_perm (w:World)(a:Addr)(ep:Nat)(es:Array (Int×Value)):(ordOf w a ep es).toList.Perm es.toList:=by
 unfold ordOf;split
 ·exact pick_perm _ _
 ·exact .rfl
theorem ord_size (w:World)(a:Addr)(ep:Nat)(es:Array (Int×Value)):(ordOf w a ep es).size=es.size:=by rw[<- bF,(ord_perm w a ep es).length_eq,bF]
def slotAt (w:World)(t:SetTable):Nat->Nat
 | 0=>0
 | i+1=>if w.params.followText "set-order" then 0 else t.place.getD i 0+1
def IsSI (h:Heap)(it a:Addr)(slot i n ep:Nat):Prop:=∃ o,h.get? it=some o/\o.cls=.type "set_iterator"/\o.data=.fields #[.int slot 0,.int i 0,.ref a,.int n 0,.int ep 0]
theorem IsSI.keep {h h':Heap}{it a:Addr}{slot i n ep:Nat}(x:IsSI h it a slot i n ep)(k:∀ o,h.get? it=some o->h'.get? it=some o):IsSI h' it a slot i n ep:=let ⟨o,ho,q⟩:=x;⟨o,k _ ho,q⟩
section
variable {prog:Program}{w:World}{A:Around}{E:Value->Shared->Prop}{s:Shared}
theorem IsSI.typeIs {it a:Addr}{slot i n ep:Nat}(x:IsSI s.heap it a slot i n ep):s.TypeIs (.ref it) "set_iterator":=let ⟨o,ho,hc,_⟩:=x;⟨o,ho,hc⟩
theorem walk_text {a:Addr}{es:Array (Int×Value)}{ep:Nat}{t:SetTable}{led:Bool}{Q:Array (Int×Value)->Shared->Prop}(b:BagAt s.heap a es ep t led)(hft:w.params.followText "set-order"=true)
  (h:Q (ordOf w a ep es) s):wpAny (model prog w) A (setWalk a) Q E s:=by
 obtain⟨o,ho,hx,hd,hok⟩:=b;unfold setWalk setsByText;refine af (cZ ho hd hok.fits ?_);dsimp only;refine af (af (fi (ao ?_)));show wpAny _ _ (if w.params.followText "set-order"=true then _ else _) _ _ s;rw[hft,if_pos rfl];refine af (fi (ao ?_));unfold ordOf at h;rw[hft,if_pos rfl] at h;exact h
theorem next_of {a:Addr}{es:Array (Int×Value)}{ep:Nat}{t:SetTable}{i:Nat}{Q:Option (Value×Nat)->Shared->Prop}(b:BagAt s.heap a es ep t (ledOf w))
  (hQ:Q (((ordOf w a ep es)[i]?).map λe=>(e.2,slotAt w t (i+1))) s) (hi:i<=es.size):wpAny (model prog w) A (setNext a (slotAt w t i) i ep) Q E s:=by
 obtain⟨o,ho,hx,hd,hok⟩:=id b;unfold setNext setsByText;refine af (cZ ho hd hok.fits ?_);dsimp only;refine af (af (fi (ao ?_)));show wpAny _ _ (if w.params.followText "set-order"=true then _ else _) _ _ s;cases hft:w.params.followText "set-order" with
 | true =>
  rw[if_pos rfl,if_neg (by simp)];refine af (walk_text b hft (ao ?_));have:slotAt w t i=slotAt w t (i+1):=by
   cases i with
   | zero=>simp[slotAt,hft]
   | succ i=>simp[slotAt,hft]
  rw[this];exact hQ
 | false =>
  rw[if_neg (by decide)];refine fG (λhab=>?_) (λ_=>?_)
  ·have hab':(!t.plain && decide (es.size>1))=true:=hab;rw[hok.plain] at hab';exact Bool.noConfusion hab'
  refine af (gM (a:=()) ?_ ?_)
  ·show (if (!t.led && !es.isEmpty)=true then _ else _)=_;have hl:t.led=true:=by rw[hok.led];unfold ledOf;rw[hft];rfl
   rw[hl,if_neg (by simp)]
  ·have hbl:SetTable.below t.place (slotAt w t i)=i:=by
    cases i with
    | zero=>exact STab.below_zero hok.ris
    | succ i =>
     have hlt:i<t.place.size:=by rw[hok.size];omega
     have:slotAt w t (i+1)=t.place[i]+1:=by simp[slotAt,hft,Array.getD,hlt]
     rw[this];exact STab.below_next hok.ris hlt
   refine ao ?_;rw[hbl];have ho:ordOf w a ep es=es:=by unfold ordOf;rw[hft];rfl
   rw[ho] at hQ;rcases cv i es.size with h | h
   ·have hlt:i<t.place.size:=by rw[hok.size];exact h
    rw[aT h,aT hlt];rw[aT h] at hQ;have:slotAt w t (i+1)=t.place[i]+1:=by simp[slotAt,hft,Array.getD,hlt]
    rw[this] at hQ;exact hQ
   ·rw[bM h];rw[bM h] at hQ;exact hQ
end
end Srt
end
section
namespace Srt
open PySem PyProof.Rows PySem.W
section
variable {prog:Program}{w:World}{A:Around}{E:Value->Shared->Prop}{s:Shared}
theorem si_item {it a:Addr}{es:Array (Int×Value)}{ep:Nat}{t:SetTable}{i:Nat}{Q:Option Value->Shared->Prop}(hit:IsSI s.heap it a (slotAt w t i) i es.size ep)(b:BagAt s.heap a es ep t (ledOf w))(hi:i<es.size)
  (hQ:∀ h' e,(ordOf w a ep es)[i]?=some e->IsSI h' it a (slotAt w t (i+1)) (i+1) es.size ep->cj it s.heap h'->Q (some e.2) {s with heap:=h'}):wpAny (model prog w) A (pyNext (.ref it)) Q E s:=by
 obtain⟨o,ho,hc,hd⟩:=id hit;obtain⟨oa,hoa,hxa,hda,hok⟩:=id b;have hz:i<(ordOf w a ep es).size:=by rw[ord_size];exact hi
 unfold pyNext
 refine af (fH (ci (name:=cC "__next__") hit.typeIs sl_si_next
  (cn sl_si_next hit.typeIs en_si_next ?_ (ar_si_next _))))
 unfold Builtin.«set_iterator.__next__»;refine af (m:=slotArgs "__next__" 0 _) (ao (af (ip ho hd ?_)));dsimp only;refine af (iA hoa hda hok.fits ?_);rw[if_neg (by simp)];simp only[bN];refine af (next_of b ?_ (dv hi));rw[aT hz];dsimp only[Option.map];refine af (fh ho hd (by simp) ?_);have ho1:=cW (ij (·.setIfInBounds 0 (rawInt ((slotAt w t (i+1):Nat):Int)))) ho (fJ (db hd _));have hd1:=db hd (·.setIfInBounds 0 (rawInt ((slotAt w t (i+1):Nat):Int)));refine af (fh (s:={s with heap:=s.heap.update it (ij (·.setIfInBounds 0 (rawInt ((slotAt w t (i+1):Nat):Int))))}) ho1 hd1 (by simp) ?_);refine ao ⟨_,rfl,ao (hQ _ _ (aT hz) ⟨_,cW _ ho1 (fJ (db hd1 _)),?_,?_⟩ ((bY ..).trans (bY ..)))⟩
 ·exact (gm ..).trans ((gm ..).trans hc)
 ·rw[db hd1];simp[rawInt]
theorem si_end {it a:Addr}{es:Array (Int×Value)}{ep:Nat}{t:SetTable}{Q:Option Value->Shared->Prop}(hh:A.handled=none)(hit:IsSI s.heap it a (slotAt w t es.size) es.size es.size ep)(b:BagAt s.heap a es ep t (ledOf w))
  (hQ:∀ h',iL it s.heap h'->Q none {s with heap:=h'}):wpAny (model prog w) A (pyNext (.ref it)) Q E s:=by
 obtain⟨o,ho,hc,hd⟩:=id hit;obtain⟨oa,hoa,hxa,hda,hok⟩:=id b;unfold pyNext
 refine af (fH (ci (name:=cC "__next__") hit.typeIs sl_si_next
  (cn sl_si_next hit.typeIs en_si_next ?_ (ar_si_next _))))
 unfold Builtin.«set_iterator.__next__»;refine af (m:=slotArgs "__next__" 0 _) (ao (af (ip ho hd ?_)));dsimp only;refine af (iA hoa hda hok.fits ?_);rw[if_neg (by simp)];simp only[bN];refine af (next_of b ?_ (aC _));rw[bM (ge (ord_size ..))];dsimp only[Option.map];refine af (fh ho hd (by simp) ?_);show wpAny _ _ (newExc (.type "StopIteration") [] >>= _) _ _ _;refine af ?_;simp only[newExc,newTuple];refine af (bZ ?_ (by size_fits));refine af (m:=firstArgMember _ _) (gM (a:=cJ) (by first | rfl | (simp only[firstArgMember];rfl)) ?_);refine bZ ?_ (by size_fits);simp only[raiseNew];refine af (jV ?_);rw[show A.in1.handled=none from hh];refine af (ao (kh ?_));refine af (fU (T:="StopIteration") (b:=true) ⟨_,aK _ rfl,rfl⟩ isSubtype_stop ?_);exact ao (hQ _ (((bY ..).extBut.push _).push _))
theorem si_self {it a:Addr}{slot i n ep:Nat}{Q:Value->Shared->Prop}(hit:IsSI s.heap it a slot i n ep)(h:Q (.ref it) s):wpAny (model prog w) A (pyIter (.ref it)) Q E s:=by
 refine iZ hit.typeIs sl_si_iter (cn sl_si_iter hit.typeIs en_si_iter ?_ (ar_si_iter _));show wpAny _ _ (ret (.ref it)) _ _ s;exact ao ⟨_,rfl, "set_iterator",_,hit.typeIs,sl_si_next.lookup,h⟩
theorem si_make {a:Addr}{es:Array (Int×Value)}{ep:Nat}{t:SetTable}{Q:Value->Shared->Prop}(b:BagAt s.heap a es ep t (ledOf w))
  (hQ:Q (.ref s.heap.objs.size) {s with heap:=s.heap.push {cls:=.type "set_iterator",data:=.fields #[.int 0 0,.int 0 0,.ref a,.int es.size 0,.int ep 0]}}):wpAny (model prog w) A (pyIter (.ref a)) Q E s:=by
 obtain⟨o,ho,hx,hd,hok⟩:=id b;refine iZ b.typeIs jm (cn jm b.typeIs en_set_iter ?_ (PySem.F.args_set_iter_1 _));unfold Builtin.«frozenset.__iter__» Builtin.Frozenset.slot0 Builtin.Frozenset.addrOf Builtin.Frozenset.sizeOf;refine af (af (m:=slotArgs "__iter__" 0 _) (ao (ao ?_)));refine af (af (iA ho hd hok.fits (ao ?_)));unfold setDrawn setsByText;refine af (af (cZ ho hd hok.fits (af (af (fi (ao (ao ?_)))))));refine fG (λhab=>?_) (λ_=>?_)
 ·have hab':(!w.params.followText "set-order" && (!t.plain && decide (es.size>1)))=true:=hab;rw[hok.plain] at hab';simp at hab'
 refine af (ao (af (wpAny_setEpoch_of ho hd hok.fits ?_)));refine af (bZ (ao ⟨_,rfl, "set_iterator",_,⟨_,aK _ rfl,rfl⟩,sl_si_next.lookup,?_⟩));simpa [rawInt] using hQ
theorem si_walks (hh:A.handled=none)(I a:Addr)(hne:a≠I)(es:Array (Int×Value))(ep:Nat)(t:SetTable) :
  Walks prog w A I [I,a] [I] es.size (λi v=>∃ e,(ordOf w a ep es)[i]?=some e/\e.2=v) (λi h=>IsSI h I a (slotAt w t i) i es.size ep/\BagAt h a es ep t (ledOf w)) where
 sub:=λb hb=>by simp at hb;simp[hb]
 frame:=λ_ _ _ st hk=>⟨st.1.keep λo e=>hk I (by simp) o e,st.2.keep λo e=>hk a (by simp) o e⟩
 item:=λi s Q E hi st hQ=>si_item st.1 st.2 hi λh' e he hit' hs' =>
  hQ e.2 h' s.toks ⟨e,he,rfl⟩ ⟨hit',st.2.keep λo q=>hs'.extBut a o hne q⟩ λb o hb q=>hs'.extBut b o (λh=>hb (by simp[h])) q
 done:=λs Q E st hQ=>si_end hh st.1 st.2 λh' he'=>hQ h' s.toks λb o hb e=>he' b o (λh=>hb (by simp[h])) e
 self:=λ_ _ _ _ st hQ=>si_self st.1 hQ
theorem hint_set {r:Addr}{Q:Bool->Shared->Prop}(hT:s.TypeIs (.ref r) "set")(h:Q false s):wpAny (model prog w) A (Builtin.List.listLengthHint (.ref r)) Q E s:=by
 unfold Builtin.List.listLengthHint;refine af (g8 hT PySem.F.slot_set_len.lookup ?_);generalize hid:("set.__len__":String)=id0
 wp_delta
 rw[show splitId id0=some ("set", "__len__") from by subst hid;decide +kernel];subst hid;refine af (fU (T:="set") (b:=true) hT (by rw[isSubtype_type];kernel_rfl) ?_);refine fG (λhab=>absurd hab (by decide)) (λ_=>?_);refine fG (λ_=>?_) (λhab=>absurd (by decide +kernel) hab);exact af (gZ hT (ao h))
theorem bag_src {a:Addr}{es:Array (Int×Value)}{ep:Nat}{t:SetTable}:KdlSrc prog w "set" a a es.size (λi v=>∃ e,(ordOf w a ep es)[i]?=some e/\e.2=v) (λh=>BagAt h a es ep t (ledOf w)) where
 type:=λ_ hm=>hm.typeIs
 there:=λ_ hm=>let ⟨_,ho,_⟩:=hm;⟨aE ho,aE ho⟩
 keep:=λ_ _ hm hk=>hm.keep λo e=>hk a (.inl rfl) o e
 notList:=by decide
 notTuple:=by decide
 hint:=λ_ _ _ _ hm hq=>hint_set hm.typeIs hq
 iter:=λ_ _ hh hm=>⟨_,_,(λ_ _ hq=>si_make hm hq),si_walks hh _ a (let ⟨_,ho,_⟩:=hm;aU (aE ho)) es ep t,⟨⟨_,aK _ rfl,rfl,rfl⟩,hm.keep λ_ e=>am _ e⟩⟩
theorem coll_bag {a:Addr}{es:Array (Int×Value)}{ep:Nat}{t:SetTable}(hh:A.handled=none)(b:BagAt s.heap a es ep t (ledOf w))(hz:es.size<=sizeLine):Coll prog w A a s λus=>us.Perm (es.toList.map (·.2)):=by
 intro E R h;refine kdu_collect (bag_src (ep:=ep) (t:=t)) hh b hz λh' tk acc hk hI=>h h' tk acc.toList hk ?_
 have:acc.toList=(ordOf w a ep es).toList.map (·.2):=by
  apply dw;intro i;rw[aZ,aF,aZ];rcases cv i es.size with hi | hi
  ·have hi':i<acc.size:=by rw[hI.1];exact hi
   obtain⟨e,he,hk⟩:=hI.2 i acc[i] (aT hi');rw[aT hi',he];exact congrArg some hk.symm
  ·rw[bM (by rw[hI.1];exact hi),bM (by rw[ord_size];exact hi)];rfl
 rw[this];exact (ord_perm w a ep es).map _
end
end Srt
end
section
namespace Srt
open PySem PyProof.Rows PySem.W
theorem sub_tup_set:isSubtype (.type "tuple") (.type "set")=pure false:=by rw[isSubtype_type];kernel_rfl
theorem sub_tup_fro:isSubtype (.type "tuple") (.type "frozenset")=pure false:=by rw[isSubtype_type];kernel_rfl
section
variable {prog:Program}{w:World}{A:Around}{E:Value->Shared->Prop}{s:Shared}
theorem src_list {h:Heap}{l:Addr}{items:Array Value}(hl:h.IsList l items):SetSrc prog w h l "list" items.size (λi v=>items[i]?=some v) where
 typ:=let ⟨o,ho,hc,_⟩:=hl;⟨o,ho,hc⟩
 sub1:=PySem.F.sub_list_set
 sub2:=PySem.F.sub_list_frozenset
 ne:=by decide
 iter:=λA s hk=>by
  have hl':s.heap.IsList l items:=hl.at λo e=>hk l o e
  refine⟨_,_,λE Q hq=>i5 hl' hq,λA' hh=>Walks.list hh _ l ?_ items,⟨⟨_,aK _ rfl,rfl,rfl⟩,hl'.push _⟩⟩;obtain⟨o,ho,_⟩:=hl';exact aU (aE ho)
theorem src_tup {h:Heap}{l:Addr}{items:Array Value}(hl:h.IsTuple l items):SetSrc prog w h l "tuple" items.size (λi v=>items[i]?=some v) where
 typ:=let ⟨o,ho,hc,_⟩:=hl;⟨o,ho,hc⟩
 sub1:=sub_tup_set
 sub2:=sub_tup_fro
 ne:=by decide
 iter:=λA s hk=>by
  have hl':s.heap.IsTuple l items:=hl.at λo e=>hk l o e
  refine⟨_,_,λE Q hq=>fF hl' hq,λA' hh=>Walks.tuple hh _ l ?_ items,⟨⟨_,aK _ rfl,rfl,rfl⟩,hl'.at λo e=>am _ e⟩⟩;obtain⟨o,ho,_⟩:=hl';exact aU (aE ho)
end
end Srt
end
section
namespace L2
open PySem PySem.Spec PyProof.Rows
section
variable {X:Cx}{pins:List (Addr×Obj)}{σ:St}{H:Hp}{s:Shared}{h':Heap}
theorem a1Z {h:Heap}{o:Obj}{b:Addr}(hb:b<h.objs.size):(h.push o).get? b=h.get? b:=by
 unfold Heap.get? Heap.push;simp[Array.getElem?_push,aU hb]
theorem T6 {t':Nat}{L:List Addr}(I:Inv X pins σ H s)(k:∀ b o,b∉L->s.heap.get? b=some o->h'.get? b=some o)(hf:∀ b∈L,W6 X pins H b):Inv X pins σ H {s with heap:=h',toks:=t'}:=by
 have nit:∀ b u,H b=some u->b∉L:=λb u e z=>by rw[(hf b z).1] at e;cases e
 refine I.step (g':=s.gens) (d':=s.drawn) (ch:=L) (λb hb=>?_) (λb o _ _ hc e _=>k b o hc e) (λb o _ _ hc e _=>⟨o.slots,k b o hc e⟩) (λ_ _ _ _ n=>n)
  (λb o hc e=>⟨o,k b o hc e⟩) (λ_ _ e=>e) (λ_ _ _ e=>e) (λb ps e=>⟨#[],by rw[e];simp⟩) (λm hm=>?_) (λb u e=>?_) I.bare
 ·obtain⟨f0,f1,f2,f3,f4,f5⟩:=hf b hb;exact⟨f3,f1,f4,f5⟩
 ·obtain⟨o,es,ep,ho,r⟩:=hm;exact⟨o,es,ep,k _ o (λz=>(hf _ z).2.1 rfl) ho,r⟩
 ·refine (I.hok b u e).stay (λc v hc q=>k c v ?_ q) (λ_ q=>q) λ_ _ q=>q
  rcases hc with z | z
  ·rw[z];exact nit b u e
  ·exact nit c _ z
def Ite (K:ah)(a:Addr):It :=
 ⟨λi H=>∃ xs x,SqL K H a xs/\xs[i]?=some x,λi H v H'=>∃ q x,v=.ref q/\H q=none/\H'=upd H q (.tup [.int i,x])/\∀ xs,SqL K H a xs->xs[i]?=some x,λi H=>∃ xs,SqL K H a xs/\xs.length<=i⟩
theorem a6V {P:Program}{w:World}{K:ah}{elts:List Expr}{k:Nat}{pos:Pos}(a e it:Addr)(hne:e≠it):a2G P w K (.Tuple elts k pos) (Ite K a) [e,it] e (λi h=>(∃ old,IsEnum h e it i old)/\h.IsListIter it a i) where
 mem:=by simp
 obj:=λi h st b hb=>by
  obtain⟨⟨old,he⟩,o,eo,c,d⟩:=st;rcases aJ.mp hb with rfl | hb
  ·exact⟨_,he,λv z=>by
    have z':iN _=h9 v:=z
    cases z'⟩
  ·have e:b=it:= ~~~hb
   subst e;exact⟨o,eo,λv z=>by rw[d] at z;cases z⟩
 keep:=λi h h' st k=>⟨let ⟨old,he⟩:=st.1;⟨old,k e (by simp) _ he⟩,st.2.at λo q=>k it (by simp) o q⟩
 item:=by
  intro X hP hw hK hc i pins s σ H E I hf st hg;subst hP hw hK;obtain⟨xs,x,hq,hx⟩:=hg;obtain⟨its,rv,p,hz⟩:=I.list hq;obtain⟨u,hu,ru⟩:=rv.get hx;obtain⟨⟨old,he⟩,hit⟩:=st;have hel:e<s.heap.objs.size:=aE he;have hil:it<s.heap.objs.size:=by obtain⟨_,z,_⟩:=hit;exact aE z
  refine wpAny_pyNext_enum_item he hit p.isList (x:=u) (~~~hu) hne λh1 ho hit1 hT hsz hk=>⟨_,rfl,?_⟩
  refine jA (s:={s with heap:=h1,toks:=s.toks+1}) ho λh2 he2 hs2=>?_
  have hs2':∀ b o,b≠e->h1.get? b=some o->h2.get? b=some o:=λb o hb q=>(hs2.2 b hb).trans q
  have I1:Inv X pins σ (upd H s.heap.objs.size (.tup [.int i,x])) {s with heap:=s.heap.push {cls:=.type "tuple",data:=.seq #[.int i s.toks,u]},toks:=s.toks+1} :=
   I.laid (o:=.tup [.int i,x]) (λb o q=>am _ q) (aC _) ⟨by simp[sizeLine_eq],[.int i s.toks,u],.cons ⟨_,rfl⟩ (.cons ru .nil),⟨_,aK _ rfl,rfl,_,rfl⟩⟩
  have hfr:∀ b∈[e,it],W6 X pins (upd H s.heap.objs.size (.tup [.int i,x])) b:=by
   intro b hb;obtain⟨f0,f⟩:=hf b hb;refine⟨?_,f⟩;rw[B3];exact f0;rcases aJ.mp hb with rfl | hb
   ·exact aU hel
   ·rw[ag.mp hb];exact aU hil
  have I2:Inv X pins σ (upd H s.heap.objs.size (.tup [.int i,x])) {s with heap:=h2,toks:=s.toks+1}:=by
   refine T6 (s:={s with heap:=s.heap.push {cls:=.type "tuple",data:=.seq #[.int i s.toks,u]},toks:=s.toks+1}) (L:=[e,it]) I1 (λb o hb q=>?_) hfr;have hb1:b≠e:=λz=>hb (by simp[z])
   have hb2:b≠it:=λz=>hb (by simp[z])
   refine hs2' b o hb1 ?_;by_cases hbT:b=s.heap.objs.size
   ·subst hbT;rw[show (s.heap.push {cls:=.type "tuple",data:=.seq #[.int i s.toks,u]}).get? s.heap.objs.size=some {cls:=.type "tuple",data:=.seq #[.int i s.toks,u]} from aK _ rfl] at q;cases q;exact hT
   ·have:s.heap.get? b=some o:=by
     have hlt:b<s.heap.objs.size+1:=by have:=aE q;rw[cV] at this;exact this
     have hlt2:b<s.heap.objs.size:=im (dL hlt) hbT;rw[<- q];exact (a1Z hlt2).symm
    exact hk b o hb1 hb2 this
  refine⟨.ref s.heap.objs.size,_,I2,rfl,⟨s.heap.objs.size,x,rfl,I.fresh,rfl,λys hy=>by rw[I.list_inj hy hq];exact hx⟩,⟨⟨_,he2⟩,hit1.at λo q=>hs2' it o hne.symm q⟩,λb hb=>(hfr b hb).1⟩
 done:=by
  intro X hP hw hK hc i pins s σ H E I hf st hg;subst hP hw hK;obtain⟨xs,hq,hx⟩:=hg;obtain⟨its,rv,p,hz⟩:=I.list hq;obtain⟨⟨old,he⟩,hit⟩:=st;have hl:=rv.length;refine wpAny_pyNext_enum_end (I.ok.hd hc) he hit p.isList (by simp;omega) λh' eb=>⟨rfl,?_⟩
  exact T6 (t':=s.toks) (L:=[e,it]) I (λb o hb q=>eb b o (λz=>hb (by simp[z])) q) hf
 self:=λ_ _ _ _ _ st h=>let ⟨_,he⟩:=st.1;gC he h
end
section
variable {X:Cx}{K:ah}{elts:List Expr}{k:Nat}{tpos p pos:Pos}{l:Expr}{t:TA}{y:Str}
def b1t (K:ah)(t:TA):TI:=fun σ H R=>t σ H λvs H1=>∃ a,vs=[.ref a]/\(∃ xs,SqL K H1 a xs)/\R (Ite K a) H1
theorem a6r (hg:Gl X y)(hm:X.mg y=none)(hv:bootBuiltins y=some (.type "enumerate"))(ha:PA X [l] t)(hn:y≠"__name__":=by decide)(hdb:(y == ("__debug__":Str))=false:=by decide)
  (he:starEach [l] X.env=[(false,eval l X.env)]:=by rfl) (hpl:(backTo pos (starEach ([]:List Expr) X.env)).any (·.1)=false:=by rfl) (hK:X.K=K:=by rfl):PI X (.Tuple elts k tpos) (.Call (.Name y p) [l] [] pos) (b1t K t):=by
 subst hK;intro pins s σ H R I h;refine cG (S9 I hg hm hv ?_ hn hdb);refine bR (thn (ha pos pins s σ H _ I h) λus s1 ⟨vs,H1,I1,r1,a,e1,⟨xs,hq⟩,q⟩=>?_) he hpl;subst e1;obtain⟨u,rfl,rx⟩:=V4 r1;cases rx;obtain⟨its,rv,pl,hz⟩:=I1.list hq;refine call_enumerate_list pl.isList λh' hen hit hsz hk=>gC (s:={s1 with heap:=h'}) hen ?_
 refine⟨s1.heap.objs.size+1,[s1.heap.objs.size+1,s1.heap.objs.size],_,_,H1,rfl,I1.kept (t':=s1.toks) hk,a6V a _ _ (fg (dD _)),⟨⟨_,hen⟩,hit⟩,λb hb=>?_,q⟩;rcases aJ.mp hb with rfl | hb
 ·exact I1.fpOk (fW _) (I1.hok.fresh (fW _))
 ·rw[ag.mp hb];exact I1.fpOk (aC _) I1.fresh
end
section
variable {K:ah}{a p:Addr}{xs:List V}{g:TG}{tc:TT}{te tv:TE}{τ0:St}{H0:Hp}{EE:Hp->Prop}
theorem a6B (Pv:Nat->St->Hp->Prop)(h0:Pv 0 τ0 H0)(hl:∀ i τ H,i<=xs.length->Pv i τ H->SqL K H a xs)
  (hs:∀ i x τ H q,xs[i]?=some x->Pv i τ H->H q=none->g (.ref q) τ (upd H q (.tup [.int i,x])) fun τ2 H2=>tc τ2 H2 λb H3=>if b=true then te τ2 H3 λv H4=>∃ ys,H4 p=some (.lst ys)/\ys.length<sizeLine/\Pv (i+1) τ2 (upd H4 p (.lst (ys++[v]))) else Pv (i+1) τ2 H3)
  (hd:∀ τ H,Pv xs.length τ H->EE H):lcW g tc te p (Ite K a) τ0 H0 EE:=by
 refine⟨λi m τ H=>m=xs.length-i/\i<=xs.length/\Pv i τ H,⟨_,rfl,bo _,h0⟩,?_⟩;rintro i m τ H ⟨rfl,hi,hp⟩;have hq:=hl i τ H hi hp;rcases cv i xs.length with h | h
 ·have hx:xs[i]?=some xs[i]:=au h;refine .inr ⟨⟨xs,_,hq,hx⟩,Pv (i+1),fun τ' H' z=>⟨_,∅,rfl,h,z⟩,?_⟩;rintro v H' ⟨q,x,rfl,hn,rfl,hy⟩;have e:x=xs[i]:=by have:=hy xs hq;rw[hx] at this;exact (aP this).symm
  subst e;exact hs i _ τ H q hx hp hn
 ·have e:i=xs.length:=∅
  subst e;exact .inl ⟨⟨xs,hq,aC _⟩,hd τ H hp⟩
end
structure Bt2 (mg:Str->Option Value):Prop where
 isinstance:mg "isinstance"=none
 bool:mg "bool"=none
 all:mg "all"=none
 set:mg "set"=none
 enumerate:mg "enumerate"=none
 zip:mg "zip"=none
end L2
end
section
namespace L2
open PySem
inductive Rch (ts:⋯)(A:Int->Prop)(u:Int):Int->Prop
 | base:Rch ts A u u
 | step {y x:Int}:Rch ts A u y->x∈nb ts y->A x->Rch ts A u x
structure a4n (n:Int)(ts:⋯)(A:Int->Prop)(u:Int)(fs ws:List Int):Prop where
 nd:fs.Nodup
 rng:∀ x∈fs,0<=x/\x<n
 st:u∈fs
 sub:∀ x∈ws,x∈fs
 snd:∀ x∈fs,Rch ts A u x
 cl:∀ x∈fs,x∉ws->∀ y∈nb ts x,A y->y∈fs
structure a0i (n:Int)(ts:⋯)(A:Int->Prop)(u:Int)(fs ws:List Int)(v:Int)(j:Nat):Prop where
 nd:fs.Nodup
 rng:∀ x∈fs,0<=x/\x<n
 st:u∈fs
 sub:∀ x∈ws,x∈fs
 snd:∀ x∈fs,Rch ts A u x
 cl:∀ x∈fs,x∉ws->x≠v->∀ y∈nb ts x,A y->y∈fs
 vin:v∈fs
 part:∀ y∈(nb ts v).take j,A y->y∈fs
section
variable {n:Int}{ts:⋯}{A:Int->Prop}{u v:Int}{fs ws:List Int}{j:Nat}
theorem a4n.init (h0:0<=u)(h1:u<n):a4n n ts A u [u] [u] :=
 ⟨by simp,λx hx=>by simp at hx;subst hx;exact⟨h0,h1⟩,by simp,by simp,λx hx=>by simp at hx;subst hx;exact .base,λx hx hn=>by simp at hx hn;exact absurd hx hn⟩
theorem a4n.pop (h:a4n n ts A u fs (ws++[v])):a0i n ts A u fs ws v 0 :=
 ⟨h.nd,h.rng,h.st,λx hx=>h.sub x (by simp[hx]),h.snd,λx hx hn hv=>h.cl x hx (by simp[hn,hv]),h.sub v (by simp),λy hy=>by simp at hy⟩
theorem a0i.add (h:a0i n ts A u fs ws v j)(hok:L5 n ts){y:Int}(hy:(nb ts v)[j]?=some y)(ha:A y)(hn:y∉fs):a0i n ts A u (fs++[y]) (ws++[y]) v (j+1):=by
 have hym:=aG hy;have hr:=L6 hok hym;refine⟨?_,λx hx=>?_,by simp[h.st],λx hx=>?_,λx hx=>?_,λx hx hw hv z hz az=>?_,by simp[h.vin],λz hz az=>?_⟩
 ·rw[b9];exact⟨h.nd,by simp,λa hq b hb e=>hn (by simp at hb;subst hb;subst e;exact hq)⟩
 ·rcases aj.mp hx with hx | hx
  ·exact h.rng x hx
  ·cases ag.mp hx;exact⟨hr.1,hr.2.1⟩
 ·rcases aj.mp hx with hx | hx
  ·exact aj.mpr (.inl (h.sub x hx))
  ·exact aj.mpr (.inr hx)
 ·rcases aj.mp hx with hx | hx
  ·exact h.snd x hx
  ·cases ag.mp hx;exact .step (h.snd v h.vin) hym ha
 ·rcases aj.mp hx with hx | hx
  ·exact aj.mpr (.inl (h.cl x hx (λq=>hw (aj.mpr (.inl q))) hv z hz az))
  ·exact absurd (aj.mpr (.inr hx)) hw
 ·rw[cN,hy] at hz;rcases aj.mp hz with hz | hz
  ·exact aj.mpr (.inl (h.part z hz az))
  ·simp at hz;subst hz;simp
theorem a0i.skip (h:a0i n ts A u fs ws v j){y:Int}(hy:(nb ts v)[j]?=some y)(ha:¬ A y\/y∈fs):a0i n ts A u fs ws v (j+1):=by
 refine⟨h.nd,h.rng,h.st,h.sub,h.snd,h.cl,h.vin,λz hz az=>?_⟩;rw[cN,hy] at hz;rcases aj.mp hz with hz | hz
 ·exact h.part z hz az
 ·simp at hz;subst hz;exact ha.elim (λq=>absurd az q) id
theorem a0i.done (h:a0i n ts A u fs ws v j)(hj:(nb ts v).length<=j):a4n n ts A u fs ws:=by
 refine⟨h.nd,h.rng,h.st,h.sub,h.snd,λx hx hw y hy ay=>?_⟩;by_cases e:x=v
 ·subst e;exact h.part y (by rw[cS hj];exact hy) ay
 ·exact h.cl x hx hw e y hy ay
theorem a4n.fin (h:a4n n ts A u fs [])(x:Int):x∈fs↔Rch ts A u x:=by
 refine⟨h.snd x,λr=>?_⟩;induction r with
 | base=>exact h.st
 | step _ hm ha ih=>exact h.cl _ ih (by simp) _ hm ha
theorem Rch.rng (hok:L5 n ts)(h0:0<=u)(h1:u<n){x:Int}(r:Rch ts A u x):0<=x/\x<n:=by
 induction r with
 | base=>exact⟨h0,h1⟩
 | step _ hm _ _=>have:=L6 hok hm;omega
theorem Rch.mem {x:Int}(r:Rch ts A u x)(h:A u):A x:=by
 cases r with
 | base=>exact h
 | step _ _ ha=>exact ha
theorem Rch.left {L:Int->Prop}(hok:L5 n ts)(hL:∀ x,L x->A x)(hc:∀ x y,A x->¬ L x->y∈nb ts x->A y->¬ L y)(hu:L u){x:Int}:Rch ts L u x↔Rch ts A u x:=by
 constructor
 ·intro r;induction r with
  | base=>exact .base
  | step _ hm ha ih=>exact .step ih hm (hL _ ha)
 ·intro r;have:Rch ts L u x/\L x:=by
   induction r with
   | base=>exact⟨.base,hu⟩
   | @step y x _ hm ha ih =>
    have:L x:=aX λhn=>hc x y ha hn ((X1 hok).mp hm) (hL _ ih.2) ih.2
    exact⟨.step ih.1 hm this,this⟩
  exact this.1
theorem b4i {H:Hp}{p:Addr}{u:Int}:upd (upd H p (.dK [])) p (.dK (a1f [] [(dN u,V.bl true)]))=upd H p (.dK (kvI [u])):=by
 rw[a1D];rfl
theorem a9t {y:Int}(h:y∉fs):a7K fs y=fs++[y]:=by unfold a7K;rw[if_neg h]
end
structure a0s (H Hc:Hp)(me wl:Addr)(fs ws:List Int):Prop where
 same:A9 H Hc
 met:Hc me=some (.dK (kvI fs))
 wait:Hc wl=some (.lst (ws.map V.int))
def srM (n:Int)(me wl:Addr)(Hc:Hp):Nat:=match Hc me,Hc wl with
 | some (.dK kvs),some (.lst xs)=>2*(n.toNat-kvs.length)+xs.length
 | _,_=>0
section
variable {H Hc:Hp}{me wl:Addr}{fs ws:List Int}{n:Int}
theorem a0s.mu (h:a0s H Hc me wl fs ws):srM n me wl Hc=2*(n.toNat-fs.length)+ws.length:=by
 unfold srM;rw[h.met,h.wait];show 2*(n.toNat-(kvI fs).length)+(ws.map V.int).length=_;rw[a6E,ae]
theorem a0s.ne (h:a0s H Hc me wl fs ws):me≠wl:=λe=>by
 have:=h.met;rw[e,h.wait] at this;cases this
theorem a6C {ws:List Int}(h:ws≠[]):∃ ws' v,ws=ws'++[v]:=⟨ws.dropLast,ws.getLast h,(dY h).symm⟩
theorem a0s.pop {v:Int}(h:a0s H Hc me wl fs (ws++[v]))(hw:H wl=none):((ws++[v]).map V.int)[((ws++[v]).map V.int).length-1]?=some (V.int v)/\a0s H (upd Hc wl (.lst ((ws++[v]).map V.int).dropLast)) me wl fs ws:=by
 refine⟨by simp,h.same.upd hw,by rw[B3 h.ne];exact h.met,?_⟩;rw[A3];simp
theorem a0s.add {y:Int}(h:a0s H Hc me wl fs ws)(hm:H me=none)(hw:H wl=none)(hy:y∉fs):a0s H (upd (upd Hc me (.dK (kvI (a7K fs y)))) wl (.lst (ws.map V.int++[V.int y]))) me wl (fs++[y]) (ws++[y]):=by
 refine⟨(h.same.upd hm).upd hw,?_,?_⟩
 ·rw[B3 h.ne,A3,a9t hy]
 ·rw[A3,ap];rfl
theorem a0s.mono {H0:Hp}(h:a0s H Hc me wl fs ws)(s:A9 Hc H0):a0s H H0 me wl fs ws:=⟨h.same.trans s,s _ _ h.met,s _ _ h.wait⟩
end
def a1M (K:ah):Sp:=λvs H Q _=>∃(rp:Addr) (as:List Addr) (n:Int) (ts:⋯) (al:Addr) (ls:List Int) (u:Int),vs=[.ref rp,.int u,.ref al]/\E5 H rp as (G9 n ts)/\L5 n ts/\n<=1000/\ts.length<=1000/\(SqL K H al (ls.map V.int)\/SqT K H al (ls.map V.int))/\0<=u/\u<n /\
 ∀(p:Addr) (zs:List Int) (H':Hp),A9 H H'->H p=none->H' p=some (.lst (zs.map V.int))->zs.Pairwise (·<·)->(∀ x,x∈zs↔Rch ts (·∈ls) u x)->Q (.ref p) H'
end L2
end
section
namespace L2
open PySem
def tI (l:List Int):PyData:=.tuple (l.map cg)
theorem W5:∀ ls:List (List Int),PyData.canLayAll0 (ls.map tI)=true
 | []=>rfl
 | n::r=>by
  rw[aH,PyData.canLayAll0,W5 r];unfold tI;rw[PyData.canLay0,K6];rfl
theorem W3:∀ ls:List (List Int),PyData.depthAll (ls.map tI)<=1
 | []=>bo _
 | n::r=>by
  rw[aH,PyData.depthAll];have:=W3 r;unfold tI at this ⊢;rw[PyData.depth,N9];omega
theorem a0T (ls:List (List Int)):SeqAt.shaped (.tuple (ls.map tI))=true:=by
 unfold SeqAt.shaped;rw[PyData.canLay0,PyData.depth,W5];have:=W3 ls;rw[ii,decide_eq_true_iff];omega
theorem a4e:∀ ls ms:List (List Int),PyData.eqvAll (ls.map tI) (ms.map tI)=decide (ls=ms)
 | [],[]=>rfl
 | [],_::_=>rfl
 | _::_,[]=>rfl
 | a::r,b::t=>by
  rw[aH,aH,PyData.eqvAll,a4e r t];unfold tI;rw[W1];by_cases h:a=b<;>by_cases h':r=t<;>simp[h,h']
theorem Dts.tups {K:ah}{H:Hp}:∀ {ps:List (Addr×List Int)},(∀ x∈ps,SqT K H x.1 (x.2.map V.int))->Dts K H (ps.map λx=>V.ref x.1) ((ps.map (·.2)).map tI)
 | [],_=>.nil
 | p::r,h=>.cons (.tupI (h p (aM ..))) (Dts.tups λx hx=>h x (aI _ hx))
def a5v (H:Hp)(p:Addr)(ls:List (List Int)):Prop:=∃ ps:List (Addr×List Int),H p=some (.tup (ps.map λx=>V.ref x.1))/\(∀ x∈ps,H x.1=some (.tup (x.2.map V.int)))/\ps.map (·.2)=ls
theorem a5v.tp {H H':Hp}{p:Addr}{ls:List (List Int)}(h:a5v H p ls)(t:Tp H H'):a5v H' p ls:=by
 obtain⟨ps,e,ha,hl⟩:=h;exact⟨ps,t _ _ e,λx hx=>t _ _ (ha x hx),hl⟩
theorem a5v.dt {K:ah}{H:Hp}{p:Addr}{ls:List (List Int)}(h:a5v H p ls):Dt K H (.ref p) (.tuple (ls.map tI)):=by
 obtain⟨ps,e,ha,rfl⟩:=h;exact .tup (SqT.of e) (Dts.tups λx hx=>SqT.of (ha x hx))
end L2
end
section
namespace L2
open PySem PySem.Spec PyProof.Rows
section
variable {X:Cx}
theorem a4R {x:Str}{n:String}{pos:Pos}(hg:Gl X x)(hm:X.mg x=none)(hv:bootBuiltins x=some (.type n))(hn:x≠"__name__":=by decide)(hd:(x == ("__debug__":Str))=false:=by decide):PE X (.Name x pos) (tC (.ty n)) :=
 λ_ _ _ H _ I h=>S9 I hg hm hv ⟨.ty n,H,I,rfl,h⟩ hn hd
def b2Y (K:ah):List V->Hp->VK->Prop:=λxs H Q=>∃(x:V) (n:String) (t:Value) (b:Bool),xs=[x,.ty n]/\a1k K H x t/\PySem.W.kitOne K t (.type n)=some b/\Q (.bl b) H
theorem a9n:P3 X (.builtin "isinstance") (b2Y X.K):=by
 intro pins s σ H xs us Q I r h;obtain⟨x,n,t,b,rfl,ty,e,q⟩:=h;obtain⟨u,w',rfl,rx,rn⟩:=a6c r;cases (show w'=dA n from rn);exact a7t I rx ty e λtk=>⟨.bl b,H,I.tok _,rfl,q⟩
theorem a8O (K:ah)(h:X.K=K:=by rfl):P3 X (.builtin "isinstance") (b2Y K):=by subst h;exact a9n
theorem a3A:∀ {bs:List Bool} {us:List Value},E2 (bs.map V.bl) us->∀(i:Nat) (v:Value),us[i]?=some v->v=bE (bs.getD i true)
 | [],_,.nil,i,v,h=>by simp at h
 | b::r,_,.cons q t,0,v,h=>by simp at h;subst h;exact q
 | b::r,_,.cons q t,i+1,v,h=>by simp at h;exact a3A t i v h
theorem a6Y (bs:List Bool):(List.range bs.length).all (λi=>bs.getD i true)=bs.all id:=by
 induction bs with
 | nil=>rfl
 | cons b r ih =>
  rw[aD,List.range_succ_eq_map,ig,iD,ig];congr 1
def b2Z (K:ah):List V->Hp->VK->Prop:=λxs H Q=>∃(p:Addr) (bs:List Bool),xs=[.ref p]/\SqL K H p (bs.map V.bl)/\Q (.bl (bs.all id)) H
theorem a7H (hh:X.A.handled=none):P3 X (.builtin "all") (b2Z X.K):=by
 intro pins s σ H xs us Q I r h;obtain⟨p,bs,rfl,hq,q⟩:=h;obtain⟨u,rfl,ru⟩:=V4 r;cases ru;obtain⟨its,rv,pl,hz⟩:=I.list hq;have hl:s.heap.IsList p its.toArray:=pl.isList;have hlen:its.length=bs.length:=by rw[<- rv.length,ae]
 refine call_all_walk (i5 hl ?_);have hpu:∀ b o,s.heap.get? b=some o->(s.heap.push {cls:=.type "list_iterator",data:=.fields #[.ref p,.int 0 0]}).get? b=some o:=λb o e=>am _ e
 have hne:p≠s.heap.objs.size:=by
  obtain⟨o,ho,_⟩:=hl;exact aU (aE ho)
 refine⟨_,_,_,_,_,_,λi=>bs.getD i true,rfl,Walks.list (prog:=X.prog) (w:=X.w) (A:=X.A.in1) hh s.heap.objs.size p hne its.toArray,⟨⟨_,aK _ rfl,rfl,rfl⟩,hl.at λo e=>hpu _ _ e⟩,?_,?_⟩
 ·intro i v s' Q' E' hP hQ;have:v=bE (bs.getD i true):=a3A rv i v (~~~hP);subst this;exact cY hQ
 ·intro h' tk hk;have e:(List.range its.toArray.size).all (λi=>bs.getD i true)=bs.all id:=by rw[aQ,hlen];exact a6Y bs
  rw[e];refine⟨.bl _,H,I.kept λb o eb=>hk b o (λhm=>?_) (hpu b o eb),rfl,q⟩;rw[ag.mp hm] at eb;exact absurd (aE eb) (dr _)
theorem b3d (K:ah)(hh:X.A.handled=none)(h:X.K=K:=by rfl):P3 X (.builtin "all") (b2Z K):=by subst h;exact a7H hh
end
end L2
end
section
namespace L2
open PySem
def mm (a b:Int):Int×Int:=(if b<a then b else a,if b>a then b else a)
inductive P0 (ts:⋯):List Int->⋯->Prop where
 | one (s:Int):P0 ts [s] []
 | add {ins:List Int} {us:⋯} {a b:Int} (h:P0 ts ins us) (ha:a∈ins) (hb:b∉ins) (hn:b∈nb ts a):P0 ts (ins++[b]) (us++[mm a b])
section
variable {n:Int}{ts us:⋯}{ins:List Int}
theorem b2o (hok:L5 n ts){a b:Int}(h:b∈nb ts a):mm a b∈ts:=by
 rcases X2.mp h with q | ⟨q,_⟩
 ·have:=hok _ q;dsimp only at this;have e:mm a b=(a,b):=by unfold mm;rw[if_neg ∅,if_pos ∅]
  rw[e];exact q
 ·have:=hok _ q;dsimp only at this;have e:mm a b=(b,a):=by unfold mm;rw[if_pos ∅,if_neg ∅]
  rw[e];exact q
theorem P0.len (g:P0 ts ins us):ins.length=us.length+1:=by
 induction g with
 | one s=>rfl
 | add h _ _ _ ih=>rw[ak,ak,ih];rfl
theorem P0.nd (g:P0 ts ins us):ins.Nodup:=by
 induction g with
 | one s=>simp
 | add h _ hb _ ih =>
  rw[b9];exact⟨ih,by simp,λa ha b hb' e=>by simp at hb';subst hb';subst e;exact hb ha⟩
theorem P0.ends (g:P0 ts ins us):∀ t∈us,t.1∈ins/\t.2∈ins:=by
 induction g with
 | one s=>intro t ht;cases ht
 | @add ins us a b h ha hb hn ih =>
  intro t ht;rcases aj.mp ht with ht | ht
  ·exact⟨aL _ (ih t ht).1,aL _ (ih t ht).2⟩
  ·cases ag.mp ht;have h1:a∈ins++[b]:=aL _ ha;have h2:b∈ins++[b]:=aN _ (ag.mpr rfl);unfold mm;dsimp only;constructor
   ·split<;>assumption
   ·split<;>assumption
theorem P0.sub (g:P0 ts ins us)(hok:L5 n ts):∀ t∈us,t∈ts:=by
 induction g with
 | one s=>intro t ht;cases ht
 | add h ha hb hn ih =>
  intro t ht;rcases aj.mp ht with ht | ht
  ·exact ih t ht
  ·cases ag.mp ht;exact b2o hok hn
theorem P0.tnd (g:P0 ts ins us):us.Nodup:=by
 induction g with
 | one s=>exact je
 | @add ins us a b h ha hb hn ih =>
  rw[b9];refine⟨ih,by simp,λt ht u hu e=>?_⟩;simp at hu;subst hu;subst e;have:=h.ends _ ht;unfold mm at this;dsimp only at this;obtain⟨q1,q2⟩:=this;by_cases hc:b<a
  ·rw[if_pos hc] at q1;exact hb q1
  ·rw[if_neg hc] at q1;by_cases hd:b>a
   ·rw[if_pos hd] at q2;exact hb q2
   ·have:a=b:=∅
    subst this;exact hb ha
theorem P0.rng (g:P0 ts ins us)(hok:L5 n ts)(h0:∀ x∈ins.head?,0<=x/\x<n):∀ x∈ins,0<=x/\x<n:=by
 induction g with
 | one s=>intro x hx;rw[ag.mp hx];exact h0 s rfl
 | @add ins us a b h ha hb hn ih =>
  have hne:ins≠[]:=λe=>by subst e;cases ha
  have h0':∀ x∈ins.head?,0<=x/\x<n:=λx hx=>h0 x (by rw[List.head?_append,hx];rfl)
  intro x hx;rcases aj.mp hx with hx | hx
  ·exact ih h0' x hx
  ·cases ag.mp hx;have:=L6 hok hn;omega
theorem P0.open (g:P0 ts ins us)(hw:C4 n ts)(hr:∀ x∈ins,0<=x/\x<n)(hl:(ins.length:Int)<n):∃ a∈ins,∃ b∈nb ts a,b∉ins:=by
 apply aX;intro hno;have hcl:∀ a∈ins,∀ b∈nb ts a,b∈ins:=λa ha b hb=>aX λhn=>hno ⟨a,ha,b,hb,hn⟩
 obtain⟨s,hs⟩:∃ s,s∈ins:=by
  cases ins with
  | nil=>have:=g.len;simp at this
  | cons x r=>exact⟨x,aM ..⟩
 have hS:∀ t∈ts,(t.1∈ins↔t.2∈ins):=λt ht=>by
  obtain⟨h0,h1,h2⟩:=hw.rng t ht;have e1:t.2∈nb ts t.1:=X2.mpr (.inl ht);exact⟨λh=>hcl _ h _ e1,λh=>hcl _ h _ ((X1 hw.rng).mp e1)⟩
 have hall:=λv h0 h1=>hw.conn (λx=>x∈ins) hS s v (hr s hs).1 (hr s hs).2 h0 h1 hs
 have hsub:B0 0 n.toNat ⊆ ins:=λx hx=>by
  have:=E6.mp hx;exact hall x this.1 ∅
 have:=X0 (E7 (V7 n.toNat)) hsub;rw[B1] at this;omega
structure K5 (n:Int)(ts us:⋯):Prop where
 grown:∃ ins gs,P0 ts ins gs/\us.Perm gs/\(ins.length:Int)=n/\∀ x∈ins,0<=x/\x<n
 srt:us.Pairwise Lex
 sub:∀ t∈us,t∈ts
theorem K5.len (h:K5 n ts us):(us.length:Int)+1=n:=by
 obtain⟨ins,gs,g,p,hl,_⟩:=h.grown;have:=g.len;rw[p.length_eq];omega
theorem K5.ok (h:K5 n ts us)(hok:L5 n ts):L5 n us:=λt ht=>hok t (h.sub t ht)
theorem a1I {us:⋯}(hs:us.Pairwise λx y=>HT.lexLt (tl y) (tl x)=false)(hn:us.Nodup):us.Pairwise Lex:=by
 refine (fO hs hn).imp ?_;rintro a b ⟨h1,h2⟩;have h3:¬ Lex b a:=λe=>by rw[a3X.mpr e] at h1;cases h1
 unfold Lex at h3 ⊢;have h4:¬ (a.1=b.1/\a.2=b.2):=λe=>h2 (by cases a;cases b;simp at e;rw[e.1,e.2])
 omega
theorem a7z {gs:⋯}(g:P0 ts ins gs)(hok:L5 n ts)(hl:(ins.length:Int)=n)(hr:∀ x∈ins,0<=x/\x<n)(p:us.Perm gs)(hs:us.Pairwise λx y=>HT.lexLt (tl y) (tl x)=false):K5 n ts us :=
 ⟨⟨ins,gs,g,p,hl,hr⟩,a1I hs (p.nodup_iff.mpr g.tnd),λt ht=>g.sub hok t (p.mem_iff.mp ht)⟩
end
theorem E5.put {H:Hp}{p x:Addr}{as:List Addr}{rows:List (List Int)}{o:HO}(h:E5 H p as rows)(h1:x≠p)(h2:x∉as):E5 (upd H x o) p as rows :=
 h.mono λa u q e=>by
  rw[B3 (λz=>by subst z;exact q.elim (λz=>h1 z) h2)];exact e
theorem b4g {K:ah}{H:Hp}{a b:Addr}{ls ms:List (List Int)}{Q:VK}(h1:a5v H a ls)(h2:a5v H b ms)(q:Q (.bl (decide (ls=ms))) H):a1X K false (.ref a) (.ref b) H Q :=
 ⟨_,_,h1.dt,h2.dt,a0T _,a0T _,by
  have e:PyData.eqv (.tuple (ls.map tI)) (.tuple (ms.map tI))=decide (ls=ms):=by rw[PyData.eqv];exact a4e ls ms
  rw[e];exact q⟩
theorem a5S {n:Nat}{f:Int->Bool}:((B0 0 n).filter f).Pairwise (·<·):=(V7 n).sublist List.filter_sublist
def N8 (n:Int)(ts:⋯):List Int:=(B0 0 n.toNat).filter λv=>decide ((nb ts v).length=1)
end L2
end
section
namespace L2
open PySem PySem.Spec PyProof.Rows
section
variable {X:Cx}
def a9Q (K:ah)(neg:Bool):R2:=λx y H Q=>∃(d:PyData) (es:List PyData),Dt K H x d/\Dt K H y (.tuple es)/\d.canLay0=true/\PyData.canLayAll0 es=true/\PyData.depthAll es<=8 /\
 Q (.bl (if neg then !(es.any λe=>PyData.eqv e d) else es.any λe=>PyData.eqv e d)) H
theorem b4K (hu:X.A.units+64<cLine):OpR X (compareOp .In) (a9Q X.K false):=by
 intro pins s σ H x y v u Q I rx ry h;obtain⟨d,es,hd,he,c1,c2,dp,q⟩:=h;obtain⟨as,r1⟩:=I.reads hd rx;obtain⟨bs,r2⟩:=I.reads he ry;exact SeqAt.in_tuple_reads r2 r1 c2 c1 (by have:=fV (PyData.depthAll es) d.depth;omega) ⟨.bl _,H,I,rfl,q⟩
theorem a7a (hu:X.A.units+64<cLine):OpR X (compareOp .NotIn) (a9Q X.K true):=by
 intro pins s σ H x y v u Q I rx ry h;obtain⟨d,es,hd,he,c1,c2,dp,q⟩:=h;obtain⟨as,r1⟩:=I.reads hd rx;obtain⟨bs,r2⟩:=I.reads he ry;exact SeqAt.notIn_tuple_reads r2 r1 c2 c1 (by have:=fV (PyData.depthAll es) d.depth;omega) ⟨.bl _,H,I,rfl,q⟩
theorem b0h (K:ah)(hu:X.A.units+64<cLine)(h:X.K=K:=by rfl):OpR X (compareOp .NotIn) (a9Q K true):=by subst h;exact a7a hu
end
theorem V3.ls {H:Hp}{q:Addr}{ts:⋯}(h:V3 H q ts):a5v H q (ts.map tl):=by
 obtain⟨ps,e,hp⟩:=h;exact⟨ps,e,hp.to,hp.eq⟩
theorem b3b (ts:⋯)(t:Int×Int):((ts.map tl).map tI).any (λe=>PyData.eqv e (.tuple ([t.1,t.2].map cg)))=decide (t∈ts):=by
 rw[cb,List.any_map,fq,eY,decide_eq_true_iff];constructor
 ·rintro⟨u,hu,e⟩;have e':PyData.eqv (.tuple ([u.1,u.2].map cg)) (.tuple ([t.1,t.2].map cg))=true:=e;rw[W1] at e';have:=of_decide_eq_true e';injection this with h1 h2
  injection h2 with h2
  have:u=t:=by cases u;cases t;simp at h1 h2;rw[h1,h2]
  rw[<- this];exact hu
 ·intro h;refine⟨t,h,?_⟩;show PyData.eqv (.tuple ([t.1,t.2].map cg)) (.tuple ([t.1,t.2].map cg))=true;rw[W1];exact decide_eq_true rfl
theorem a7m {K:ah}{H:Hp}{a p:Addr}{t:Int×Int}{ts:⋯}{Q:VK}(h1:SqT K H a ([t.1,t.2].map V.int))(h2:V3 H p ts)(q:Q (.bl (!decide (t∈ts))) H):a9Q K true (.ref a) (.ref p) H Q:=by
 refine⟨_,_,Dt.tupI h1,h2.ls.dt,?_,?_,?_,?_⟩
 ·rw[PyData.canLay0,K6]
 ·exact W5 _
 ·exact bH (W3 _) (by decide)
 ·rw[b3b];exact q
end L2
end
section
namespace Srt
open PySem PyProof.Rows
structure NxIt (prog:Program)(w:World)(i l:Addr)(n:Nat)(P:Nat->Value->Prop)(St:Nat->Heap->Prop):Prop where
 lt:∀ k h,St k h->i<h.objs.size
 frame:∀ k h h',St k h->(∀ b o,b=i\/b=l->h.get? b=some o->h'.get? b=some o)->St k h'
 item:∀(A:Around) (k:Nat) (s:Shared) (Q:Value->Shared->Prop) (E:Value->Shared->Prop),k<n->St k s.heap->(∀ v h',P k v->St (k+1) h'->cj i s.heap h'->Q v {s with heap:=h'}) ->
  wpAny (model prog w) A (Builtin.SmallTypes.nextOf (.ref i)) Q E s
 done:∀(A:Around) (k:Nat) (s:Shared) (Q:Value->Shared->Prop) (E:Value->Shared->Prop),A.handled=none->n<=k->St k s.heap ->
  (∀ h' e,iL i s.heap h'->(∃ o,h'.get? e=some o/\o.cls=.type "StopIteration")->E (.ref e) {s with heap:=h'})->wpAny (model prog w) A (Builtin.SmallTypes.nextOf (.ref i)) Q E s
theorem nx_tup {prog:Program}{w:World}{i l:Addr}{items:Array Value}(hne:l≠i):NxIt prog w i l items.size (λk v=>items[k]?=some v) (λk h=>h.IsTupleIter i l k/\h.IsTuple l items) where
 lt:=λk h st=>by obtain⟨⟨o,e,_⟩,_⟩:=st;exact aE e
 frame:=λk h h' st kp=>⟨st.1.at λo e=>kp i o (.inl rfl) e,st.2.at λo e=>kp l o (.inr rfl) e⟩
 item:=λA k s Q E hk st hQ=>by
  obtain⟨hit,ht⟩:=st;obtain⟨o,ho,hc,hd⟩:=id hit;obtain⟨ol,hol,_,nl,hdl⟩:=id ht;unfold Builtin.SmallTypes.nextOf;refine af (ci (name:=cC "__next__") hit.typeIs dC (cn dC hit.typeIs gS ?_ (gP _)));show wpAny _ _ (field (.ref i) 0 >>= _) _ _ s;refine af (dB ho hd (x:=.ref l) rfl ?_);show wpAny _ _ (if (bX l == cJ)=true then _ else _) _ _ s;rw[if_neg (show ¬ ((bX l == cJ)=true) from aV)];show wpAny _ _ (field (.ref i) 1 >>= _) _ _ s;refine af (dB ho hd (x:=.int k 0) rfl ?_);show wpAny _ _ (seqItems? (.ref l) >>= _) _ _ s;refine af (gr hol hdl ?_);simp only[bN,aT hk];refine af (fh ho hd (by simp) (ao ⟨_,rfl,ao (hQ _ _ (aT hk) ⟨?_,?_⟩ (bY ..))⟩))
  ·exact⟨_,cW _ ho (fJ (db hd _)),(gm ..).trans hc,by rw[db hd];simp[rawInt]⟩
  ·exact ht.extBut (bY ..).extBut hne
 done:=λA k s Q E hh hk st hE=>by
  obtain⟨hit,ht⟩:=st;obtain⟨o,ho,hc,hd⟩:=id hit;obtain⟨ol,hol,_,nl,hdl⟩:=id ht;unfold Builtin.SmallTypes.nextOf;refine af (ci (name:=cC "__next__") hit.typeIs dC (cn dC hit.typeIs gS ?_ (gP _)));show wpAny _ _ (field (.ref i) 0 >>= _) _ _ s;refine af (dB ho hd (x:=.ref l) rfl ?_);show wpAny _ _ (if (bX l == cJ)=true then _ else _) _ _ s;rw[if_neg (show ¬ ((bX l == cJ)=true) from aV)];show wpAny _ _ (field (.ref i) 1 >>= _) _ _ s;refine af (dB ho hd (x:=.int k 0) rfl ?_);show wpAny _ _ (seqItems? (.ref l) >>= _) _ _ s;refine af (gr hol hdl ?_);simp only[bN,bM hk];refine af (iY (af (fh ho hd (by simp) ?_)));show wpAny _ _ (newExc (.type "StopIteration") [] >>= _) _ _ _;refine af ?_;simp only[newExc,newTuple];refine af (bZ ?_ (by size_fits));refine af (m:=firstArgMember _ _) (gM (a:=cJ) (by first | rfl | (simp only[firstArgMember];rfl)) ?_);refine bZ ?_ (by size_fits);simp only[raiseNew];refine af (jV ?_);first | rw[show A.in1.handled=none from hh] | rw[hh]
  refine af (ao (kh ?_));exact hE _ _ (((bY ..).extBut.push _).push _) ⟨_,aK _ rfl,rfl⟩
end Srt
end
section
namespace L2
open PySem
theorem a6x {a b:Int}(h:a≠b):mm a b=mm b a:=by
 unfold mm;by_cases h1:b<a
 ·rw[if_pos h1,if_neg (show ¬ b>a by omega),if_neg (show ¬ a<b by omega),if_pos (show a>b by omega)]
 ·rw[if_neg h1,if_pos (show b>a by omega),if_pos (show a<b by omega),if_neg (show ¬ a>b by omega)]
theorem V8 {a b:Int}(h:a≠b):(b<a/\mm a b=(b,a))\/(a<b/\mm a b=(a,b)):=by
 unfold mm;by_cases h1:b<a
 ·exact .inl ⟨h1,by rw[if_pos h1,if_neg (show ¬ b>a by omega)]⟩
 ·exact .inr ⟨∅,by rw[if_neg h1,if_pos (show b>a by omega)]⟩
theorem P0.root {ts gs:⋯}{ins:List Int}(G:P0 ts ins gs):∀ g∈ins,∃(par:Int->Int) (rank:Int->Nat),
  (∀ v∈ins,v≠g->par v∈ins/\rank (par v)<rank v/\mm v (par v)∈gs)/\∀ t∈gs,(t.1≠g/\t.2=par t.1)\/(t.2≠g/\t.1=par t.2):=by
 induction G with
 | one s =>
  intro g hg;exact⟨id,λ_=>0,λv hv hn=>absurd ((ag.mp hv).trans (ag.mp hg).symm) hn,λt ht=>by cases ht⟩
 | @add ins us a b h ha hb hn ih =>
  have hab:a≠b:=λe=>hb (e ▸ ha)
  intro g hg;rcases aj.mp hg with hg | hg
  ·obtain⟨par,rank,h1,h2⟩:=ih g hg;have hgb:g≠b:=λe=>hb (e ▸ hg)
   refine⟨λv=>if v=b then a else par v,λv=>if v=b then rank a+1 else rank v,λv hv hvg=>?_,λt ht=>?_⟩
   ·rcases aj.mp hv with hv | hv
    ·have hvb:v≠b:=λe=>hb (e ▸ hv)
     obtain⟨q1,q2,q3⟩:=h1 v hv hvg;have hpb:par v≠b:=λe=>hb (e ▸ q1)
     dsimp only;rw[if_neg hvb,if_neg hpb,if_neg hvb];exact⟨aL _ q1,q2,aL _ q3⟩
    ·obtain rfl:=ag.mp hv;dsimp only;rw[if_pos rfl,if_neg hab,if_pos rfl];exact⟨aL _ ha,dD _,aN _ (by rw[a6x hab.symm];exact ag.mpr rfl)⟩
   ·rcases aj.mp ht with ht | ht
    ·obtain⟨e1,e2⟩:=h.ends t ht;have n1:t.1≠b:=λe=>hb (e ▸ e1)
     have n2:t.2≠b:=λe=>hb (e ▸ e2)
     dsimp only;rw[if_neg n1,if_neg n2];exact h2 t ht
    ·obtain rfl:=ag.mp ht;rcases V8 hab with ⟨_,e⟩ | ⟨_,e⟩
     ·rw[e];dsimp only;rw[if_pos rfl];exact .inl ⟨hgb.symm,rfl⟩
     ·rw[e];dsimp only;rw[if_pos rfl];exact .inr ⟨hgb.symm,rfl⟩
  ·obtain rfl:=ag.mp hg;obtain⟨par,rank,h1,h2⟩:=ih a ha;refine⟨λv=>if v=a then g else par v,λv=>if v=g then 0 else rank v+1,λv hv hvg=>?_,λt ht=>?_⟩
   ·have hv':v∈ins:=(aj.mp hv).resolve_right λe=>hvg (ag.mp e)
    by_cases hva:v=a
    ·subst hva;dsimp only;rw[if_pos rfl,if_pos rfl,if_neg hvg];exact⟨aN _ (ag.mpr rfl),fK _,aN _ (ag.mpr rfl)⟩
    ·obtain⟨q1,q2,q3⟩:=h1 v hv' hva;have hpg:par v≠g:=λe=>hb (e ▸ q1)
     dsimp only;rw[if_neg hva,if_neg hpg,if_neg hvg];exact⟨aL _ q1,Nat.succ_lt_succ q2,aL _ q3⟩
   ·rcases aj.mp ht with ht | ht
    ·obtain⟨e1,e2⟩:=h.ends t ht;have n1:t.1≠g:=λe=>hb (e ▸ e1)
     have n2:t.2≠g:=λe=>hb (e ▸ e2)
     dsimp only;rcases h2 t ht with ⟨q1,q2⟩ | ⟨q1,q2⟩
     ·rw[if_neg q1];exact .inl ⟨n1,q2⟩
     ·rw[if_neg q1];exact .inr ⟨n2,q2⟩
    ·obtain rfl:=ag.mp ht;rcases V8 hab with ⟨_,e⟩ | ⟨_,e⟩
     ·rw[e];dsimp only;rw[if_pos rfl];exact .inr ⟨hab,rfl⟩
     ·rw[e];dsimp only;rw[if_pos rfl];exact .inl ⟨hab,rfl⟩
structure U2 (n:Int)(us:⋯)(g:Int)(par:Int->Int)(rank:Int->Nat):Prop where
 g0:0<=g
 g1:g<n
 up:∀ v,0<=v->v<n->v≠g->0<=par v/\par v<n/\rank (par v)<rank v/\par v∈nb us v
 edge:∀ v u,u∈nb us v->(v≠g/\u=par v)\/(u≠g/\par u=v)
theorem J1 {n:Int}{us:⋯}(hok:L5 n us){v x:Int}:x∈nb us v↔(v,x)∈us\/(x,v)∈us:=by
 rw[X2];constructor
 ·rintro (h | ⟨h,_⟩)
  ·exact .inl h
  ·exact .inr h
 ·rintro (h | h)
  ·exact .inl h
  ·exact .inr ⟨h,.inl (by have:=hok _ h;dsimp only at this;omega)⟩
theorem K5.rooted {n:Int}{ts us:⋯}(T:K5 n ts us)(hok:L5 n ts){g:Int}(g0:0<=g)(g1:g<n):∃ par rank,U2 n us g par rank:=by
 obtain⟨ins,gs,G,p,hl,hr⟩:=T.grown;have hall:∀ v,0<=v->v<n->v∈ins:=λv h0 h1=>by
  apply aX;intro hv;have hnd:(v::ins).Nodup:=bW.mpr ⟨hv,G.nd⟩;have:=R5 (n:=n) hnd λx hx=>by
   rcases aJ.mp hx with rfl | hx
   ·exact⟨h0,h1⟩
   ·exact hr x hx
  rw[aD] at this;omega
 obtain⟨par,rank,h1,h2⟩:=G.root g (hall g g0 g1);have hok':=T.ok hok;refine⟨par,rank,g0,g1,λv v0 v1 hv=>?_,λv u hu=>?_⟩
 ·obtain⟨q1,q2,q3⟩:=h1 v (hall v v0 v1) hv;have hm:mm v (par v)∈us:=p.mem_iff.mpr q3;have hne:v≠par v:=λe=>by rw[<- e] at q2;omega
  refine⟨(hr _ q1).1,(hr _ q1).2,q2,(J1 hok').mpr ?_⟩;rcases V8 hne with ⟨_,e⟩ | ⟨_,e⟩
  ·rw[e] at hm;exact .inr hm
  ·rw[e] at hm;exact .inl hm
 ·rcases (J1 hok').mp hu with h | h
  ·rcases h2 _ (p.mem_iff.mp h) with ⟨q1,q2⟩ | ⟨q1,q2⟩
   ·exact .inl ⟨q1,q2⟩
   ·exact .inr ⟨q1,q2.symm⟩
  ·rcases h2 _ (p.mem_iff.mp h) with ⟨q1,q2⟩ | ⟨q1,q2⟩
   ·exact .inr ⟨q1,q2.symm⟩
   ·exact .inl ⟨q1,q2⟩
def itp (par:Int->Int):Nat->Int->Int
 | 0,v=>v
 | i+1,v=>par (itp par i v)
def b0Z (par:Int->Int)(v:Int)(k:Nat):List Int:=(List.range (k+1)).map λi=>itp par i v
section
variable {n g one:Int}{us:⋯}{par:Int->Int}{rank:Int->Nat}
theorem U2.itp_in (R:U2 n us g par rank)(o0:0<=one)(o1:one<n):∀ k,(∀ i,i<k->itp par i one≠g)->0<=itp par k one/\itp par k one<n
 | 0,_=>⟨o0,o1⟩
 | k+1,h=>by
  obtain⟨q0,q1⟩:=U2.itp_in R o0 o1 k λi hi=>h i ∅
  have:=R.up _ q0 q1 (h k (dD _));exact⟨this.1,this.2.1⟩
theorem U2.itp_rank (R:U2 n us g par rank)(o0:0<=one)(o1:one<n){k:Nat}(h:∀ i,i<k->itp par i one≠g):∀ j i,i<j->j<=k->rank (itp par j one)<rank (itp par i one)
 | 0,i,hi,_=>absurd hi (cQ _)
 | j+1,i,hi,hj=>by
  obtain⟨q0,q1⟩:=R.itp_in o0 o1 j λm hm=>h m ∅
  have h1:=(R.up _ q0 q1 (h j ∅)).2.2.1;rcases cv i j with h2 | h2
  ·exact iF h1 (U2.itp_rank R o0 o1 h j i h2 ∅)
  ·have:i=j:=∅
   subst this;exact h1
theorem U2.reach (R:U2 n us g par rank)(o0:0<=one)(o1:one<n){k:Nat}(h:∀ i,i<k->itp par i one≠g):k<=rank one:=by
 have:∀ j,j<=k->rank (itp par j one)+j<=rank one:=by
  intro j;induction j with
  | zero=>intro _;exact aC _
  | succ j ih =>
   intro hj;have:=R.itp_rank o0 o1 h (j+1) j (dD _) hj;have:=ih ∅;omega
 have:=this k (aC _);omega
theorem U2.nd (R:U2 n us g par rank)(o0:0<=one)(o1:one<n){k:Nat}(h:∀ i,i<k->itp par i one≠g):(b0Z par one k).Nodup:=by
 unfold b0Z;refine bT.mpr ?_;refine fN ?_ (cE (n:=k+1));intro a b ha hb hab e;have:=R.itp_rank o0 o1 h b a hab (by have:=bh.mp hb;omega);rw[e] at this;omega
end
def stV (n g:Int)(par:Int->Int)(vs:List Int):List V:=(B0 0 n.toNat).map λv=>if v∈vs/\v≠g then V.int (par v) else V.non
theorem a1E (n g:Int)(par:Int->Int)(vs:List Int):(stV n g par vs).length=n.toNat:=by unfold stV;rw[ae,B1]
theorem a3J {n g:Int}{par:Int->Int}{vs:List Int}{v:Int}(h0:0<=v)(h1:v<n):(stV n g par vs)[v.toNat]?=some (if v∈vs/\v≠g then V.int (par v) else V.non):=by
 unfold stV;rw[aF,a0W ∅];have e:(0:Int)+(v.toNat:Int)=v:=∅
 show some _=_;rw[e]
theorem b1R {n g:Int}{par:Int->Int}{vs:List Int}{v:Int}(h0:0<=v)(h1:v<n):atI (stV n g par vs) v=some (if v∈vs/\v≠g then V.int (par v) else V.non):=by
 have:=R0 (a3J (par:=par) (g:=g) (vs:=vs) h0 h1);rw[aY h0] at this;exact this
theorem a8N {m:Nat}{v:Int}(h0:0<=v)(h1:v<m):ixN m v=some v.toNat:=by
 unfold ixN;rw[if_pos h0,if_pos h1]
theorem a9E {n g:Int}{par:Int->Int}{vs:List Int}{y:Int}(h0:0<=y)(h1:y<n)(hg:y≠g):(stV n g par vs).set y.toNat (V.int (par y))=stV n g par (vs++[y]):=by
 refine dw λi=>?_
 by_cases hi:i<n.toNat
 ·have e2:=a3J (n:=n) (g:=g) (par:=par) (vs:=vs++[y]) (v:=(i:Int)) ∅ ∅;have e1:=a3J (n:=n) (g:=g) (par:=par) (vs:=vs) (v:=(i:Int)) ∅ ∅;rw[bN] at e1 e2;rw[e2];by_cases hy:i=y.toNat
  ·subst hy;rw[cT (by rw[a1E];exact hi),if_pos ⟨by simp;omega,∅⟩,aY h0]
  ·rw[dh (dZ hy),e1];have hiy:(i:Int)≠y:=∅
   simp only[aj,ag,hiy,or_false]
 ·rw[bS (by rw[eI,a1E];omega),bS (by rw[a1E];omega)]
theorem a9G {n g:Int}{par:Int->Int}{vs:List Int}(h:∀ v,0<=v->v<n->v∈vs):stV n g par vs=(B0 0 n.toNat).map λv=>if v=g then V.non else V.int (par v):=by
 unfold stV;refine cI λv hv=>?_
 have:=E6.mp hv;have hm:=h v this.1 ∅;by_cases hg:v=g
 ·rw[if_neg (λq=>q.2 hg),if_pos hg]
 ·rw[if_pos ⟨hm,hg⟩,if_neg hg]
theorem b0p (ws:List Int)(v:Int):((ws++[v]).map V.int)[((ws++[v]).map V.int).length-1]?=some (V.int v)/\((ws++[v]).map V.int).dropLast=ws.map V.int:=by
 constructor
 ·simp
 ·simp
end L2
end
section
namespace STab
open PySem PySem.SetTable
def tm (m:Nat):SetTable:={mask:=m,place:=#[],dummies:=#[],finger:=0,led:=true,moves:=0,plain:=true}
theorem advance_mask {t t':SetTable}(h:t.mask=t'.mask)(p:Probe):t.advance p=t'.advance p:=by unfold SetTable.advance;rw[h]
theorem adv_mask {t t':SetTable}(h:t.mask=t'.mask):∀(n:Nat) (p:Probe),adv t n p=adv t' n p
 | 0,_=>rfl
 | n+1,p=>by show adv t n (t.advance p)=adv t' n (t'.advance p);rw[advance_mask h,adv_mask h n]
theorem start_mask {t t':SetTable}(h:t.mask=t'.mask)(x:Int):t.probeStart x=t'.probeStart x:=by unfold SetTable.probeStart;rw[h]
def pos (m:Nat)(h:Int)(k:Nat):Nat:=(adv (tm m) k ((tm m).probeStart h)).j
theorem pos_eq (t:SetTable)(h:Int)(k:Nat):(adv t k (t.probeStart h)).j=pos t.mask h k:=by
 unfold pos;rw[adv_mask (t:=t) (t':=tm t.mask) rfl,start_mask (t:=t) (t':=tm t.mask) rfl]
def Way (m:Nat)(h:Int)(j:Nat)(S:Nat->Prop):Prop:=∃ k,pos m h k=j/\∀ k',k'<k->S (pos m h k')
theorem Way.mono {m:Nat}{h:Int}{j:Nat}{S S':Nat->Prop}(w:Way m h j S)(hs:∀ x,S x->S' x):Way m h j S':=let ⟨k,e,q⟩:=w;⟨k,e,λk' hk=>hs _ (q k' hk)⟩
def Met (t:SetTable)(es:List (Int×Value)):Prop:=∀ e j,(e,j)∈es.zip t.place.toList->Way t.mask e.1 j λx=>x∈t.place.toList
theorem zip_ins {α β:Type}{l:List α}{m:List β}(h:l.length=m.length)(p:Nat)(a:α)(b:β)(x:α×β) :
  x∈(l.take p++a::l.drop p).zip (m.take p++b::m.drop p)↔x∈l.zip m\/x=(a,b):=by
 rw[List.zip_append (by rw[aW,aW,h]),fj,aj,aJ];have e:l.zip m=(l.take p).zip (m.take p)++(l.drop p).zip (m.drop p):=by
  rw[<- List.zip_append (by rw[aW,aW,h]),bI,bI]
 rw[e,aj];constructor
 ·rintro (h | h | h)
  ·exact .inl (.inl h)
  ·exact .inr h
  ·exact .inl (.inr h)
 ·rintro ((h | h) | h)
  ·exact .inl h
  ·exact .inr (.inr h)
  ·exact .inr (.inl h)
theorem Met.put {t:SetTable}{es:Array (Int×Value)}{led:Bool}(o:Ok t es.size led)(M:Met t es.toList){h:Int}{x:Value}{j:Nat}(w:Way t.mask h j λy=>y∈t.place.toList) :
  Met (t.put j).1 (insertAt es (t.put j).2 (h,x)).toList:=by
 intro e i hm;have hp:(t.put j).1.place.toList=t.place.toList.take (below t.place j)++j::t.place.toList.drop (below t.place j):=toList_insertAt ..;have he:(insertAt es (t.put j).2 (h,x)).toList=es.toList.take (below t.place j)++(h,x)::es.toList.drop (below t.place j):=toList_insertAt ..;rw[hp,he,zip_ins (by rw[bF,bF,o.size])] at hm;have up:∀ y,y∈t.place.toList->y∈(t.put j).1.place.toList:=λy hy=>by
  rw[hp];rw[<- bI (below t.place j) t.place.toList] at hy;rcases aj.mp hy with hy | hy
  ·exact aL _ hy
  ·exact aN _ (aI _ hy)
 show Way t.mask e.1 i _;rcases hm with hm | hm
 ·exact (M e i hm).mono up
 ·injection hm with h1 h2
  subst h1;subst h2;exact w.mono up
theorem run_adv {t:SetTable}:∀(m:Nat) (p:Probe),m<=p.more->(adv t m p).j=p.j+m
 | 0,p,_=>rfl
 | m+1,p,h=>by
  have e:t.advance p={p with j:=p.j+1,more:=p.more-1}:=by unfold SetTable.advance;rw[if_pos ∅]
  show (adv t m (t.advance p)).j=_;rw[e,run_adv m _ (by simp only;omega)];simp only;omega
theorem next_run {t:SetTable}:∀(m:Nat) (p:Probe),p.more=m->adv t (m+1) p={p with j:=(leap t.mask p.i p.perturb).1,more:=runEnd t.mask (leap t.mask p.i p.perturb).1-(leap t.mask p.i p.perturb).1,i:=(leap t.mask p.i p.perturb).1,perturb:=(leap t.mask p.i p.perturb).2}
 | 0,p,h=>by
  show t.advance p=_;unfold SetTable.advance;rw[if_neg ∅]
 | m+1,p,h=>by
  have e:t.advance p={p with j:=p.j+1,more:=p.more-1}:=by unfold SetTable.advance;rw[if_pos ∅]
  show adv t (m+1) (t.advance p)=_;rw[e];exact next_run m {p with j:=p.j+1,more:=p.more-1} (by simp only;omega)
theorem find_first {n:Nat}{f:Nat->Bool}{k:Nat}(h:(List.range n).find? f=some k):f k=true/\k<n/\∀ m,m<k->f m=false:=by
 rw[List.find?_range_eq_some] at h;exact⟨h.1,bh.mp h.2.1,λm hm=>by have:=h.2.2 m hm;simpa using this⟩
theorem free_path {t:SetTable}{owner:Array (Option Nat)}:∀(fuel:Nat) (p:Probe) (j:Nat),p.i<=t.mask->p.j=p.i->p.more=runEnd t.mask p.i-p.i->layClean.free t.mask owner fuel p.i p.perturb=some j ->
  ∃ k,(adv t k p).j=j/\∀ k',k'<k->(owner.getD (adv t k' p).j (some 0)).isNone=false
 | 0,p,j,_,_,_,h=>by simp[layClean.free] at h
 | fuel+1,p,j,hi,hj,hm,h=>by
  have hr:=runEnd_le hi;unfold layClean.free at h;cases hf:(List.range (runEnd t.mask p.i+1-p.i)).find? (λk=>(owner.getD (p.i+k) (some 0)).isNone) with
  | some k =>
   rw[hf] at h;obtain⟨h1,h2,h3⟩:=find_first hf;have ej:p.i+k=j:=aP h;refine⟨k,by rw[run_adv k p ∅,hj];exact ej,λk' hk=>?_⟩;rw[run_adv k' p ∅,hj];exact h3 k' hk
  | none =>
   rw[hf] at h;have hn:∀ k,k<=p.more->(owner.getD (p.i+k) (some 0)).isNone=false:=λk hk=>by
    have:=j0.mp hf k (bh.mpr ∅);exact Bool.eq_false_iff.mpr this
   have hq:=next_run (t:=t) p.more p rfl;obtain⟨k,e,hb⟩:=free_path fuel (adv t (p.more+1) p) j (by rw[hq];exact leaps_fst t.mask 1 (p.i,p.perturb) hi) (by rw[hq]) (by rw[hq]) (by rw[hq];exact h);refine⟨p.more+1+k,by rw[adv_add];exact e,λk' hk=>?_⟩;rcases cv k' (p.more+1) with hlt | hge
   ·rw[run_adv k' p ∅,hj];exact hn k' ∅
   ·have e2:k'=p.more+1+(k'-(p.more+1)):=∅
    rw[e2,adv_add];exact hb _ ∅
def OwnMet (mask:Nat)(hs:Nat->Int)(owner:Array (Option Nat)):Prop:=∀ j k,owner.getD j none=some k->Way mask (hs k) j λx=>(owner.getD x none).isSome=true
theorem getD_some {owner:Array (Option Nat)}{x:Nat}(hx:x<owner.size)(h:(owner.getD x (some 0)).isNone=false):(owner.getD x none).isSome=true:=by
 simp[Array.getD,hx] at h ⊢;cases h2:owner[x] with
 | none=>rw[h2] at h;cases h
 | some y=>rfl
theorem layF_met {mask:Nat}(F:Full (mask+1)):∀(hl:List Int) (done:List Int) (owner:Array (Option Nat)),owner.size=mask+1->(own (mask+1) owner).Perm (List.range done.length)->done.length+hl.length<=mask->OwnMet mask (λi=>(done++hl).getD i 0) owner ->
  ∃ owner',hl.foldl (layF mask) (some (owner,done.length))=some (owner',done.length+hl.length)/\owner'.size=mask+1/\(own (mask+1) owner').Perm (List.range (done.length+hl.length))/\OwnMet mask (λi=>(done++hl).getD i 0) owner'
 | [],done,owner,h1,h2,_,h4=>⟨owner,rfl,h1,h2,h4⟩
 | h::hl,done,owner,h1,h2,h3,h4=>by
  rw[aD] at h3;obtain⟨o1,e1,s1,p1⟩:=layF_fold F [h] owner done.length h1 h2 (by simp;omega);have hstep:layF mask (some (owner,done.length)) h=some (o1,done.length+1):=e1;obtain⟨j,hj,eo⟩:∃ j,layClean.free mask owner (turns mask) (bits h % (mask+1)) (bits h)=some j/\o1=owner.setIfInBounds j (some done.length):=by
   have e2:(do let j <- layClean.free mask owner (turns mask) (bits h % (mask+1)) (bits h);pure (owner.setIfInBounds j (some done.length),done.length+1))=some (o1,done.length+1):=hstep;cases hf:layClean.free mask owner (turns mask) (bits h % (mask+1)) (bits h) with
   | none=>rw[hf] at e2;cases e2
   | some j =>
    rw[hf] at e2;have e3:(owner.setIfInBounds j (some done.length),done.length+1)=(o1,done.length+1):=aP e2;injection e3 with e4 _
    exact⟨j,rfl,e4.symm⟩
  have g:=good_start (tm mask) h;obtain⟨k,ek,hb⟩:=free_path (t:=tm mask) (owner:=owner) (turns mask) ((tm mask).probeStart h) j g.i rfl rfl hj;have pin:∀ k,pos mask h k<owner.size:=λk=>by
   have:=(g.adv k).j;rw[h1];show (adv (tm mask) k ((tm mask).probeStart h)).j<mask+1;have hm:(tm mask).mask=mask:=rfl;omega
  have upS:∀ x,(owner.getD x none).isSome=true->(o1.getD x none).isSome=true:=λx hx=>by
   rw[eo];by_cases hxs:x<owner.size
   ·by_cases hxj:j=x
    ·subst hxj;simp[Array.getD,hxs]
    ·simp[Array.getD,hxs,fR,hxj] at hx ⊢;exact hx
   ·simp[Array.getD,hxs] at hx
  have M1:OwnMet mask (λi=>(done++h::hl).getD i 0) o1:=by
   intro x i hx;by_cases hxj:j=x
   ·subst hxj;have hjs:j<owner.size:=by rw[<- ek];exact pin k
    rw[eo] at hx;simp[Array.getD,hjs] at hx;subst hx;have eh:(done++h::hl).getD done.length 0=h:=by simp[List.getD]
    show Way mask ((done++h::hl).getD done.length 0) j _;rw[eh];exact⟨k,ek,λk' hk=>upS _ (getD_some (pin k') (hb k' hk))⟩
   ·have hx':owner.getD x none=some i:=by
     rw[eo] at hx;by_cases hxs:x<owner.size
     ·simp[Array.getD,hxs,fR,hxj] at hx ⊢;exact hx
     ·simp[Array.getD,hxs] at hx
    exact (h4 x i hx').mono upS
  have ed:done++h::hl=(done++[h])++hl:=by simp
  have ld:(done++[h]).length=done.length+1:=by simp
  obtain⟨o',e',s',p',m'⟩:=layF_met F hl (done++[h]) o1 s1 (by rw[ld];exact p1) (by rw[ld];omega) (by rw[<- ed];exact M1);rw[gL,hstep];rw[ld] at e' p';refine⟨o',?_,s',?_,?_⟩
  ·rw[e',aD,show done.length+1+hl.length=done.length+(hl.length+1) by omega]
  ·rw[aD,show done.length+(hl.length+1)=done.length+1+hl.length by omega];exact p'
  ·rw[ed];exact m'
theorem layClean_met {mask:Nat}(F:Full (mask+1))(hs:Array Int)(h:hs.size<=mask):∃ owner,layClean mask hs=some owner/\owner.size=mask+1/\(own (mask+1) owner).Perm (List.range hs.size)/\OwnMet mask (λi=>hs.toList.getD i 0) owner:=by
 have h0:own (mask+1) (gG (mask+1) none)=[]:=by
  unfold own;refine List.filterMap_eq_nil_iff.mpr λx hx=>?_
  have:x<mask+1:=bh.mp hx;simp[Array.getD,this]
 obtain⟨o,e,s,p,m⟩:=layF_met F hs.toList [] (gG (mask+1) none) (by simp) (by rw[h0];exact .nil) (~~~h) (λj k hx=>by
  by_cases hj:j<mask+1
  ·simp[Array.getD,hj] at hx
  ·simp[Array.getD,hj] at hx)
 rw[cX,du,bF] at e p;refine⟨o,?_,s,p,m⟩;unfold layClean;have:hs.foldl (layF mask) (some (gG (mask+1) none,0))=some (o,hs.size):=by rw[<- Array.foldl_toList];exact e
 show (hs.foldl (layF mask) (some (gG (mask+1) none,0))).map (·.1)=some o;rw[this];rfl
theorem pick_live {es:Array (Int×Value)}:∀ {live:List (Nat×Nat)},(∀ q∈live,q.2<es.size)->(live.map (·.2)).filterMap (λi=>es[i]?)=live.map λq=>es.getD q.2 (0,.none)
 | [],_=>rfl
 | q::live,h=>by
  have hq:=h q (aM ..);rw[aH,cr (aT hq),pick_live λz hz=>h z (aI _ hz),aH];simp[Array.getD,hq]
theorem zip_live {es:Array (Int×Value)}:∀ {live:List (Nat×Nat)} {e:Int×Value} {j:Nat},(e,j)∈(live.map λq=>es.getD q.2 (0,.none)).zip (live.map (·.1))->∃ q∈live,e=es.getD q.2 (0,.none)/\j=q.1
 | [],e,j,h=>by simp at h
 | q::live,e,j,h=>by
  rw[aH,aH,fj] at h;rcases aJ.mp h with h | h
  ·injection h with h1 h2;exact⟨q,aM ..,h1,h2⟩
  ·obtain⟨z,hz,e1,e2⟩:=zip_live h;exact⟨z,aI _ hz,e1,e2⟩
theorem relaid_met {t:SetTable}{es:Array (Int×Value)}{n:Nat}{led:Bool}(o:Ok1 t n led)(hes:es.size=n)(hf:t.tooFull=true)(hn:n<=300) :
  ∃ t' order,t.relaid (es.map (·.1)) (grown es.size)=some (t',order)/\(order.filterMap (es[·]?)).size=es.size/\Ok t' n led/\(order.filterMap (es[·]?)).toList.Perm es.toList/\Met t' (order.filterMap (es[·]?)).toList/\sizeAbove (grown es.size)<=512:=by
 have hfill:t.fill=n:=by unfold SetTable.fill;rw[o.dum,o.size];rfl
 have hg:∃ M,sizeAbove (grown es.size)=M+1/\Full (M+1)/\n*5<M*3/\(M=7\/M=31\/M=127\/M=511):=by
  have h1:=o.last;unfold SetTable.tooFull at hf;rw[hfill] at hf;have hf':t.mask*3<=n*5:= ~~~hf
  rw[hes];rcases o.mask with h | h | h | h
  ·have:n=5:=∅
   subst this;exact⟨31,by decide +kernel,full32,by decide,by decide⟩
  ·have:n=19:=∅
   subst this;exact⟨127,by decide +kernel,full128,by decide,by decide⟩
  ·have:n=77:=∅
   subst this;exact⟨511,by decide +kernel,full512,by decide,by decide⟩
  ·omega
 obtain⟨M,hM,hF,hroom,hmask⟩:=hg;obtain⟨owner,ho,hs,hperm,hmet⟩:=layClean_met hF (es.map (·.1)) (by rw[gR,hes];omega);rw[gR,hes] at hperm
 let live:=(List.range (M+1)).filterMap λj=>(owner.getD j none).map (j,·)
 have hlive2:(live.map (·.2)).Perm (List.range n):=by rw[show live.map (·.2)=own (M+1) owner from filterMap_pairs _];exact hperm
 obtain⟨hl1,hl2⟩:=pairs_fst (owner:=owner) (range_rising (M+1));have hlen:(live.map (·.1)).length=n:=by rw[ae,<- ae (f:=(·.2)) (as:=live),hlive2.length_eq,dI]
 have hidx:∀ q∈live,q.2<es.size:=λq hq=>by
  have:=hlive2.mem_iff.mp (aR.mpr ⟨q,hq,rfl⟩);rw[hes];exact bh.mp this
 have hown:∀ q,q∈live↔q.1<M+1/\owner.getD q.1 none=some q.2:=λq=>by
  show q∈(List.range (M+1)).filterMap (λj=>(owner.getD j none).map (j,·))↔_;rw[jY];constructor
  ·rintro⟨j,hj,e⟩;cases hg:owner.getD j none with
   | none=>rw[hg] at e;cases e
   | some y =>
    rw[hg] at e;have e':(j,y)=q:=aP e;subst e';exact⟨bh.mp hj,hg⟩
  ·rintro⟨h1,h2⟩;exact⟨q.1,bh.mpr h1,by rw[h2];rfl⟩
 let t':SetTable:={mask:=M,place:=(live.map (·.1)).toArray,dummies:=#[],finger:=t.finger,led:=t.led,moves:=t.movedTo M,plain:=t.plain}
 have hr:t.relaid (es.map (·.1)) (grown es.size)=some (t',(live.map (·.2)).toArray):=by
  unfold SetTable.relaid SetTable.laid;rw[hM,show M+1-1=M by omega,ho];rfl
 have hok:Ok t' n led:=⟨ris_of (show (live.map (·.1)).Pairwise (·<·) from hl1),rfl,by simpa [t'] using hlen,λx hx=>by
  have:x∈live.map (·.1):=by simpa [t'] using hx
  have:=bh.mp (hl2 x this);show x<=M;omega,hF,o.plain,o.led,hroom,hmask⟩
 have hl:((live.map (·.2)).toArray.filterMap (es[·]?)).toList=live.map λq=>es.getD q.2 (0,.none):=by
  rw[ju];exact pick_live hidx
 refine⟨t',_,hr,?_,hok,?_,?_,by rw[hM];rcases hmask with h | h | h | h<;>omega⟩
 ·rw[<- bF,hl,ae,<- ae (f:=(·.1)) (as:=live),hlen,hes]
 ·rw[ju];refine ((show (live.map (·.2)).toArray.toList.Perm (List.range n) by simpa using hlive2).filterMap _).trans ?_;rw[<- hes,filterMap_getElem?_range]
 ·intro e j hm;rw[hl] at hm;have hpl:t'.place.toList=live.map (·.1):=by show (live.map (·.1)).toArray.toList=_;simp
  rw[hpl] at hm;obtain⟨q,hq,e1,e2⟩:=zip_live hm;obtain⟨q1,q2⟩:=(hown q).mp hq;have w:Way M ((es.map (·.1)).toList.getD q.2 0) q.1 _:=hmet q.1 q.2 q2;have eh:(es.map (·.1)).toList.getD q.2 0=e.1:=by
   have hi:=hidx q hq;rw[e1];simp[List.getD,Array.getD,hi]
  rw[eh] at w;subst e2;show Way M e.1 q.1 λx=>x∈t'.place.toList
  refine w.mono λx hx=>?_
  obtain⟨y,hy⟩:=eU.mp hx;have hxs:x<M+1:=by
   rw[<- hs];apply aX;intro hn;simp[Array.getD,hn] at hy
  rw[hpl];exact aR.mpr ⟨(x,y),(hown (x,y)).mpr ⟨hxs,hy⟩,rfl⟩
theorem met_fresh (led:Bool):Met (.fresh 0 0 led) []:=λe j h=>by simp at h
theorem Met.found {t:SetTable}{es:Array (Int×Value)}{led:Bool}(o:Ok t es.size led)(M:Met t es.toList)(h:Int) :
  (∃ e∈es.toList,e.1=h)/\(∃(i:Nat) (e:Int×Value) (nx:Probe) (j:Nat),es[i]?=some e/\e.1=h/\t.probe (λi=>(es[i]?.map (·.1)).getD 0) h (t.probeStart h)=some (.candidate j i nx)) \/
  (∀ e∈es.toList,e.1≠h)/\∃ j,j<=t.mask/\t.slot j=.empty/\t.probe (λi=>(es[i]?.map (·.1)).getD 0) h (t.probeStart h)=some (.empty j none)/\Way t.mask h j λx=>x∈t.place.toList:=by
 obtain⟨k,hb,hk⟩:=o.probe (λi=>(es[i]?.map (·.1)).getD 0) h;have live:∀ {j i},t.slot j=.live i->∃ e,es[i]?=some e/\(e,j)∈es.toList.zip t.place.toList:=λ{j i} hs=>by
  have hp:=slot_live hs;have hi:i<t.place.size:=by
   rcases cv i t.place.size with h | h
   ·exact h
   ·rw[bM h] at hp;cases hp
  have hi2:i<es.size:=by rw[<- o.size];exact hi
  refine⟨es[i],aT hi2,?_⟩;have:(es.toList.zip t.place.toList)[i]?=some (es[i],j):=by
   rw[dH];exact⟨by rw[aZ];exact aT hi2,by rw[aZ];exact hp⟩
  exact aG this
 rcases hk with ⟨he,hp⟩ | ⟨i,hs,hh,hp⟩
 ·right;refine⟨λe hm eh=>?_,_,?_,he,hp,?_⟩
  ·obtain⟨i,hi,ei⟩:=dy hm;have hi2:i<es.size:= ~~~hi
   have hi3:i<t.place.size:=by rw[o.size];exact hi2
   have hz:(e,t.place[i])∈es.toList.zip t.place.toList:=by
    have:(es.toList.zip t.place.toList)[i]?=some (e,t.place[i]):=by
     rw[dH];exact⟨by rw[au hi,ei],by rw[aZ];exact aT hi3⟩
    exact aG this
   obtain⟨k2,e2,b2⟩:=M e _ hz;rw[eh] at e2 b2;have hne:t.slot (pos t.mask h k)=.empty:=by rw[<- pos_eq];exact he
   rcases cU k k2 with hlt | heq | hgt
   ·exact slot_empty o.ris hne (b2 k hlt)
   ·subst heq;rw[e2] at hne;exact slot_empty o.ris hne (by rw[<- Array.getElem_toList hi3];exact gv _)
   ·obtain⟨i',hs',hne'⟩:=hb k2 hgt;rw[pos_eq,e2] at hs';have hpl:=slot_live hs';have hii:i'=i:=by
     have hi':i'<t.place.size:=by
      rcases cv i' t.place.size with h | h
      ·exact h
      ·rw[bM h] at hpl;cases hpl
     rw[aT hi'] at hpl;have hpl':=aP hpl;rcases cU i' i with q | q | q
     ·have:=o.ris i' i hi' hi3 q;omega
     ·exact q
     ·have:=o.ris i i' hi3 hi' q;omega
    subst hii;refine hne' ?_;have:es[i']?=some e:=by rw[<- aZ,au hi,ei]
    rw[this];exact eh
  ·have:=((good_start t h).adv k).j;omega
  ·refine⟨k,(pos_eq t h k).symm,λk' hk'=>?_⟩;obtain⟨i,hs,_⟩:=hb k' hk';have:=slot_live hs;rw[pos_eq] at this;rw[<- aZ] at this;exact aG this
 ·left;obtain⟨e,he,hz⟩:=live hs;have eh:e.1=h:=by rw[he] at hh;exact hh
  exact⟨⟨e,by rw[<- aZ] at he;exact aG he,eh⟩,i,e,_,_,he,eh,hp⟩
end STab
end
section
namespace STab
open PySem
def pc (c:Nat):Int:=reduceHash (hX [hashInt ((c / 60:Nat):Int),hashInt ((c % 60:Nat):Int)])
def pr (c:Nat):Nat:=(pc c % 26326).toNat
def bits:Nat->Nat->Bool
 | 0,_=>true
 | c+1,a=>!a.testBit (pr c) && bits c (a ||| 1 <<< pr c)
theorem bits_ok:bits 3600 0=true:=by decide +kernel
theorem bits_un:∀ {k a:Nat},bits k a=true->∀ c,c<k->a.testBit (pr c)=false/\∀ d,d<c->pr d≠pr c
 | 0,_,_,c,h=>absurd h (cQ c)
 | k+1,a,h,c,hc=>by
  have h':(!a.testBit (pr k) && bits k (a ||| 1 <<< pr k))=true:=h;rw[bU] at h';have hk:a.testBit (pr k)=false:= ~~~h'.1
  by_cases e:c=k
  ·subst e;refine⟨hk,λd hd z=>?_⟩;have:=(bits_un h'.2 d hd).1;rw[Nat.testBit_or,z,Nat.testBit_shiftLeft] at this;simp at this
  ·have i:=bits_un h'.2 c ∅;rw[Nat.testBit_or,Bool.or_eq_false_iff] at i;exact⟨i.1.1,i.2⟩
theorem pc_inj {c d:Nat}(hc:c<3600)(hd:d<3600)(e:pc c=pc d):c=d:=by
 have er:pr c=pr d:=by unfold pr;rw[e]
 rcases cU c d with h | h | h
 ·exact absurd er ((bits_un bits_ok d hd).2 c h)
 ·exact h
 ·exact absurd er.symm ((bits_un bits_ok c hc).2 d h)
end STab
end
section
namespace Srt
open PySem PyProof.Rows
section
variable {prog:Program}{w:World}{A:Around}{E:Value->Shared->Prop}{s:Shared}
def TieAt (prog:Program)(w:World)(h:Heap)(a:Addr)(t:Int×Int):Prop:=IsTupleKey (intKind prog w) h [t.1,t.2] a/\0<=t.1/\t.1<60/\0<=t.2/\t.2<60
theorem TieAt.keep {h h':Heap}{a:Addr}{t:Int×Int}(x:TieAt prog w h a t)(k:∀ o,h.get? a=some o->h'.get? a=some o):TieAt prog w h' a t:=let ⟨⟨o,i,n,ho,q⟩,r⟩:=x;⟨⟨o,i,n,k _ ho,q⟩,r⟩
def tHash (t:Int×Int):Int:=reduceHash (hX [hashInt t.1,hashInt t.2])
theorem tHash_pc {t:Int×Int}(h0:0<=t.1)(h1:t.1<60)(h2:0<=t.2)(h3:t.2<60):tHash t=STab.pc (t.1.toNat*60+t.2.toNat):=by
 unfold tHash STab.pc;have e1:(t.1.toNat*60+t.2.toNat) / 60=t.1.toNat:=∅
 have e2:(t.1.toNat*60+t.2.toNat) % 60=t.2.toNat:=∅
 rw[e1,e2,aY h0,aY h2]
theorem tHash_inj {h:Heap}{a b:Addr}{t u:Int×Int}(x:TieAt prog w h a t)(y:TieAt prog w h b u)(e:tHash t=tHash u):t=u:=by
 obtain⟨_,a0,a1,a2,a3⟩:=x;obtain⟨_,b0,b1,b2,b3⟩:=y;rw[tHash_pc a0 a1 a2 a3,tHash_pc b0 b1 b2 b3] at e;have:=STab.pc_inj ∅ ∅ e;have e1:t.1=u.1:=∅
 have e2:t.2=u.2:=∅
 cases t;cases u;simp at e1 e2;rw[e1,e2]
theorem hbv_tie {a:Addr}{t:Int×Int}{Q:Bool->Shared->Prop}(x:TieAt prog w s.heap a t)(h:Q true s):wpAny (model prog w) A (hashByValue 8 (.ref a)) Q E s:=by
 have hT:=x.1.typeIs;obtain⟨⟨o,items,n,ho,hc,hd,hi⟩,_⟩:=x;unfold hashByValue;refine af (g8 hT PySem.F.slot_tuple_hash.lookup ?_);show wpAny _ _ (seqItems? (.ref a) >>= _) _ _ s;refine af (gr ho hd ?_);refine af ?_;show wpAny _ _ (forIn items _ _) _ _ s;rw[<- jS];refine ji _ (λT8 r s'=>r.1=none/\s'=s/\∃ ks,ItemsAre (intKind prog w) ks T8) _ ?_ ?_ _ _ ⟨rfl,rfl,_,hi⟩
 ·rintro v T8 r s' ⟨hr,rfl,ks,hks⟩;cases hks with
  | @cons k _ ks' _ h1 h2 =>
   obtain⟨tk,rfl⟩:=fw h1;rw[hashByValue_scannable _ (show (dO k tk).scannable=true from rfl)];refine af (ao ?_);simp only[plainKind,dm,aO,if_false];exact ao ⟨rfl,rfl,ks',h2⟩
 ·rintro⟨r1,r2⟩ s' ⟨hr,rfl,_⟩;simp only at hr;subst hr;exact ao h
theorem oac_tie {a:Addr}{t:Int×Int}{Q:Bool->Shared->Prop}(x:TieAt prog w s.heap a t)(h:Q false s):wpAny (model prog w) A (ofAClassStatement 8 (.ref a)) Q E s:=by
 have hT:=x.1.typeIs;obtain⟨⟨o,items,n,ho,hc,hd,hi⟩,_⟩:=x;unfold ofAClassStatement;refine af (gZ hT ?_);show wpAny _ _ (pure true >>= _) _ _ s;refine af (ao ?_);simp only[dm,aO,if_false];refine af (gr ho hd ?_);dsimp only;refine af ?_;show wpAny _ _ (forIn items _ _) _ _ s;rw[<- jS];refine ji _ (λT8 r s'=>r.1=none/\s'=s/\∃ ks,ItemsAre (intKind prog w) ks T8) _ ?_ ?_ _ _ ⟨rfl,rfl,_,hi⟩
 ·rintro v T8 r s' ⟨hr,rfl,ks,hks⟩;cases hks with
  | @cons k _ ks' _ h1 h2 =>
   obtain⟨tk,rfl⟩:=fw h1;refine af (m:=ofAClassStatement 7 (.int k tk)) (ao ?_);simp only[aO,if_false];exact ao ⟨rfl,rfl,ks',h2⟩
 ·rintro⟨r1,r2⟩ s' ⟨hr,rfl,_⟩;simp only at hr;subst hr;exact ao h
theorem scs_tie {a:Addr}{t:Int×Int}{ys:List Value}{Q:Bool->Shared->Prop}(x:TieAt prog w s.heap a t)(hy:∀ y∈ys,∃ b u,y=.ref b/\TieAt prog w s.heap b u)(h:Q false s):wpAny (model prog w) A (searchCouldBeSeen (.ref a) ys) Q E s:=by
 unfold searchCouldBeSeen;refine af ?_;refine ji _ (λT8 r s'=>r.1=none/\s'=s/\∀ y∈T8,∃ b u,y=.ref b/\TieAt prog w s.heap b u) _ ?_ ?_ _ _ ⟨rfl,rfl,hy⟩
 ·rintro v T8 r s' ⟨hr,rfl,hall⟩;obtain⟨b,u,rfl,y⟩:=hall v (aM ..);have hrest:∀ y∈T8,∃ b u,y=.ref b/\TieAt prog w s'.heap b u:=λy hy=>hall y (aI _ hy)
  dsimp only;refine fG (λ_=>ao ⟨rfl,rfl,hrest⟩) (λ_=>?_);refine af (kd x.1 ?_);simp only[dm,aO,if_false];refine af (kd y.1 ?_);simp only[dm,aO,if_false];refine af (oac_tie x ?_);simp only[aO,if_false];refine af (oac_tie y ?_);simp only[aO,if_false];exact ao ⟨rfl,rfl,hrest⟩
 ·rintro⟨r1,r2⟩ s' ⟨hr,rfl,_⟩;simp only at hr;subst hr;exact ao h
def qE (q:Addr×(Int×Int)):Int×Value:=(tHash q.2,.ref q.1)
def BagTie (prog:Program)(w:World)(h:Heap)(S:Addr)(qs:List (Addr×(Int×Int)))(led:Bool):Prop:=∃ es ep t,BagAt h S es ep t led/\STab.Met t es.toList/\es.toList.Perm (qs.map qE)/\∀ q∈qs,TieAt prog w h q.1 q.2
theorem bagT_add {S a:Addr}{u:Int×Int}{qs:List (Addr×(Int×Int))}{led:Bool}{Q:Bool->Shared->Prop}(hu:A.units<cLine)(B:BagTie prog w s.heap S qs led)(x:TieAt prog w s.heap a u)(hz:qs.length<300)
  (h:∀(h':Heap) (b:Bool),cj S s.heap h'->(if u∈qs.map (·.2) then BagTie prog w h' S qs led else BagTie prog w h' S ((a,u)::qs) led)->Q b {s with heap:=h'}) :
  wpAny (model prog w) A (setAddHashed S (.ref a) (tHash u)) Q E s:=by
 obtain⟨es,ep,t,⟨o,ho,hx,hd,hok⟩,hM,hp,hq⟩:=id B;have hsz:es.size=qs.length:=by have:=hp.length_eq;simpa using this
 have ofE:∀ e∈es.toList,∃ q∈qs,e=qE q:=λe he=>by
  obtain⟨q,hqq,e1⟩:=aR.mp (hp.mem_iff.mp he);exact⟨q,hqq,e1.symm⟩
 have apart:∀ b v,TieAt prog w s.heap b v->b≠S:=λb v y e=>by
  obtain⟨⟨ob,ib,nb,hob,hcb,hdb,_⟩,_⟩:=y;subst e;rw[ho] at hob;cases hob;rw[hd] at hdb;cases hdb
 unfold setAddHashed setAddHashedIn;refine cK (af (cZ ho hd hok.fits ?_));dsimp only;rw[show byScan (.ref a) es=false from rfl];simp only[aO,if_false];unfold setSearch setSearchFrom;refine af (af (cZ ho hd hok.fits ?_));dsimp only;have hgw:t.gaveWay=false:=by
  unfold SetTable.gaveWay;rcases hok.mask with e | e | e | e<;>rw[e]<;>rfl
 rw[hgw];simp only[aO,if_false,ir];rcases STab.Met.found hok hM (tHash u) with ⟨_,i,e,nx,j,he,eh,hpr⟩ | ⟨hout,j,hj,hsl,hpr,hw⟩
 ·have hem:e∈es.toList:=by rw[<- aZ] at he;exact aG he
  obtain⟨q,hqq,rfl⟩:=ofE e hem;have eu:q.2=u:=tHash_inj (hq q hqq) x eh;have hmem:u∈qs.map (·.2):=aR.mpr ⟨q,hqq,eu⟩;have hstored:∀ y∈((es.filter λe=>e.1 == tHash u).toList.map λe=>e.2),∃ b v,y=.ref b/\TieAt prog w s.heap b v:=λy hy=>by
   obtain⟨e',he',rfl⟩:=aR.mp hy;have he2:e'∈es.toList:=by
    simp at he';simpa using he'.1
   obtain⟨q',hq',rfl⟩:=ofE e' he2;exact⟨q'.1,q'.2,rfl,hq q' hq'⟩
  split
  ·rename_i met heq;have e1:=heq.symm.trans hpr;injection e1 with e1
   subst e1;dsimp only;refine fG (λ_=>af (scs_tie x hstored ?_)) (λ_=>?_)
   ·simp only[aO,if_false];rw[he];dsimp only[qE];refine af (cK (ki hu (hq q hqq).1 x.1 ?_));refine af (cZ ho hd hok.fits ?_);rw[show decide ([q.2.1,q.2.2]=[u.1,u.2])=true by rw[eu];exact decide_eq_true rfl];simp only[jt,if_true];refine ao (ao (h s.heap false (jd S s.heap) ?_));rw[if_pos hmem];exact B
   ·skip
    rw[he];dsimp only[qE];refine af (cK (ki hu (hq q hqq).1 x.1 ?_));refine af (cZ ho hd hok.fits ?_);rw[show decide ([q.2.1,q.2.2]=[u.1,u.2])=true by rw[eu];exact decide_eq_true rfl];simp only[jt,if_true];refine ao (ao (h s.heap false (jd S s.heap) ?_));rw[if_pos hmem];exact B
  ·rename_i heq;exact (heq _ hpr).elim
 ·have hmem:u∉qs.map (·.2):=λhm=>by
   obtain⟨q,hqq,eq⟩:=aR.mp hm;have:qE q∈es.toList:=hp.mem_iff.mpr (aR.mpr ⟨q,hqq,rfl⟩);exact hout _ this (by show tHash q.2=tHash u;rw[eq])
  have hN:∀(h':Heap) (b:Bool),cj S s.heap h'->BagTie prog w h' S ((a,u)::qs) led->Q b {s with heap:=h'}:=λh2 b hs hB=>h h2 b hs (by rw[if_neg hmem];exact hB)
  split
  ·rename_i met heq;have e1:=heq.symm.trans hpr;injection e1 with e1
   subst e1;dsimp only;refine ao ?_;dsimp only;refine af (cZ ho hd hok.fits ?_);dsimp only;have ok1:=hok.put hsl hj;have M1:STab.Met (t.put j).1 (fX es (t.put j).2 (tHash u,.ref a)).toList:=hM.put hok hw;rw[if_pos ok1.plain];refine af (hbv_tie x ?_);simp only[if_true,jg,ii];have hes1:(fX es (t.put j).2 (tHash u,.ref a)).size=es.size+1:=by
    rw[<- bF,(i7 _ _ _).length_eq];simp
   have hp1:(fX es (t.put j).2 (tHash u,.ref a)).toList.Perm (((a,u)::qs).map qE):=by
    refine (i7 _ _ _).trans ?_;rw[bC,aH];exact (fZ _ _).trans (hp.cons _)
   generalize hes:fX es (t.put j).2 (tHash u,.ref a)=es1 at hes1 hp1 M1 ⊢;generalize ht1:(t.put j).1=t1 at ok1 M1 ⊢;rw[<- hes1] at ok1;have hties:∀ h',cj S s.heap h'->∀ q∈(a,u)::qs,TieAt prog w h' q.1 q.2:=λh' hs q hq'=>by
    rcases aJ.mp hq' with rfl | hq'
    ·exact x.keep λo e=>hs.extBut _ _ (apart _ _ x) e
    ·exact (hq q hq').keep λo e=>hs.extBut _ _ (apart _ _ (hq q hq')) e
   refine af (ko ho hd ?_ (kw (by rw[hes1];unfold scanBound;omega)));obtain⟨o1,ho1,hx1,hd1⟩:=bag_store (es':=es1) (t':=t1) ho hx hd;have hb1:=bY s.heap S (gl es1 t1);by_cases hf:t1.tooFull=true
   ·rw[if_pos hf];obtain⟨t2,order,hr,hrs,ok2,hp2,M2,h512⟩:=STab.relaid_met (es:=es1) ok1 rfl hf ∅;unfold setRelay;refine af (af (cZ (s:={s with heap:=s.heap.update S (gl es1 t1)}) ho1 hd1 ok1.fits ?_));dsimp only;rw[<- hes1,if_neg (by rw[sizeLine_eq];omega)];rw[hr];refine af (gM (a:=(order.filterMap (es1[·]?),t2)) ?_ ?_)
    ·show (if ((order.filterMap (es1[·]?)).size != es1.size)=true then _ else _)=_;rw[hrs,if_neg (by simp)]
    ·refine ko (s:={s with heap:=s.heap.update S (gl es1 t1)}) ho1 hd1 ?_ (kw (by rw[hrs,hes1];unfold scanBound;omega));obtain⟨o2,ho2,hx2,hd2⟩:=bag_store (es':=order.filterMap (es1[·]?)) (t':=t2) ho1 hx1 hd1;have hb2:=hb1.trans (bY (s.heap.update S (gl es1 t1)) S (gl (order.filterMap (es1[·]?)) t2));exact ao (hN _ true hb2 ⟨_,_,t2,⟨o2,ho2,hx2,hd2,hrs.symm ▸ ok2⟩,M2,hp2.trans hp1,hties _ hb2⟩)
   ·rw[if_neg hf];exact ao (hN _ true hb1 ⟨es1,_,t1,⟨o1,ho1,hx1,hd1,ok1.ok (~~~hf)⟩,M1,hp1,hties _ hb1⟩)
  ·rename_i heq;exact (heq _ hpr).elim
end
end Srt
end
section
namespace STab
open PySem L2
theorem sub_len:∀ {us l:⋯},us.Nodup->(∀ x∈us,x∈l)->us.length<=l.length
 | [],_,_,_=>bo _
 | x::r,l,hn,hs=>by
  have hx:x∈l:=hs x (aM ..);have hn':=bW.mp hn;have:=sub_len (us:=r) (l:=l.erase x) hn'.2 (λy hy=>(eN (λe=>by subst e;exact hn'.1 hy)).mpr (hs y (aI _ hy)));rw[dJ hx] at this;have:=fz hx;rw[aD];omega
theorem lex_of {us:⋯}(hs:us.Pairwise λx y=>HT.lexLt (tl y) (tl x)=false)(hn:us.Nodup):us.Pairwise Lex:=by
 refine (fO hs hn).imp ?_;rintro a b ⟨h1,h2⟩;have h3:¬ Lex b a:=λe=>by rw[a3X.mpr e] at h1;cases h1
 unfold Lex at h3 ⊢;have h4:¬ (a.1=b.1/\a.2=b.2):=λe=>h2 (by cases a;cases b;simp at e;rw[e.1,e.2])
 omega
end STab
namespace Srt
open PySem PyProof.Rows PySem.W
section
variable {prog:Program}{w:World}{A:Around}{E:Value->Shared->Prop}{s:Shared}
theorem bagT_fresh {h:Heap}{a:Addr}(ho:h.get? a=some (freshSet w)):BagTie prog w h a [] (ledOf w) :=
 ⟨#[],0,_,⟨_,ho,⟨rfl,rfl,rfl⟩,rfl,STab.ok_fresh _⟩,STab.met_fresh _,.nil,λq hq=>by cases hq⟩
theorem call_bagT {l:Addr}{c:String}{vs:List Value}{ps:List (Addr×(Int×Int))}{Q:Value->Shared->Prop}(hh:A.handled=none)(hu:A.units+8<cLine)(src:SetSrc prog w s.heap l c vs.toArray.size (λi v=>vs.toArray[i]?=some v))
  (hv:vs=ps.map λq=>bX q.1) (hT:∀ q∈ps,TieAt prog w s.heap q.1 q.2) (hz:ps.length<300)
  (h:∀(h':Heap) (tk:Nat) (qs:List (Addr×(Int×Int))),(∀ b o,s.heap.get? b=some o->h'.get? b=some o)->BagTie prog w h' s.heap.objs.size qs (ledOf w)->(qs.map (·.2)).Nodup->(∀ t,t∈qs.map (·.2)↔t∈ps.map (·.2))->(∀ q∈qs,q∈ps)->Q (.ref s.heap.objs.size) {s with heap:=h',toks:=tk}) :
  wpAny (model prog w) A (call (.type "set") [.ref l]) Q E s:=by
 have hsz:vs.toArray.size=ps.length:=by rw[hv];simp
 refine call_bag hh src (λi h=>∃ qs,BagTie prog w h s.heap.objs.size qs (ledOf w)/\(qs.map (·.2)).Nodup/\(∀ t,t∈qs.map (·.2)↔t∈(ps.take i).map (·.2))/\qs.length<=i/\(∀ q∈qs,q∈ps)/\∀ b o,s.heap.get? b=some o->h.get? b=some o) ?_ ?_ ?_ ?_
 ·rintro i h1 h2 ⟨qs,⟨es,ep,t,b,M,p,hq⟩,q1,q2,q3,q4,q5⟩ hk;have q5':∀ b o,s.heap.get? b=some o->h2.get? b=some o:=λb o e=>hk b o (dv (aE e)) (q5 b o e)
  exact⟨qs,⟨es,ep,t,b.keep λo e=>hk _ o (aC _) e,M,p,λq hq'=>(hT q (q4 q hq')).keep λo e=>q5' _ o e⟩,q1,q2,q3,q4,q5'⟩
 ·rintro i v s' E' Q' hin hvi ⟨qs,B,q1,q2,q3,q4,q5⟩ hQ;have hin':i<ps.length:=by rw[<- hsz];exact hin
  have ev:v=.ref ps[i].1:=by
   have:vs[i]?=some v:= ~~~hvi
   rw[hv,aF,au hin'] at this;exact (aP this).symm
  subst ev;have x:TieAt prog w s'.heap ps[i].1 ps[i].2:=(hT _ (gv hin')).keep λo e=>q5 _ o e
  have hu3:A.in1.in1.in1.units<cLine:=by show A.units+1+1+1<cLine;omega
  unfold setAdd;refine cK (af (wpAny_pyHash_tuple (knd:=intKind prog w) hu3 x.1 ?_));refine bagT_add (s:={s' with toks:=s'.toks+([ps[i].2.1,ps[i].2.2].length+1)}) hu3 B x ∅ λh' b hs hB=>?_
  have q5':∀ b o,s.heap.get? b=some o->h'.get? b=some o:=λb o e=>hs.extBut b o (aU (aE e)) (q5 b o e)
  have htk:∀ t,t∈(ps.take (i+1)).map (·.2)↔t∈qs.map (·.2)\/t=ps[i].2:=λt=>by
   rw[List.take_succ_eq_append_getElem hin',ap,aj,<- q2 t];simp
  refine hQ h' _ b hs ?_;by_cases hm:ps[i].2∈qs.map (·.2)
  ·rw[if_pos hm] at hB;refine⟨qs,hB,q1,λt=>?_,∅,q4,q5'⟩;rw[htk];exact⟨.inl,λo=>o.elim id λe=>e ▸ hm⟩
  ·rw[if_neg hm] at hB;refine⟨(ps[i].1,ps[i].2)::qs,hB,bW.mpr ⟨hm,q1⟩,λt=>?_,by rw[aD];omega,λq hq=>?_,q5'⟩
   ·rw[htk,aH,aJ];exact Or.comm
   ·rcases aJ.mp hq with rfl | hq
    ·exact gv hin'
    ·exact q4 q hq
 ·intro h' hf hk;exact⟨[],bagT_fresh hf,je,(λt=>by simp),aC _,(λq hq=>by cases hq),hk⟩
 ·rintro h' tk hk ⟨qs,B,q1,q2,q3,q4,q5⟩;rw[hsz,bz] at q2;exact h h' tk qs hk B q1 q2 q4
end
theorem items_ints {prog:Program}{w:World}:∀ {ks:List Int} {vs:List Value},ItemsAre (intKind prog w) ks vs->IntsAre vs ks
 | _,_,.nil=>.nil
 | _,_,.cons h t=>by
  obtain⟨tk,rfl⟩:=fw h;exact .cons _ tk (items_ints t)
theorem ints_items {prog:Program}{w:World}:∀ {ks:List Int} {vs:List Value},IntsAre vs ks->ItemsAre (intKind prog w) ks vs
 | _,_,.nil=>.nil
 | _,_,.cons k tk t=>.cons (intKind_is _ _ _ _) (ints_items t)
end Srt
namespace L2
open PySem PySem.Spec PyProof.Rows PySem.W
def a3z (K:ah):List V->Hp->VK->Prop:=λxs H Q=>∃(p:Addr) (ps:List (Addr×List Int)) (ts:⋯),xs=[.ref p]/\(SqL K H p (ps.map λx=>V.ref x.1)\/SqT K H p (ps.map λx=>V.ref x.1))/\M7 H ps ts/\(∀ t∈ts,0<=t.1/\t.1<60/\0<=t.2/\t.2<60)/\ts.length<300 /\
 ∀(ps':List (Addr×List Int)) (ts':⋯) (l:Addr),M7 H ps' ts'->ts'.Pairwise Lex->(∀ t,t∈ts'↔t∈ts)->H l=none->Q (.ref l) (upd H l (.lst (ps'.map λx=>V.ref x.1)))
section
variable {X:Cx}{pins:List (Addr×Obj)}{σ:St}{H:Hp}{s:Shared}{x y:Str}{e:Expr}{p p' pos pos':Pos}{t:TA}
theorem a1w (K:ah)(hh:X.A.handled=none)(hu:X.A.units+64<cLine)(hg:Gl X x)(hm:X.mg x=none)(hv:bootBuiltins x=some (.builtin "sorted"))(hg':Gl X y)(hm':X.mg y=none)(hv':bootBuiltins y=some (.type "set"))(ha:PA X [e] t)
  (hn:x≠"__name__":=by decide) (hdb:(x == ("__debug__":Str))=false:=by decide) (hn':y≠"__name__":=by decide) (hdb':(y == ("__debug__":Str))=false:=by decide)
  (he:starEach [e] X.env=[(false,eval e X.env)]:=by rfl) (hpl:(backTo pos' (starEach ([]:List Expr) X.env)).any (·.1)=false:=by rfl)
  (he2:starEach [.Call (.Name y p') [e] [] pos'] X.env=[(false,eval (.Call (.Name y p') [e] [] pos') X.env)]:=by rfl) (hpl2:(backTo pos (starEach ([]:List Expr) X.env)).any (·.1)=false:=by rfl) (hK:X.K=K:=by rfl) :
  PE X (.Call (.Name x p) [.Call (.Name y p') [e] [] pos'] [] pos) (tCB (a3z K) t):=by
 subst hK;intro pins s σ H Q I h;refine cG (S9 I hg hm hv ?_ hn hdb);refine gN ?_ he2 hpl2;rw[he2];show wpAny _ _ (spliced ((false,eval (.Call (.Name y p') [e] [] pos') X.env)::[])) _ _ s;refine fY ?_;refine cG (S9 I hg' hm' hv' ?_ hn' hdb');refine bR (thn (ha pos' pins s σ H _ I h) λus s1 ⟨vs,H1,I1,r1,q1⟩=>?_) he hpl;obtain⟨l,ps,ts,rfl,src,hps,hrg,hz,q⟩:=q1;obtain⟨u,rfl,rx⟩:=V4 r1;cases rx;have hpl0:=hps.len
 let pq:List (Addr×(Int×Int)):=ps.map λx=>(x.1,un x.2)
 have epq:pq.map (·.2)=ts:=by
  show (ps.map λx=>(x.1,un x.2)).map (·.2)=ts;rw[cb];have:(ps.map (·.2)).map un=ts:=by rw[hps.eq,cb];exact List.map_id'' (λt=>a7P t) ts
  rw[cb] at this;exact this
 have two:∀ x∈ps,x.2=tl (un x.2):=λx hx=>by
  have:x.2∈ts.map tl:=by rw[<- hps.eq];exact fS hx
  obtain⟨t',_,e'⟩:=aR.mp this;rw[<- e',a7P]
 have hT:∀ q∈pq,Srt.TieAt X.prog X.w s1.heap q.1 q.2:=λq hq=>by
  obtain⟨x,hx,rfl⟩:=aR.mp hq;have ht:=I1.tupInts (hps.to x hx) (by rw[two x hx];simp[tl]);obtain⟨a,o,items,n,ea,ho,hc,hd,hi,_⟩:=ht;injection ea with ea
  subst ea;rw[two x hx] at hi;have hmem:un x.2∈ts:=by rw[<- epq];exact aR.mpr ⟨(x.1,un x.2),hq,rfl⟩
  obtain⟨b0,b1,b2,b3⟩:=hrg _ hmem;exact⟨⟨o,items,n,ho,hc,hd,Srt.ints_items hi⟩,b0,b1,b2,b3⟩
 have run:∀ {c:String} {its:List Value},its=pq.map (λq=>bX q.1)->Srt.SetSrc X.prog X.w s1.heap l c its.toArray.size (λi v=>its.toArray[i]?=some v) ->
   wpAny (model X.prog X.w) X.A (call (.type "set") [.ref l]) (λv s2=>wpAny (model X.prog X.w) X.A (spliced []) (λvs s3=>wpAny (model X.prog X.w) X.A (call (.builtin "sorted") (v::vs)) (EP X pins σ Q) X.xe s3) X.xe s2) X.xe s1:=by
  intro c its hits hsrc;refine Srt.call_bagT hh ∅ hsrc hits hT (by show (ps.map _).length<300;rw[ae];omega) λh' tk qs hk hB hnd hmem hqp=>gh ?_
  obtain⟨es,ep,tb,bt,_,hp,hq⟩:=hB;have hqpl:qs.length<=ts.length:=by
   have:=STab.sub_len hnd (λt ht=>(hmem t).mp ht);rw[ae,epq] at this;exact this
  have hsz:es.size=qs.length:=by have:=hp.length_eq;simpa using this
  have hzl:es.size<=sizeLine:=by rw[sizeLine_eq];omega
  have hvals:(es.toList.map (·.2)).Perm (qs.map λq=>bX q.1):=by
   refine (hp.map _).trans ?_;rw[cb];exact .rfl
  have hti:∀ q∈qs,Srt.TupInts h' (.ref q.1) (tl q.2):=λq hq'=>by
   obtain⟨⟨o,items,n,ho,hc,hd,hi⟩,_⟩:=hq q hq';exact⟨q.1,o,items,n,rfl,ho,hc,hd,Srt.items_ints hi,by simp[tl]⟩
  refine Srt.sorted_any (O:=Srt.lexOrd) (key:=Srt.tupKey h') (knd:=tuples' true) (s:={s1 with heap:=h',toks:=tk}) (Srt.coll_bag (A:=X.A.in1) hh bt hzl) (λvs h=>by rw[h.length_eq,ae,bF];exact hzl) (λvs s' hC k=>?_) λvs out h1 h2 tk' n hC ho hs k1 k2 hD=>?_
  ·refine Srt.asks_tups (λv hv=>?_) k;obtain⟨q,hq',rfl⟩:=aR.mp ((hC.trans hvals).mem_iff.mp hv);exact⟨_,hti q hq'⟩
  ·obtain⟨qs',hqq,rfl⟩:=a0D (ho.trans (hC.trans hvals)) rfl;have I3:Inv X pins σ H1 {s1 with heap:=h1,toks:=tk'}:=I1.kept λb o eb=>k1 b o (hk b o eb)
   have hps':M7 H1 (qs'.map λq=>(q.1,tl q.2)) (qs'.map (·.2)):=by
    refine⟨λx hx=>?_,by rw[cb,cb];rfl⟩;obtain⟨q',hq',rfl⟩:=aR.mp hx;obtain⟨z,hz',e'⟩:=aR.mp (hqp q' (hqq.mem_iff.mp hq'));subst e';have:=hps.to z hz';rw[two z hz'] at this;exact this
   have hlen:qs'.length<=sizeLine:=by rw[hqq.length_eq,<- hsz];exact hzl
   have hres:=q (qs'.map λq=>(q.1,tl q.2)) (qs'.map (·.2)) h1.objs.size hps' ?_ ?_ I3.fresh
   ·rw[cb] at hres;have hres':Q (.ref h1.objs.size) (upd H1 h1.objs.size (.lst (qs'.map λq:Addr×(Int×Int)=>V.ref q.1))):=hres;refine⟨.ref h1.objs.size,_,I3.laid (t':=tk') (o:=.lst (qs'.map λq:Addr×(Int×Int)=>V.ref q.1)) k2 (aC _) ⟨by rw[ae];exact hlen,_,n,a0V (f:=λq:Addr×(Int×Int)=>q.1) qs',hD⟩,rfl,hres'⟩
   ·have hnd':(qs'.map (·.2)).Nodup:=(hqq.map _).nodup_iff.mpr hnd;refine STab.lex_of ?_ hnd';rw[bT] at hs ⊢;refine hs.imp_of_mem λ{a b} ha hb hab=>?_
    have e1:=Srt.tupKey_of (hti a (hqq.mem_iff.mp ha));have e2:=Srt.tupKey_of (hti b (hqq.mem_iff.mp hb));have hab:HT.lexLt (Srt.tupKey h' (.ref b.1)) (Srt.tupKey h' (.ref a.1))=false:=hab;rw[e1,e2] at hab;exact hab
   ·intro t';rw[(hqq.map (·.2)).mem_iff,hmem,epq]
 have evs:∀ {its:List Value},E2 (ps.map λx=>V.ref x.1) its->its=pq.map (λq=>bX q.1):=λ{its} r=>by
  rw[Z0 (f:=λx:Addr×List Int=>x.1) r];show _=(ps.map λx=>(x.1,un x.2)).map λq=>bX q.1
  rw[cb];rfl
 rcases src with hs | hs
 ·obtain⟨its,r,pl,_⟩:=I1.list hs;exact run (evs r) (Srt.src_list pl.isList)
 ·obtain⟨its,r,pl,_⟩:=I1.tuple hs;exact run (evs r) (Srt.src_tup pl)
end
end L2
end
section
namespace L2
open PySem PySem.Spec PyProof.Rows
section
variable {k m c:Nat}{d:PyData}{ds:List PyData}
def b4p (n:Int)(ts:⋯):PyData:=.tuple [.int n,.tuple ((ts.map tl).map L2.tI)]
theorem M0.dt {K:ah}{H:Hp}{w:Addr}{n:Int}{ts:⋯}(h:M0 H w n ts):Dt K H (.ref w) (b4p n ts):=by
 obtain⟨q,e,ht⟩:=h;exact .tup (SqT.of e) (.cons (.int n) (.cons ht.ls.dt .nil))
theorem V3.dt {K:ah}{H:Hp}{w:Addr}{ts:⋯}(h:V3 H w ts):Dt K H (.ref w) (.tuple ((ts.map tl).map L2.tI)):=h.ls.dt
end
end L2
end
section
namespace L2
open PySem
def b4l (g:TG)(tc:TT)(te:TE)(p:Addr)(fr:St)(H1:Hp)(x:V)(c:Bool)(f:V)(N:Nat):Prop :=
 ∀(v:Option V) (ys:List V) (R:St->Hp->Prop),ys.length<=N->(c=true->∀ v',R (v'::fr) (upd (upd H1 p (.lst ys)) p (.lst (ys++[f]))))->(c=false->∀ v',R (v'::fr) (upd H1 p (.lst ys))) ->
  g x (v::fr) (upd H1 p (.lst ys)) fun τ2 H2=>tc τ2 H2 λb H3=>if b=true then te τ2 H3 λw H4=>∃ zs,H4 p=some (.lst zs)/\zs.length<sizeLine/\R τ2 (upd H4 p (.lst (zs++[w]))) else R τ2 H3
theorem a7V {α:Type}(c:α->Bool)(f:α->V)(l:List α):((l.filter c).map f).length<=l.length:=by rw[ae];exact bu _ _
theorem a6J {α:Type}(c:α->Bool)(f:α->V)(l:List α)(x:α):((l++[x]).filter c).map f=(l.filter c).map f++(if c x=true then [f x] else []):=by
 rw[bA,ap];congr 1;by_cases h:c x=true
 ·rw[cz h,if_pos h];rfl
 ·rw[cP h,if_neg h];rfl
section
variable {K:ah}{a p:Addr}{g:TG}{tc:TT}{te:TE}{fr:St}{H1:Hp}{EE:Hp->Prop}
theorem a2L {α:Type}{l:List α}{i:Nat}{x:α}(h:l[i]?=some x):l.take (i+1)=l.take i++[x]:=by rw[cN,h];rfl
theorem a8K {α:Type}{xs:List α}(V0:α->V)(c:α->Bool)(f:α->V)(hn:xs.length<=16000000)(hl:SqL K H1 a (xs.map V0))(hp:H1 p=none)(hs:∀ x∈xs,b4l g tc te p fr H1 (V0 x) (c x) (f x) xs.length)
  (hd:EE (upd H1 p (.lst ((xs.filter c).map f)))):lcW g tc te p (Itl K a) (none::fr) (upd H1 p (.lst [])) EE:=by
 refine N1 (xs:=xs.map V0) (λi τ H=>(∃ v,τ=v::fr)/\H=upd H1 p (.lst (((xs.take i).filter c).map f))) ⟨⟨_,rfl⟩,by simp⟩ ?_ ?_ ?_
 ·rintro i τ H _ ⟨_,rfl⟩;exact ((A9.refl H1).upd hp).seq hl
 ·rintro i x τ H hx ⟨⟨v,rfl⟩,rfl⟩ _;rw[aF] at hx;cases h0:xs[i]? with
  | none=>rw[h0] at hx;cases hx
  | some y =>
  rw[h0] at hx;cases aP hx;have hi:=(aq.mp h0).1;refine hs y (aG h0) v _ _ (bH (a7V c f _) (by rw[aW];omega)) (λh v'=>?_) λh v'=>?_
  ·refine⟨⟨_,rfl⟩,?_⟩;rw[a1D,a2L h0,a6J,if_pos h]
  ·refine⟨⟨_,rfl⟩,?_⟩;rw[a2L h0,a6J,if_neg (by rw[h];simp),bp]
 ·rintro τ H ⟨_,rfl⟩;rw[ae,bz];exact hd
theorem b3m {fr:St}{H1:Hp}{p:Addr}{ys:List V}{w:V}{N:Nat}{R:St->Hp->Prop}{v:Option V}{b c:Bool}(e:b=c)(hl:ys.length<=N)(hN:N<=16000000)
  (h1:c=true->∀ v',R (v'::fr) (upd (upd H1 p (.lst ys)) p (.lst (ys++[w])))) (h2:c=false->∀ v',R (v'::fr) (upd H1 p (.lst ys))) :
  if b=true then ∃ zs,upd H1 p (.lst ys) p=some (.lst zs)/\zs.length<sizeLine/\R (v::fr) (upd (upd H1 p (.lst ys)) p (.lst (zs++[w]))) else R (v::fr) (upd H1 p (.lst ys)):=by
 subst e;by_cases hb:b=true
 ·rw[if_pos hb];exact⟨ys,A3,C0 ∅,h1 hb v⟩
 ·rw[if_neg hb];exact h2 (~~~hb) v
theorem a7T {fr:St}{H1:Hp}{p:Addr}{ys:List V}{w:V}{N:Nat}{R:St->Hp->Prop}{v:Option V}(hl:ys.length<=N)(hN:N<=16000000)(h1:true=true->∀ v',R (v'::fr) (upd (upd H1 p (.lst ys)) p (.lst (ys++[w])))) :
  ∃ zs,upd H1 p (.lst ys) p=some (.lst zs)/\zs.length<sizeLine/\R (v::fr) (upd (upd H1 p (.lst ys)) p (.lst (zs++[w]))):=⟨ys,A3,C0 ∅,h1 rfl v⟩
end
end L2
end
section
namespace L2
open PySem PySem.Spec PyProof.Rows
theorem E5.zip {H:Hp}{p:Addr}{as:List Addr}{rows:List (List Int)}(h:E5 H p as rows):as.map V.ref=(as.zip rows).map (λx=>V.ref x.1)/\∀ x∈as.zip rows,H x.1=some (.lst (x.2.map V.int)):=by
 constructor
 ·have:as=(as.zip rows).map (·.1):=by rw[List.map_fst_zip (by rw[h.len];exact aC _)]
  rw[show (as.zip rows).map (λx=>V.ref x.1)=((as.zip rows).map (·.1)).map V.ref by rw[cb];rfl,<- this]
 ·intro x hx;obtain⟨i,hi,e⟩:=dy hx;have h1:(as.zip rows)[i]?=some x:=by rw[au hi,e]
  rw[dH] at h1;exact h.row i _ _ h1.1 h1.2
theorem a3G {as:List Addr}{rows:List (List Int)}(h:as.length=rows.length)(f:List Int->V):(as.zip rows).map (λx=>f x.2)=rows.map f:=by
 rw[show (as.zip rows).map (λx=>f x.2)=((as.zip rows).map (·.2)).map f by rw[cb];rfl,List.map_snd_zip (by rw[h];exact aC _)]
end L2
end
section
namespace L2
open PySem PySem.Spec PyProof.Rows
open Classical in
noncomputable def hid (A:Addr->Prop)(H:Hp):Hp:=λa=>if A a then none else H a
end L2
end
section
namespace L2
open PySem
section
variable {n:Int}{ts us:⋯}
theorem K5.web (T:K5 n ts us)(hw:C4 n ts):C4 n us:=by
 have hok:=T.ok hw.rng;have hl:=T.len;have h60:=hw.n60;have h3:=hw.n3;refine⟨h3,h60,hok,T.srt,∅,λS hS u v u0 u1 v0 v1 hu=>?_⟩;obtain⟨par,rank,R⟩:=T.rooted hw.rng u0 u1;have key:∀(m:Nat) (x:Int),rank x<=m->0<=x->x<n->S x:=by
  intro m;induction m with
  | zero =>
   intro x hx x0 x1;by_cases hxu:x=u
   ·rw[hxu];exact hu
   ·have:=(R.up x x0 x1 hxu).2.2.1;omega
  | succ m ih =>
   intro x hx x0 x1;by_cases hxu:x=u
   ·rw[hxu];exact hu
   ·obtain⟨q0,q1,q2,q3⟩:=R.up x x0 x1 hxu;have hp:=ih (par x) ∅ q0 q1;rcases (J1 hok).mp q3 with h | h
    ·exact (hS _ h).mpr hp
    ·exact (hS _ h).mp hp
 exact key (rank v) v (aC _) v0 v1
theorem C4.reach (hw:C4 n us){u x:Int}(u0:0<=u)(u1:u<n)(x0:0<=x)(x1:x<n):Rch us (·∈B0 0 n.toNat) u x:=by
 refine hw.conn (λy=>Rch us (·∈B0 0 n.toNat) u y) (λt ht=>?_) u x u0 u1 x0 x1 .base;obtain⟨h0,h1,h2⟩:=hw.rng t ht;have e:t.2∈nb us t.1:=X2.mpr (.inl ht);exact⟨λh=>h.step e (E6.mpr ⟨∅,∅⟩),λh=>h.step ((X1 hw.rng).mp e) (E6.mpr ⟨∅,∅⟩)⟩
end
end L2
end
section
namespace Srt
open PySem PyProof.Rows
section
variable {prog:Program}{w:World}{A:Around}{E:Value->Shared->Prop}{s:Shared}{e it l:Addr}{n k:Nat}{P:Nat->Value->Prop}{S:Nat->Heap->Prop}{old:Value}
theorem en_item {Q:Value->Shared->Prop}(N:NxIt prog w it l n P S)(hei:e≠it)(hel:e≠l)(he:IsEnum s.heap e it k old)(hs:S k s.heap)(hk:k<n)
  (hQ:∀ h' x,P k x->IsEnumOut h' e it ((k:Int)+1) x s.heap.objs.size->S (k+1) h'->h'.get? s.heap.objs.size=some {cls:=.type "tuple",data:=.seq #[.int k s.toks,x]} ->
   (∀ b o,b≠e->b≠it->s.heap.get? b=some o->h'.get? b=some o)->Q (.ref s.heap.objs.size) {s with heap:=h',toks:=s.toks+1}) :
  wpAny (model prog w) A (Builtin.«enumerate.__next__» ⟨[.ref e],[]⟩) (λfin s'=>∃ v,fin=.done (.ret v)/\Q v s') E s:=by
 obtain⟨hp,g,d,tk,os⟩:=s;show wpAny _ _ (field (.ref e) 2 >>= _) _ _ _;refine af (dB he rfl (x:=.ref it) rfl ?_);refine af (N.item _ k _ _ _ hk hs λx g1 px f1 b1=>?_);replace b1:cj it hp g1:=b1;have e1:IsEnum g1 e it k old:=(b1.2 e hei).trans he;show wpAny _ _ (field (.ref e) 3 >>= _) _ _ ⟨g1,g,d,tk,os⟩;refine af (dB e1 rfl (x:=rawInt k) rfl ?_);show wpAny _ _ (field (.ref e) 4 >>= _) _ _ ⟨g1,g,d,tk,os⟩;refine af (dB e1 rfl (x:=.none) rfl ?_);show wpAny _ _ (mkInt k >>= _) _ _ ⟨g1,g,d,tk,os⟩;refine af (wpAny_mkInt ?_);show wpAny _ _ (setField (.ref e) 3 (rawInt ((k:Int)+1)) >>= _) _ _ ⟨g1,g,d,tk+1,os⟩;refine af (fE e1 (by simp) λg2 e2 b2=>?_);replace b2:cj e g1 g2:=b2;replace e2:IsEnum g2 e it ((k:Int)+1) old:=e2;show wpAny _ _ (setField (.ref e) 4 .none >>= _) _ _ ⟨g2,g,d,tk+1,os⟩;refine af (fE e2 (by simp) λg3 e3 b3=>?_);replace b3:cj e g2 g3:=b3;replace e3:IsEnum g3 e it ((k:Int)+1) old:=e3;show wpAny _ _ (newTuple [.int k tk,x] >>= _) _ _ ⟨g3,g,d,tk+1,os⟩;refine af (wpAny_newTuple ?_);have hsz:g3.objs.size=hp.objs.size:=by rw[b3.1,b2.1,b1.1]
 have e4:IsEnum (g3.push {cls:=.type "tuple",data:=.seq #[.int k tk,x]}) e it ((k:Int)+1) old:=am _ e3;have t4:(g3.push {cls:=.type "tuple",data:=.seq #[.int k tk,x]}).get? hp.objs.size=some {cls:=.type "tuple",data:=.seq #[.int k tk,x]}:=by rw[<- hsz];exact aK _ rfl
 have k4:∀ b o,b≠e->b≠it->hp.get? b=some o->(g3.push {cls:=.type "tuple",data:=.seq #[.int k tk,x]}).get? b=some o:=λb o c1 c2 q=>am _ (b3.extBut b o c1 (b2.extBut b o c1 (b1.extBut b o c2 q)))
 have elt:e<hp.objs.size:=aE he;have f4:S (k+1) (g3.push {cls:=.type "tuple",data:=.seq #[.int k tk,x]}):=N.frame _ _ _ f1 λc o hc q=>by
  have ce:c≠e:=by rcases hc with rfl | rfl;exact hei.symm;exact hel.symm
  exact am _ (b3.extBut c o ce (b2.extBut c o ce q))
 show wpAny _ _ (Builtin.SmallTypes.ownedTupleIsFree (.ref e) >>= _) _ _ ⟨g3.push {cls:=.type "tuple",data:=.seq #[.int k tk,x]},g,d,tk+1,os⟩;rw[hsz];generalize g3.push {cls:=.type "tuple",data:=.seq #[.int k tk,x]}=g4 at e4 t4 k4 f4;refine af ?_;unfold Builtin.SmallTypes.ownedTupleIsFree;refine af (dB e4 rfl (x:=.none) rfl (ao ?_));simp only[if_true];refine af (iY (af (dB e4 rfl (x:=old) rfl ?_)));refine af (fE e4 (by simp) λg5 e5 b5=>?_);replace b5:cj e g4 g5:=b5;replace e5:IsEnum g5 e it ((k:Int)+1) x:=e5;show wpAny _ _ (Builtin.SmallTypes.ownedTupleHandOut (.ref e) (.ref hp.objs.size) >>= _) _ _ ⟨g5,g,d,tk+1,os⟩;refine af ?_;unfold Builtin.SmallTypes.ownedTupleHandOut;refine af (fE e5 (by simp) λg6 e6 b6=>?_);replace b6:cj e g5 g6:=b6;replace e6:IsEnumOut g6 e it ((k:Int)+1) x hp.objs.size:=e6;refine fE e6 (by simp) λg7 e7 b7=>?_
 replace b7:cj e g6 g7:=b7;replace e7:IsEnumOut g7 e it ((k:Int)+1) x hp.objs.size:=e7;have up:∀ b o,b≠e->g4.get? b=some o->g7.get? b=some o:=λb o c q=>b7.extBut b o c (b6.extBut b o c (b5.extBut b o c q))
 refine af (wpAny_letGo (ao ⟨_,rfl,hQ g7 x px e7 (N.frame _ _ _ f4 λc o hc q=>up c o (by rcases hc with rfl | rfl;exact hei.symm;exact hel.symm) q) (up _ _ (fg elt) t4) λb o c1 c2 q=>up b o c1 (k4 b o c1 c2 q)⟩))
theorem en_next {Q:Option Value->Shared->Prop}(N:NxIt prog w it l n P S)(hei:e≠it)(hel:e≠l)(he:IsEnum s.heap e it k old)(hs:S k s.heap)(hk:k<n)
  (hQ:∀ h' x,P k x->IsEnumOut h' e it ((k:Int)+1) x s.heap.objs.size->S (k+1) h'->h'.get? s.heap.objs.size=some {cls:=.type "tuple",data:=.seq #[.int k s.toks,x]} ->
   (∀ b o,b≠e->b≠it->s.heap.get? b=some o->h'.get? b=some o)->Q (some (.ref s.heap.objs.size)) {s with heap:=h',toks:=s.toks+1}):wpAny (model prog w) A (pyNext (.ref e)) Q E s:=by
 have hT:s.TypeIs (.ref e) "enumerate":=⟨_,he,rfl⟩
 unfold pyNext
 exact af (fH (ci (name:=cC "__next__") hT dW (cn dW hT iq
  (en_item N hei hel he hs hk λh' x px a1 a2 a3 a4=>ao (hQ h' x px a1 a2 a3 a4)) (ik _))))
theorem en_done {Q:Option Value->Shared->Prop}(hh:A.handled=none)(N:NxIt prog w it l n P S)(he:IsEnum s.heap e it k old)(hs:S k s.heap)(hk:n<=k)
  (hQ:∀ h',iL it s.heap h'->Q none {s with heap:=h'}):wpAny (model prog w) A (pyNext (.ref e)) Q E s:=by
 have hT:s.TypeIs (.ref e) "enumerate":=⟨_,he,rfl⟩
 unfold pyNext;refine af (fH (ci (name:=cC "__next__") hT dW (cn dW hT iq ?_ (ik _))));show wpAny _ _ (field (.ref e) 2 >>= _) _ _ _;refine af (dB he rfl (x:=.ref it) rfl ?_);refine af (N.done _ k _ _ _ hh hk hs λh' x b he'=>?_);obtain⟨o,ho,hc⟩:=he';refine af (fU (T:="StopIteration") (b:=true) ⟨o,ho,hc⟩ isSubtype_stop ?_);exact ao (hQ _ b)
end
open AutoSeq1 (wpAny_loadPart')
theorem en_new (l:Addr)(items:Array Value) :
  Meets (Builtin.«enumerate.__new__» ⟨[.type "enumerate",.ref l],[]⟩) (λ_ R s=>s.heap.IsTuple l items /\
   R (.ok (.ret (.ref (s.heap.objs.size+1)))) {s with heap:=(s.heap.push {cls:=.type "tuple_iterator",data:=.fields #[.ref l,.int 0 0]}).push {cls:=.type "enumerate",data:=.fields #[.none,.bool false,.ref s.heap.objs.size,rawInt 0,.none,.none]}}) :=
 .of_wp λprog w A R s h=>by
  obtain⟨hp,g,d,tk,os⟩:=s;obtain⟨hl,h⟩:=h;have hsub:=sub_enumerate;have hL:Heap.IsTuple (Shared.heap ⟨hp,g,d,tk,os⟩) l items:=hl;obtain⟨⟨c,dct,dt,sl⟩,hol,hc,n,hd⟩:=id hl;replace hc:c=.type "tuple":=hc;replace hd:dt=.seq items n:=hd;subst hc hd;have hsz:(hp.push {cls:=.type "tuple_iterator",data:=.fields #[.ref l,.int 0 0]}).objs.size=hp.objs.size+1:=cV ..
  wp_walk using g9 hol
  refine wpAny_stack_any λst=>ao ?_
  split
  ·rename_i c _ _ _ _ _;cases (c == dA "enumerate")
   ·wp_walk using g9 hol,fF hL
    exact⟨_,rfl,by rw[hsz];exact h⟩
   ·wp_walk using g9 hol,fF hL
    exact⟨_,rfl,by rw[hsz];exact h⟩
  ·wp_walk using g9 hol,fF hL
   exact⟨_,rfl,by rw[hsz];exact h⟩
section
variable {prog:Program}{w:World}{A:Around}{E:Value->Shared->Prop}{s:Shared}
theorem call_enT {l:Addr}{items:Array Value}{Q:Value->Shared->Prop}(hL:s.heap.IsTuple l items)
  (h:∀ h',IsEnum h' (s.heap.objs.size+1) s.heap.objs.size 0 .none->h'.IsTupleIter s.heap.objs.size l 0->(∀ b o,s.heap.get? b=some o->h'.get? b=some o)->Q (.ref (s.heap.objs.size+1)) {s with heap:=h'}) :
  wpAny (model prog w) A (call (.type "enumerate") [.ref l]) Q E s:=by
 refine callType_new PySem.F.called_enumerate (by decide) (PySem.F.typeCall_enumerate_1 _) (PySem.F.newCall_enumerate_1 _) (λobj=>PySem.F.args_object_init_2 obj _) PySem.F.entry_enumerate_new (en_new l items) ⟨hL,?_⟩;have hz:(s.heap.push {cls:=.type "tuple_iterator",data:=.fields #[.ref l,.int 0 0]}).objs.size=s.heap.objs.size+1:=cV ..;have he:IsEnum ((s.heap.push {cls:=.type "tuple_iterator",data:=.fields #[.ref l,.int 0 0]}).push {cls:=.type "enumerate",data:=.fields #[.none,.bool false,.ref s.heap.objs.size,rawInt 0,.none,.none]}) (s.heap.objs.size+1) s.heap.objs.size 0 .none:=by
  have:=aK (s.heap.push {cls:=.type "tuple_iterator",data:=.fields #[.ref l,.int 0 0]}) (o:={cls:=.type "enumerate",data:=.fields #[.none,.bool false,.ref s.heap.objs.size,rawInt 0,.none,.none]}) rfl;rw[hz] at this;exact this
 exact⟨⟨_,he,rfl⟩,h _ he ⟨_,am _ (aK _ rfl),rfl,rfl⟩ λb o x=>am _ (am _ x)⟩
end
end Srt
end
section
namespace L2
open PySem PySem.Spec PyProof.Rows
def a9u (K:ah)(a:Addr):It :=
 ⟨λi H=>∃ xs x,SqT K H a xs/\xs[i]?=some x,λi H v H'=>∃ q x,v=.ref q/\H q=none/\H'=upd H q (.tup [.int i,x])/\∀ xs,SqT K H a xs->xs[i]?=some x,λi H=>∃ xs,SqT K H a xs/\xs.length<=i⟩
theorem a7W {P:Program}{w:World}{K:ah}{elts:List Expr}{k:Nat}{pos:Pos}(a e it:Addr)(hne:e≠it)(hea:e≠a)(hia:a≠it):a2G P w K (.Tuple elts k pos) (a9u K a) [e,it] e (λi h=>(∃ old,IsEnum h e it i old)/\h.IsTupleIter it a i) where
 mem:=by simp
 obj:=λi h st b hb=>by
  obtain⟨⟨old,he⟩,o,eo,c,d⟩:=st;rcases aJ.mp hb with rfl | hb
  ·exact⟨_,he,λv z=>by
    have z':iN _=h9 v:=z
    cases z'⟩
  ·have e:b=it:= ~~~hb
   subst e;exact⟨o,eo,λv z=>by rw[d] at z;cases z⟩
 keep:=λi h h' st k=>⟨let ⟨old,he⟩:=st.1;⟨old,k e (by simp) _ he⟩,st.2.at λo q=>k it (by simp) o q⟩
 item:=by
  intro X hP hw hK hc i pins s σ H E I hf st hg;subst hP hw hK;obtain⟨xs,x,hq,hx⟩:=hg;obtain⟨its,rv,p,hz⟩:=I.tuple hq;obtain⟨u,hu,ru⟩:=rv.get hx;obtain⟨⟨old,he⟩,hit⟩:=st;have hel:e<s.heap.objs.size:=aE he;have hil:it<s.heap.objs.size:=by obtain⟨_,z,_⟩:=hit;exact aE z
  have hlu:=(aq.mp hu).1;refine Srt.en_next (k:=i) (Srt.nx_tup (items:=its.toArray) hia) hne hea he ⟨hit,p⟩ (~~~hlu) λh1 xv px ho st1 hT hk=>⟨_,rfl,?_⟩
  have exv:xv=u:=by
   have hp1:its.toArray[i]?=some xv:=px;rw[jF,hu] at hp1;exact (aP hp1).symm
  subst exv;refine jA (s:={s with heap:=h1,toks:=s.toks+1}) ho λh2 he2 hs2=>?_
  have hs2':∀ b o,b≠e->h1.get? b=some o->h2.get? b=some o:=λb o hb q=>(hs2.2 b hb).trans q
  have I1:Inv X pins σ (upd H s.heap.objs.size (.tup [.int i,x])) {s with heap:=s.heap.push {cls:=.type "tuple",data:=.seq #[.int i s.toks,xv]},toks:=s.toks+1} :=
   I.laid (o:=.tup [.int i,x]) (λb o q=>am _ q) (aC _) ⟨by simp[sizeLine_eq],[.int i s.toks,xv],.cons ⟨_,rfl⟩ (.cons ru .nil),⟨_,aK _ rfl,rfl,_,rfl⟩⟩
  have hfr:∀ b∈[e,it],W6 X pins (upd H s.heap.objs.size (.tup [.int i,x])) b:=by
   intro b hb;obtain⟨f0,f⟩:=hf b hb;refine⟨?_,f⟩;rw[B3];exact f0;rcases aJ.mp hb with rfl | hb
   ·exact aU hel
   ·rw[ag.mp hb];exact aU hil
  have I2:Inv X pins σ (upd H s.heap.objs.size (.tup [.int i,x])) {s with heap:=h2,toks:=s.toks+1}:=by
   refine T6 (s:={s with heap:=s.heap.push {cls:=.type "tuple",data:=.seq #[.int i s.toks,xv]},toks:=s.toks+1}) (L:=[e,it]) I1 (λb o hb q=>?_) hfr;have hb1:b≠e:=λz=>hb (by simp[z])
   have hb2:b≠it:=λz=>hb (by simp[z])
   refine hs2' b o hb1 ?_;by_cases hbT:b=s.heap.objs.size
   ·subst hbT;rw[show (s.heap.push {cls:=.type "tuple",data:=.seq #[.int i s.toks,xv]}).get? s.heap.objs.size=some {cls:=.type "tuple",data:=.seq #[.int i s.toks,xv]} from aK _ rfl] at q;cases q;exact hT
   ·have hlt:b<s.heap.objs.size+1:=by have:=aE q;rw[cV] at this;exact this
    have hlt2:b<s.heap.objs.size:=im (dL hlt) hbT;exact hk b o hb1 hb2 (by rw[<- q];exact (a1Z hlt2).symm)
  refine⟨.ref s.heap.objs.size,_,I2,rfl,⟨s.heap.objs.size,x,rfl,I.fresh,rfl,λys hy=>by rw[I.tuple_inj hy hq];exact hx⟩,⟨⟨_,he2⟩,st1.1.at λo q=>hs2' it o hne.symm q⟩,λb hb=>(hfr b hb).1⟩
 done:=by
  intro X hP hw hK hc i pins s σ H E I hf st hg;subst hP hw hK;obtain⟨xs,hq,hx⟩:=hg;obtain⟨its,rv,p,hz⟩:=I.tuple hq;obtain⟨⟨old,he⟩,hit⟩:=st;have hl:=rv.length;refine Srt.en_done (k:=i) (I.ok.hd hc) (Srt.nx_tup (items:=its.toArray) hia) he ⟨hit,p⟩ (by simp;omega) λh' eb=>⟨rfl,?_⟩
  exact T6 (t':=s.toks) (L:=[e,it]) I (λb o hb q=>eb b o (λz=>hb (by simp[z])) q) hf
 self:=λ_ _ _ _ _ st h=>let ⟨_,he⟩:=st.1;gC he h
section
variable {X:Cx}{K:ah}{elts:List Expr}{k:Nat}{tpos p pos:Pos}{l:Expr}{t:TA}{y:Str}
def a8Y (K:ah)(t:TA):TI:=fun σ H R=>t σ H λvs H1=>∃ a,vs=[.ref a]/\(∃ xs,SqT K H1 a xs)/\R (a9u K a) H1
theorem b1Z (hg:Gl X y)(hm:X.mg y=none)(hv:bootBuiltins y=some (.type "enumerate"))(ha:PA X [l] t)(hn:y≠"__name__":=by decide)(hdb:(y == ("__debug__":Str))=false:=by decide)
  (he:starEach [l] X.env=[(false,eval l X.env)]:=by rfl) (hpl:(backTo pos (starEach ([]:List Expr) X.env)).any (·.1)=false:=by rfl) (hK:X.K=K:=by rfl):PI X (.Tuple elts k tpos) (.Call (.Name y p) [l] [] pos) (a8Y K t):=by
 subst hK;intro pins s σ H R I h;refine cG (S9 I hg hm hv ?_ hn hdb);refine bR (thn (ha pos pins s σ H _ I h) λus s1 ⟨vs,H1,I1,r1,a,e1,⟨xs,hq⟩,q⟩=>?_) he hpl;subst e1;obtain⟨u,rfl,rx⟩:=V4 r1;cases rx;obtain⟨its,rv,pl,hz⟩:=I1.tuple hq;have la:a<s1.heap.objs.size:=by obtain⟨_,e,_⟩:=pl;exact aE e
 refine Srt.call_enT pl λh' hen hit hk=>gC (s:={s1 with heap:=h'}) hen ?_
 refine⟨s1.heap.objs.size+1,[s1.heap.objs.size+1,s1.heap.objs.size],_,_,H1,rfl,I1.kept (t':=s1.toks) hk,a7W a _ _ (fg (dD _)) (fg (gn la)) (aU la),⟨⟨_,hen⟩,hit⟩,λb hb=>?_,q⟩;rcases aJ.mp hb with rfl | hb
 ·exact I1.fpOk (fW _) (I1.hok.fresh (fW _))
 ·rw[ag.mp hb];exact I1.fpOk (aC _) I1.fresh
end
theorem b0I {K:ah}{a:Addr}{xs:List V}{g:TG}{tb:TS}{D:U3}{σ:St}{H:Hp}(Pv:Nat->St->Hp->Prop)(h0:Pv 0 σ H)(hx:∀ i σ H,i<=xs.length->Pv i σ H->SqT K H a xs)
  (hs:∀ i x σ H q,xs[i]?=some x->Pv i σ H->H q=none->g (.ref q) σ (upd H q (.tup [.int i,x])) fun σ2 H2=>tb {D with nx:=Pv (i+1),ct:=Pv (i+1),bk:=D.nx} σ2 H2) (hd:∀ σ H,Pv xs.length σ H->D.nx σ H) :
  ∃ W:Nat->Nat->St->Hp->Prop,(∃ m,W 0 m σ H)/\∀ i m σ H,W i m σ H ->
   ((a9u K a).stop i H/\D.nx σ H)\/((a9u K a).go i H/\∃ N:St->Hp->Prop,(∀ σ' H',N σ' H'->∃ m',m'<m/\W (i+1) m' σ' H')/\∀ x H',(a9u K a).yld i H x H'->g x σ H' fun σ2 H2=>tb {D with nx:=N,ct:=N,bk:=D.nx} σ2 H2):=by
 refine⟨λi m σ H=>m=xs.length-i/\i<=xs.length/\Pv i σ H,⟨_,rfl,bo _,h0⟩,?_⟩;rintro i m σ H ⟨rfl,hi,p⟩;have q1:=hx i σ H hi p;by_cases hlt:i<xs.length
 ·refine .inr ⟨⟨xs,_,q1,au hlt⟩,Pv (i+1),fun σ' H' p'=>⟨_,∅,rfl,hlt,p'⟩,?_⟩;rintro v H' ⟨q,x,rfl,hn,rfl,y1⟩;exact hs i x σ H q (y1 xs q1) p hn
 ·have e:i=xs.length:=∅
  subst e;exact .inl ⟨⟨xs,q1,aC _⟩,hd σ H p⟩
end L2
end
section
namespace L2
open PySem
def pV (n g:Int)(par:Int->Int):List V:=(B0 0 n.toNat).map λv=>if v=g then V.non else V.int (par v)
theorem a8s (n g:Int)(par:Int->Int):(pV n g par).length=n.toNat:=by unfold pV;rw[ae,B1]
theorem b2f {n g:Int}{par:Int->Int}{i:Nat}(h:i<n.toNat):(pV n g par)[i]?=some (if (i:Int)=g then V.non else V.int (par i)):=by
 unfold pV;rw[aF,a0W h,iH];rfl
def a1A (g:Int)(par:Int->Int)(i:Nat):⋯:=((B0 0 i).filter λv=>!decide (v=g)).map λv=>mm v (par v)
theorem a3g (g:Int)(par:Int->Int)(i:Nat):a1A g par (i+1)=a1A g par i++(if (i:Int)=g then [] else [mm i (par i)]):=by
 unfold a1A;rw[a1W,bA,ap,iH];by_cases h:(i:Int)=g
 ·rw[if_pos h,a6K _ (by simp[h])];rfl
 ·rw[if_neg h,a4d _ (by simp[h])];rfl
section
variable {n g:Int}{us ts:⋯}{par:Int->Int}{rank:Int->Nat}
theorem a1J {l l':⋯}(h:l.Pairwise Lex)(h':l'.Pairwise Lex)(e:∀ x,x∈l↔x∈l'):l=l':=by
 have nd:∀ {m:⋯},m.Pairwise Lex->m.Nodup:=λhm=>hm.imp λ{a b} hab e'=>by subst e';unfold Lex at hab;omega
 refine eO (le:=Lex) (λa b _ _ x y=>by unfold Lex at x y;omega) h h' ?_;exact (cc (nd h) (nd h')).mpr e
end
def dV:V->PyData
 | .int i=>.int i
 | _=>.none
theorem b4L {K:ah}{H:Hp}{a b:Addr}{ps ps':List (Addr×List Int)}{ts:⋯}{Q:VK}(h1:H a=some (.lst (ps.map λx=>V.ref x.1)))(p1:M7 H ps ts)(h2:H b=some (.lst (ps'.map λx=>V.ref x.1)))(p2:M7 H ps' ts)(q:Q (.bl false) H):a1X K true (.ref a) (.ref b) H Q:=by
 have d1:Dt K H (.ref a) (.list ((ts.map tl).map tI)):=.lst (SqL.of h1) (by rw[<- p1.eq];exact Dts.tups λx hx=>SqT.of (p1.to x hx));have d2:Dt K H (.ref b) (.list ((ts.map tl).map tI)):=.lst (SqL.of h2) (by rw[<- p2.eq];exact Dts.tups λx hx=>SqT.of (p2.to x hx));have sh:SeqAt.shaped (.list ((ts.map tl).map tI))=true:=by
  unfold SeqAt.shaped;rw[PyData.canLay0,PyData.depth,W5];have:=W3 (ts.map tl);rw[ii,decide_eq_true_iff];omega
 refine⟨_,_,d1,d2,sh,sh,?_⟩;have e:PyData.eqv (.list ((ts.map tl).map tI)) (.list ((ts.map tl).map tI))=true:=by rw[PyData.eqv,a4e];exact decide_eq_true rfl
 rw[e];exact q
end L2
end
section
namespace L2
open PySem PySem.Spec PyProof.Rows
theorem b1X {X:Cx}{o e:Expr}{es:List Expr}{to:TE}{t:TA}{apos cpos:Pos}(K:ah)(ho:PE X o to)(ha:PA X (e::es) t)(h:X.K=K:=by rfl)
  (hbase:attributeBase o "pop" X.env (eval o X.env)=eval o X.env:=by rfl)
  (hfew:((backTo cpos (starEach (e::es) X.env)).all (λx=>!x.1) && (backToKw cpos (keywordEach [] X.env)).all (λx=>x.1.isSome)
   && decide ((e::es).length+([]:List Keyword).length+(if ([]:List Keyword).isEmpty then 0 else 1)<30))=true:=by rfl) (hst:starEach (e::es) X.env=(false,eval e X.env)::starEach es X.env:=by rfl) (hpl:(backTo cpos (starEach es X.env)).any (·.1)=false:=by rfl) (hline:(apos.endLine == cpos.line)=true:=by rfl) :
  PE X (.Call (.Attribute o "pop" apos) (e::es) [] cpos) (tBM K "list" a5B to t):=by
 subst h;exact a8r fb jn jl a8I ho ha hbase hfew hline hst hpl
def b4Y (g:TG)(tb:TS)(D:U3)(σ:St)(J:It)(H1:Hp):Prop:=b1K (λ_ H R=>R J H) g tb D σ H1
theorem U4 {wi:TI}{g:TG}{tb:TS}{D:U3}{σ:St}{H:Hp}:b1K wi g tb D σ H=wi σ H (λJ H1=>b4Y g tb D σ J H1):=rfl
end L2
end
section
namespace L2
open PySem
section
variable {n:Int}{ts:⋯}{A B:Int->Prop}{u v x:Int}
theorem Rch.tr (h:Rch ts A u v)(k:Rch ts A v x):Rch ts A u x:=by
 induction k with
 | base=>exact h
 | step _ hy ha ih=>exact .step ih hy ha
theorem Rch.mono' (h:Rch ts A u x)(k:∀ y,A y->B y):Rch ts B u x:=by
 induction h with
 | base=>exact .base
 | step _ hy ha ih=>exact .step ih hy (k _ ha)
theorem Rch.sy (hok:L5 n ts)(h:Rch ts A u x)(ha:A u):Rch ts A x u:=by
 induction h with
 | base=>exact .base
 | @step y z k hz az ih =>
  have ay:A y:=k.mem ha;exact Rch.tr (.step .base ((X1 hok).mp hz) ay) ih
end
def Hng (ts:⋯)(us:List Int):Prop:=us≠[]/\∀ x∈us,∀ y∈us,Rch ts (·∈us) x y
def a2I (n:Int)(ts:⋯)(us:List Int):Prop:=Hng ts us/\∀ x,0<=x->x<n->x∉us->∃ y∈nb ts x,y∈us
theorem X4 {n:Int}{ts:⋯}{us:List Int}{u:Int}(hok:L5 n ts)(hu:u∈us)(h:∀ y∈us,Rch ts (·∈us) u y):Hng ts us :=
 ⟨λe=>(by rw[e] at hu;cases hu),λx hx y hy=>((h x hx).sy hok hu).tr (h y hy)⟩
theorem b2m {us l:List Int}(hnd:us.Nodup)(hs:us ⊆ l)(hl:l.length<=us.length)(hl2:l.Nodup):∀ x∈l,x∈us:=by
 intro x hx;refine aX λhn=>?_
 have h1:(x::us).Nodup:=bW.mpr ⟨hn,hnd⟩;have h2:(x::us) ⊆ l:=λy hy=>by
  rcases aJ.mp hy with rfl | hy
  ·exact hx
  ·exact hs hy
 have:=X0 h1 h2;rw[aD] at this;omega
theorem a3k {us:List Int}:∀ {l:List Int},(l.filter λx=>!decide (x∈us)).length+(l.filter λx=>decide (x∈us)).length=l.length
 | []=>rfl
 | a::l=>by
  have ih:=a3k (us:=us) (l:=l);by_cases h:a∈us
  ·rw[cP (by simp[h]),cz (by simp[h]),aD,aD];omega
  ·rw[cz (by simp[h]),cP (by simp[h]),aD,aD];omega
end L2
end
section
namespace L2
open PySem
structure TB where
 vs:List Int
 ws:List Int
 par:Int->Int
def a0u (bs:List Int)(p:Int)(s:TB)(y:Int):TB :=
 if y∈s.vs then s else ⟨s.vs++[y],if y∈bs then s.ws++[y] else s.ws,λv=>if v=y then p else s.par v⟩
def a0Q (ts:⋯)(bs:List Int)(p:Int)(s:TB)(j:Nat):TB:=((nb ts p).take j).foldl (a0u bs p) s
def a0R (ts:⋯)(bs:List Int)(s:TB):TB:=match s.ws.getLast? with
 | none=>s
 | some p=>a0Q ts bs p ⟨s.vs,s.ws.dropLast,s.par⟩ (nb ts p).length
def V5 (ts:⋯)(bs:List Int)(g:Int):Nat->TB
 | 0=>⟨[g],[g],id⟩
 | k+1=>a0R ts bs (V5 ts bs g k)
def tbM (n:Int)(s:TB):Nat:=2*(n.toNat-s.vs.length)+s.ws.length
structure a0r (n:Int)(ts:⋯)(bs:List Int)(g:Int)(s:TB):Prop where
 grow:P0 ts s.vs ((s.vs.filter λv=>!decide (v=g)).map λv=>mm v (s.par v))
 gin:g∈s.vs
 rng:∀ v∈s.vs,0<=v/\v<n
 sub:∀ v∈s.ws,v∈s.vs/\v∈bs
 wl:s.ws.length<=s.vs.length
 pb:∀ v∈s.vs,v≠g->s.par v∈bs
 cl:∀ v∈s.vs,v∈bs->v∉s.ws->∀ y∈nb ts v,y∈s.vs
structure a2s (n:Int)(ts:⋯)(bs:List Int)(g p:Int)(j:Nat)(s:TB):Prop where
 grow:P0 ts s.vs ((s.vs.filter λv=>!decide (v=g)).map λv=>mm v (s.par v))
 gin:g∈s.vs
 rng:∀ v∈s.vs,0<=v/\v<n
 sub:∀ v∈s.ws,v∈s.vs/\v∈bs
 wl:s.ws.length<=s.vs.length
 pb:∀ v∈s.vs,v≠g->s.par v∈bs
 pin:p∈s.vs
 pbs:p∈bs
 cl:∀ v∈s.vs,v∈bs->v∉s.ws->v≠p->∀ y∈nb ts v,y∈s.vs
 part:∀ y∈(nb ts p).take j,y∈s.vs
section
variable {n g p:Int}{ts:⋯}{bs:List Int}{s:TB}{j:Nat}
theorem a0r.init (g0:0<=g)(g1:g<n)(hg:g∈bs):a0r n ts bs g ⟨[g],[g],id⟩:=by
 refine⟨?_,by simp,λv hv=>?_,λv hv=>?_,by simp,λv hv hn=>?_,λv hv _ hw=>?_⟩
 ·have:([g].filter λv=>!decide (v=g))=[]:=by simp
  show P0 ts [g] (([g].filter λv=>!decide (v=g)).map _);rw[this];exact P0.one g
 ·rw[ag.mp hv];exact⟨g0,g1⟩
 ·rw[ag.mp hv];exact⟨by simp,hg⟩
 ·exact absurd (ag.mp hv) hn
 ·exact absurd hv hw
theorem a0r.pop {ws:List Int}(h:a0r n ts bs g s)(e:s.ws=ws++[p]):a2s n ts bs g p 0 ⟨s.vs,ws,s.par⟩:=by
 have hp:=h.sub p (by rw[e];simp);refine⟨h.grow,h.gin,h.rng,λv hv=>h.sub v (by rw[e];simp[hv]),?_,h.pb,hp.1,hp.2,λv hv hb hw hvp=>h.cl v hv hb (by rw[e];simp;exact⟨hw,hvp⟩),λy hy=>by simp at hy⟩;have:=h.wl;rw[e,ak,bG] at this;show ws.length<=s.vs.length;omega
theorem a2s.try (h:a2s n ts bs g p j s)(hok:L5 n ts){y:Int}(hy:(nb ts p)[j]?=some y):a2s n ts bs g p (j+1) (a0u bs p s y)/\tbM n (a0u bs p s y)<=tbM n s:=by
 have hym:=aG hy;have hr:=L6 hok hym;have hpart:∀ z,z∈(nb ts p).take (j+1)↔z∈(nb ts p).take j\/z=y:=λz=>by rw[cN,hy];simp
 unfold a0u;by_cases hv:y∈s.vs
 ·rw[if_pos hv];refine⟨{h with part:=λz hz=>?_},aC _⟩;rcases (hpart z).mp hz with hz | hz
  ·exact h.part z hz
  ·rw[hz];exact hv
 ·rw[if_neg hv];have hyg:y≠g:=λe=>hv (e ▸ h.gin)
  have hpy:p≠y:=λe=>hv (e ▸ h.pin)
  have hnd:(s.vs++[y]).Nodup:=(h.grow.add h.pin hv hym).nd;have hrng:∀ v∈s.vs++[y],0<=v/\v<n:=λv hv'=>by
   rcases aj.mp hv' with q | q
   ·exact h.rng v q
   ·rw[ag.mp q];exact⟨hr.1,hr.2.1⟩
  have hlen:=R5 hnd hrng;rw[ak,bG] at hlen;have hwl:(if y∈bs then s.ws++[y] else s.ws).length<=s.ws.length+1:=by split<;>simp
  refine⟨⟨?_,aL _ h.gin,hrng,λv hv'=>?_,?_,λv hv' hvg=>?_,aL _ h.pin,h.pbs,λv hv' hb hw hvp z hz=>?_,λz hz=>?_⟩,?_⟩
  ·have e:((s.vs++[y]).filter λv=>!decide (v=g)).map (λv=>mm v (if v=y then p else s.par v))=((s.vs.filter λv=>!decide (v=g)).map λv=>mm v (s.par v))++[mm p y]:=by
    rw[bA,a4d _ (by simp[hyg]),ap];congr 1
    ·refine cI λv hv'=>?_
     have hvs:=(aS.mp hv').1;rw[if_neg (show ¬ v=y from λe=>hv (e ▸ hvs))]
    ·show [mm y (if y=y then p else s.par y)]=_;rw[if_pos rfl,a6x hpy.symm]
   show P0 ts (s.vs++[y]) _;rw[e];exact h.grow.add h.pin hv hym
  ·have key:v∈s.ws\/(v=y/\y∈bs):=by
    dsimp only at hv';split at hv'
    ·rename_i hb;rcases aj.mp hv' with q | q
     ·exact .inl q
     ·exact .inr ⟨ag.mp q,hb⟩
    ·exact .inl hv'
   rcases key with q | ⟨rfl,q⟩
   ·exact⟨aL _ (h.sub v q).1,(h.sub v q).2⟩
   ·exact⟨aN _ (ag.mpr rfl),q⟩
  ·have:=h.wl;rw[ak,bG];dsimp only;omega
  ·show (if v=y then p else s.par v)∈bs;by_cases e:v=y
   ·rw[if_pos e];exact h.pbs
   ·rw[if_neg e];rcases aj.mp hv' with q | q
    ·exact h.pb v q hvg
    ·exact absurd (ag.mp q) e
  ·dsimp only at hw;rcases aj.mp hv' with q | q
   ·refine aL _ (h.cl v q hb (λk=>hw ?_) hvp z hz);split
    ·exact aL _ k
    ·exact k
   ·rw[ag.mp q] at hb hw;rw[if_pos hb] at hw;exact absurd (aN _ (ag.mpr rfl)) hw
  ·rcases (hpart z).mp hz with hz | hz
   ·exact aL _ (h.part z hz)
   ·rw[hz];exact aN _ (ag.mpr rfl)
  ·unfold tbM;dsimp only;rw[ak,bG];omega
theorem a2s.done (h:a2s n ts bs g p j s)(hj:(nb ts p).length<=j):a0r n ts bs g s:=by
 refine⟨h.grow,h.gin,h.rng,h.sub,h.wl,h.pb,λv hv hb hw y hy=>?_⟩;by_cases e:v=p
 ·subst e;exact h.part y (by rw[cS hj];exact hy)
 ·exact h.cl v hv hb hw e y hy
theorem a4w {y:Int}(hy:(nb ts p)[j]?=some y):a0Q ts bs p s (j+1)=a0u bs p (a0Q ts bs p s j) y:=by
 unfold a0Q;rw[cN,hy];simp
theorem a5z {ws:List Int}(e:s.ws=ws++[p]):a0R ts bs s=a0Q ts bs p ⟨s.vs,ws,s.par⟩ (nb ts p).length:=by
 unfold a0R;rw[e];simp
theorem a0r.all (h:a0r n ts bs g s)(hw:s.ws=[])(hok:L5 n ts)(hB:a2I n ts bs)(hg:g∈bs):∀ v,0<=v->v<n->v∈s.vs:=by
 have hcl:∀ v∈s.vs,v∈bs->∀ y∈nb ts v,y∈s.vs:=λv hv hb=>h.cl v hv hb (by rw[hw];simp)
 have key:∀ x,Rch ts (·∈bs) g x->x∈s.vs:=by
  intro x r;induction r with
  | base=>exact h.gin
  | @step y x r hm ha ih=>exact hcl y ih (r.mem hg) x hm
 intro v v0 v1;by_cases hv:v∈bs
 ·exact key v (hB.1.2 g hg v hv)
 ·obtain⟨y,hy,hyb⟩:=hB.2 v v0 v1 hv;exact hcl y (key y (hB.1.2 g hg y hyb)) hyb v ((X1 hok).mp hy)
theorem a0r.len (h:a0r n ts bs g s)(h0:0<=n)(hall:∀ v,0<=v->v<n->v∈s.vs):(s.vs.length:Int)=n:=by
 have h1:=R5 h.grow.nd h.rng;have h2:=X0 (E7 (V7 n.toNat)) (l:=s.vs) λx hx=>by have:=E6.mp hx;exact hall x this.1 ∅
 rw[B1] at h2;omega
theorem a0r.perm (h:a0r n ts bs g s)(hall:∀ v,0<=v->v<n->v∈s.vs):(a1A g s.par n.toNat).Perm ((s.vs.filter λv=>!decide (v=g)).map λv=>mm v (s.par v)):=by
 unfold a1A;refine List.Perm.map _ (List.Perm.filter _ ((cc (E7 (V7 _)) h.grow.nd).mpr λx=>?_));rw[E6];constructor
 ·intro q;exact hall x q.1 ∅
 ·intro q;have:=h.rng x q;omega
theorem a0r.leaf (h:a0r n ts bs g s)(hok:L5 n ts)(hg:g∈bs)(hall:∀ v,0<=v->v<n->v∈s.vs){us:⋯}(pm:us.Perm (a1A g s.par n.toNat))(T:K5 n ts us){x:Int}(x0:0<=x)(x1:x<n)(hx:x∉bs):(nb us x).length=1:=by
 have huk:=T.ok hok;have hxg:x≠g:=λe=>hx (e ▸ hg)
 have e:nb us x=[s.par x]:=by
  refine W9 (U6 huk T.srt x) (by simp) λy=>?_
  have hxp:x≠s.par x:=λe=>hx (by rw[e];exact h.pb x (hall x x0 x1) hxg)
  have tie:∀ a b,(a,b)∈us->(x=a\/x=b)->(a=x/\b=s.par x)\/(b=x/\a=s.par x):=by
   intro a b hm hab;have hm':=pm.mem_iff.mp hm;unfold a1A at hm';obtain⟨v,hv,ev⟩:=aR.mp hm';obtain⟨hv1,hv2⟩:=aS.mp hv;have hv3:=E6.mp hv1;have hvg:v≠g:= ~~~hv2
   have hpv:s.par v∈bs:=h.pb v (hall v hv3.1 ∅) hvg;have hab':=huk _ hm;dsimp only at hab';by_cases hvv:v=s.par v
   ·exfalso;have:mm v (s.par v)=(v,v):=by rw[<- hvv];unfold mm;simp
    rw[this] at ev;cases ev;omega
   rcases V8 hvv with ⟨_,q⟩ | ⟨_,q⟩
   ·rw[q] at ev;cases ev;rcases hab with rfl | rfl
    ·exact absurd hpv hx
    ·exact .inr ⟨rfl,rfl⟩
   ·rw[q] at ev;cases ev;rcases hab with rfl | rfl
    ·exact .inl ⟨rfl,rfl⟩
    ·exact absurd hpv hx
  rw[J1 huk,ag];constructor
  ·rintro (q | q)
   ·rcases tie _ _ q (.inl rfl) with ⟨_,r⟩ | ⟨r1,r2⟩
    ·exact r
    ·exact absurd r2 hxp
   ·rcases tie _ _ q (.inr rfl) with ⟨r1,r2⟩ | ⟨_,r⟩
    ·exact absurd r2 hxp
    ·exact r
  ·rintro rfl
   have hm:mm x (s.par x)∈us:=pm.mem_iff.mpr (by
    unfold a1A
    exact aR.mpr ⟨x,aS.mpr ⟨E6.mpr ⟨x0,∅⟩,by simp[hxg]⟩,rfl⟩)
   rcases V8 hxp with ⟨_,q⟩ | ⟨_,q⟩
   ·rw[q] at hm;exact .inr hm
   ·rw[q] at hm;exact .inl hm
 rw[e];rfl
theorem a0j {k:Nat}(h:(V5 ts bs g k).ws=[]):∀ d,V5 ts bs g (k+d)=V5 ts bs g k
 | 0=>rfl
 | d+1=>by
  show a0R ts bs (V5 ts bs g (k+d))=_;rw[a0j h d];unfold a0R;rw[h];rfl
theorem b1B {k k':Nat}(h:(V5 ts bs g k).ws=[])(h':(V5 ts bs g k').ws=[]):V5 ts bs g k=V5 ts bs g k':=by
 rcases Nat.le_total k k' with q | q
 ·obtain⟨d,rfl⟩:=jy q;exact (a0j h d).symm
 ·obtain⟨d,rfl⟩:=jy q;exact a0j h' d
end
def a1l (n:Int)(ts:⋯)(bs:List Int)(us:⋯):Prop:=∃ k,(V5 ts bs (bs.headD 0) k).ws=[]/\us.Perm (a1A (bs.headD 0) (V5 ts bs (bs.headD 0) k).par n.toNat)
theorem a1l.det {n:Int}{ts us us':⋯}{bs:List Int}(h:a1l n ts bs us)(h':a1l n ts bs us')(s:us.Pairwise Lex)(s':us'.Pairwise Lex):us=us':=by
 obtain⟨k,e,p⟩:=h;obtain⟨k',e',p'⟩:=h';rw[b1B e' e] at p';exact a1J s s' λx=>by rw[p.mem_iff,p'.mem_iff]
def a1K:Sp:=λvs H Q _=>∃(p:Addr) (n g:Int) (par:Int->Int),vs=[.ref p]/\H p=some (.tup (pV n g par))/\0<=n/\n<=60 /\
 ∀(l:Addr) (us:⋯) (H':Hp),A9 H H'->H l=none->V3 H' l us->us.Perm (a1A g par n.toNat)->(us.Pairwise λx y=>HT.lexLt (tl y) (tl x)=false)->Q (.ref l) H'
def a2N (K:ah):Sp:=λvs H Q _=>∃(w:Addr) (n:Int) (ts:⋯) (pb:Addr) (bs:List Int),vs=[.ref w,.ref pb]/\M0 H w n ts/\C4 n ts/\SqT K H pb (bs.map V.int)/\a2I n ts bs/\(∀ x∈bs,0<=x/\x<n)/\bs.length<=60 /\
 ∀(l:Addr) (us:⋯) (H':Hp),A9 H H'->H l=none->V3 H' l us->K5 n ts us->(∀ x,0<=x->x<n->x∉bs->(nb us x).length=1)->a1l n ts bs us->Q (.ref l) H'
end L2
end
section
namespace L2
open PySem
section
variable {n:Int}{ts gs us:⋯}{ins:List Int}
theorem Y8 {a b:Int}(hab:a≠b)(v:Int):(nb (gs++[mm a b]) v).length=(nb gs v).length+if v=a\/v=b then 1 else 0:=by
 rw[a6u,ak];congr 1;rcases V8 hab with ⟨_,e⟩ | ⟨_,e⟩
 ·rw[e];dsimp only;by_cases h1:b=v
  ·rw[if_pos h1,if_pos (.inr h1.symm)];rfl
  ·rw[if_neg h1];by_cases h2:a=v
   ·rw[if_pos h2,if_pos (.inl h2.symm)];rfl
   ·rw[if_neg h2,if_neg (λh=>h.elim (λz=>h2 z.symm) λz=>h1 z.symm)];rfl
 ·rw[e];dsimp only;by_cases h1:a=v
  ·rw[if_pos h1,if_pos (.inl h1.symm)];rfl
  ·rw[if_neg h1];by_cases h2:b=v
   ·rw[if_pos h2,if_pos (.inr h2.symm)];rfl
   ·rw[if_neg h2,if_neg (λh=>h.elim (λz=>h1 z.symm) λz=>h2 z.symm)];rfl
theorem b2U (G:P0 ts ins gs){b:Int}(hb:b∉ins):(nb gs b).length=0:=by
 rw[dj];refine List.eq_nil_iff_forall_not_mem.mpr λy hy=>?_
 rcases X2.mp hy with q | ⟨q,_⟩
 ·exact hb (G.ends _ q).1
 ·exact hb (G.ends _ q).2
theorem b2T (G:P0 ts ins gs):2<=ins.length->∀ v∈ins,1<=(nb gs v).length:=by
 induction G with
 | one s=>intro h;simp at h
 | @add ins us a b h ha hb hn ih =>
  intro _ v hv;have hab:a≠b:=λe=>hb (e ▸ ha)
  rw[Y8 hab];rcases aj.mp hv with hv | hv
  ·by_cases hl:2<=ins.length
   ·have:=ih hl v hv;omega
   ·have h1:ins.length=1:=by have:=h.len;omega
    obtain⟨x,rfl⟩:=List.length_eq_one_iff.mp h1;rw[ag.mp hv,ag.mp ha,if_pos (.inl rfl)];omega
  ·rw[ag.mp hv,if_pos (.inr rfl)];omega
theorem a7A (hok:L5 n ts)(G:P0 ts ins gs):3<=ins.length->(∃ u,(u∈ins/\2<=(nb gs u).length)/\∀ x,x∈ins->2<=(nb gs x).length->Rch ts (λz=>z∈ins/\2<=(nb gs z).length) u x) /\
  ∀ x∈ins,(nb gs x).length<2->∃ y∈nb ts x,y∈ins/\2<=(nb gs y).length:=by
 induction G with
 | one s=>intro h;simp at h
 | @add ins us a b h ha hb hn ih =>
  intro hl;rw[ak,bG] at hl;have hab:a≠b:=λe=>hb (e ▸ ha)
  have hpos:=b2T h ∅;have dgb:=b2U h hb;have ea:2<=(nb (us++[mm a b]) a).length:=by rw[Y8 hab,if_pos (.inl rfl)];have:=hpos a ha;omega
  have eb:(nb (us++[mm a b]) b).length<2:=by rw[Y8 hab,if_pos (.inr rfl)];omega
  have hba:a∈nb ts b:=(X1 hok).mp hn;have ha':a∈ins++[b]:=aL _ ha;by_cases h3:3<=ins.length
  ·obtain⟨⟨u,⟨hu1,hu2⟩,hur⟩,hlf⟩:=ih h3;have mono:∀ z,z∈ins/\2<=(nb us z).length->z∈ins++[b]/\2<=(nb (us++[mm a b]) z).length:=λz hz=>⟨aL _ hz.1,by rw[Y8 hab];omega⟩
   refine⟨⟨u,mono u ⟨hu1,hu2⟩,λx hx hx2=>?_⟩,λx hx hx2=>?_⟩
   ·rcases aj.mp hx with hx | hx
    ·by_cases hd:2<=(nb us x).length
     ·exact (hur x hx hd).mono' mono
     ·have hxa:x=a:=by
       rw[Y8 hab] at hx2;split at hx2
       ·rename_i q;rcases q with q | q
        ·exact q
        ·rw[q] at hx;exact absurd hx hb
       ·omega
      subst hxa;obtain⟨c,hc,hci,hcd⟩:=hlf x hx ∅;exact .step ((hur c hci hcd).mono' mono) ((X1 hok).mp hc) ⟨ha',ea⟩
    ·rw[ag.mp hx] at hx2;omega
   ·rcases aj.mp hx with hx | hx
    ·have hd:(nb us x).length<2:=by rw[Y8 hab] at hx2;omega
     obtain⟨c,hc,hci,hcd⟩:=hlf x hx hd;exact⟨c,hc,mono c ⟨hci,hcd⟩⟩
    ·rw[ag.mp hx];exact⟨a,hba,ha',ea⟩
  ·have h2:ins.length=2:=∅
   cases h with
   | one s=>simp at h2
   | @add ins us c d h' hc hd hcd =>
    rw[ak,bG] at h2;cases h' with
    | @add _ _ _ _ h'' _ _ _=>have:=h''.len;rw[ak,bG] at h2;omega
    | one s =>
     have ecs:=ag.mp hc;subst ecs;have hcd':c≠d:=λe=>hd (e ▸ hc)
     have hmem:∀ z,z∈[c]++[d]↔z=c\/z=d:=λz=>by simp
     have e0:∀ z,(nb ([]++[mm c d]++[mm a b]) z).length=(if z=c\/z=d then 1 else 0)+if z=a\/z=b then 1 else 0:=λz=>by
      rw[Y8 hab,Y8 hcd',show (nb ([]:⋯) z).length=0 from rfl,du]
     refine⟨⟨a,⟨ha',ea⟩,λx hx hx2=>?_⟩,λx hx hx2=>?_⟩
     ·have:x=a:=by
       rw[e0] at hx2;have hxb:x≠b:=λe=>by rw[e] at hx2;rw[if_neg (c:=b=c\/b=d) (λq=>hb ((hmem b).mpr q))] at hx2;split at hx2<;>omega
       by_cases q:x=a
       ·exact q
       ·rw[if_neg (c:=x=a\/x=b) (λk=>k.elim q hxb)] at hx2;split at hx2<;>omega
      rw[this];exact .base
     ·refine⟨a,?_,ha',ea⟩;rcases aj.mp hx with hx | hx
      ·have hxa:x≠a:=λe=>by rw[e] at hx2;omega
       rcases (hmem x).mp hx with rfl | rfl
       ·rcases (hmem a).mp ha with q | q
        ·exact absurd q.symm hxa
        ·rw[q];exact hcd
       ·rcases (hmem a).mp ha with q | q
        ·rw[q];exact (X1 hok).mp hcd
        ·exact absurd q.symm hxa
      ·rw[ag.mp hx];exact hba
theorem K5.busy (T:K5 n ts us)(hok:L5 n ts)(h3:3<=n){L:List Int}(hL:∀ x,x∈L↔(0<=x/\x<n)/\1<(nb us x).length):a2I n ts L:=by
 obtain⟨ins,gs,G,p,hl,hr⟩:=T.grown;have hall:∀ v,0<=v->v<n->v∈ins:=λv h0 h1=>by
  apply aX;intro hv;have:=R5 (n:=n) (bW.mpr ⟨hv,G.nd⟩) λx hx=>by
   rcases aJ.mp hx with rfl | hx
   ·exact⟨h0,h1⟩
   ·exact hr x hx
  rw[aD] at this;omega
 have hd:∀ v,(nb us v).length=(nb gs v).length:=λv=>by unfold nb;exact (p.filterMap _).length_eq
 have hm:∀ z,z∈ins/\2<=(nb gs z).length->z∈L:=λz hz=>(hL z).mpr ⟨hr z hz.1,by rw[hd];omega⟩
 obtain⟨⟨u,hu,hur⟩,hlf⟩:=a7A hok G ∅;refine⟨X4 hok (hm u hu) λy hy=>?_,λx x0 x1 hx=>?_⟩
 ·obtain⟨hy1,hy2⟩:=(hL y).mp hy;rw[hd] at hy2;exact (hur y (hall y hy1.1 hy1.2) ∅).mono' hm
 ·have hlt:(nb gs x).length<2:=by
   apply aX;intro h;exact hx ((hL x).mpr ⟨⟨x0,x1⟩,by rw[hd];omega⟩)
  obtain⟨y,hy,hy2⟩:=hlf x (hall x x0 x1) hlt;exact⟨y,hy,hm y hy2⟩
theorem a2I.more {us vs:List Int}(hok:L5 n ts)(h:a2I n ts us)(hs:∀ x∈us,x∈vs)(hr:∀ x∈vs,0<=x/\x<n):a2I n ts vs:=by
 obtain⟨u,hu⟩:=List.exists_mem_of_ne_nil us h.1.1;refine⟨X4 hok (hs u hu) λy hy=>?_,λx x0 x1 hx=>?_⟩
 ·by_cases hyu:y∈us
  ·exact (h.1.2 u hu y hyu).mono' hs
  ·obtain⟨z,hz,hzu⟩:=h.2 y (hr y hy).1 (hr y hy).2 hyu;exact .step ((h.1.2 u hu z hzu).mono' hs) ((X1 hok).mp hz) hy
 ·obtain⟨y,hy,hyu⟩:=h.2 x x0 x1 λk=>hx (hs x k)
  exact⟨y,hy,hs y hyu⟩
end
end L2
end
section
namespace L2
open PySem
theorem a0F {α:Type}[DecidableEq α]:∀ {us l:List α},us.Nodup->us ⊆ l->us.length<=l.length
 | [],_,_,_=>bo _
 | x::r,l,hn,hs=>by
  have hx:x∈l:=hs (aM ..);have h1:=bW.mp hn;have h2:=a0F (us:=r) (l:=l.erase x) h1.2 λy hy=>(eN λ(e:y=x)=>h1.1 (e ▸ hy)).mpr (hs (aI _ hy))
  rw[dJ hx] at h2;have:=fz hx;rw[aD];omega
theorem b0i {α:Type}[DecidableEq α]{us l:List α}(hnd:us.Nodup)(hs:us ⊆ l)(hl:l.length<=us.length):∀ x∈l,x∈us:=by
 intro x hx;refine aX λhn=>?_
 have:=a0F (us:=x::us) (l:=l) (bW.mpr ⟨hn,hnd⟩) λy hy=>by
  rcases aJ.mp hy with rfl | hy
  ·exact hx
  ·exact hs hy
 rw[aD] at this;omega
theorem Q0 {A:⋯}(h:A.Pairwise Lex):A.Nodup:=h.imp λ{x y} hl e=>by
 rw[e] at hl;rcases hl with h | h<;>omega
section
variable {n:Int}{ts T T' T'':⋯}{put taken:Int×Int}
theorem a5l (hok:L5 n T)(h:Hng T (B0 0 n.toNat)):∀ S:Int->Prop,(∀ t∈T,S t.1↔S t.2)->∀ u v,0<=u->u<n->0<=v->v<n->S u->S v:=by
 intro S hS u v u0 u1 v0 v1 su;have r:=h.2 u (E6.mpr ⟨u0,∅⟩) v (E6.mpr ⟨v0,∅⟩);induction r with
 | base=>exact su
 | @step y x r hx _ ih =>
  have hy:=r.rng hok u0 u1;have sy:=ih hy.1 hy.2;rcases (J1 hok).mp hx with h | h
  ·exact (hS _ h).mp sy
  ·exact (hS _ h).mpr sy
theorem a7N (hw:C4 n ts):∃ ins gs,P0 ts ins gs/\(ins.length:Int)=n/\∀ x∈ins,0<=x/\x<n:=by
 have h3:=hw.n3;have:∀ k:Nat,(k:Int)+1<=n->∃ ins gs,P0 ts ins gs/\ins.length=k+1/\∀ x∈ins,0<=x/\x<n:=by
  intro k;induction k with
  | zero=>exact λ_=>⟨[0],[],.one 0,rfl,λx hx=>by rw[ag.mp hx];omega⟩
  | succ k ih =>
   intro hk;obtain⟨ins,gs,g,hl,hr⟩:=ih ∅;obtain⟨a,ha,b,hb,hn⟩:=g.open hw hr ∅;refine⟨_,_,.add g ha hn hb,by rw[ak,hl];rfl,λx hx=>?_⟩;rcases aj.mp hx with hx | hx
   ·exact hr x hx
   ·rw[ag.mp hx];have:=L6 hw.rng hb;omega
 obtain⟨ins,gs,g,hl,hr⟩:=this (n.toNat-1) ∅;exact⟨ins,gs,g,∅,hr⟩
theorem b0k (hok:L5 n ts)(hs:∀ t∈T,t∈ts){a b:Int}(h:b∈nb T a):b∈nb ts a:=by
 have hT:L5 n T:=λt ht=>hok t (hs t ht)
 rw[J1 hok];exact ((J1 hT).mp h).imp (hs _) (hs _)
theorem P0.mono {ins:List Int}{gs:⋯}(g:P0 T ins gs)(hok:L5 n ts)(hs:∀ t∈T,t∈ts):P0 ts ins gs:=by
 induction g with
 | one s=>exact .one s
 | add _ ha hb hn ih=>exact .add ih ha hb (b0k hok hs hn)
theorem a3x (hw:C4 n ts)(hs:∀ t∈T,t∈ts)(hx:T.Pairwise Lex)(hl:(T.length:Int)+1=n)(hh:Hng T (B0 0 n.toNat)):K5 n ts T:=by
 have hT:L5 n T:=λt ht=>hw.rng t (hs t ht)
 have w:C4 n T:=⟨hw.n3,hw.n60,hT,hx,by have:=hw.n60;omega,a5l hT hh⟩
 obtain⟨ins,gs,g,hi,hr⟩:=a7N w;have hg:=g.len;refine⟨⟨ins,gs,g.mono hw.rng hs,?_,hi,hr⟩,hx,hs⟩;refine (cc (Q0 hx) g.tnd).mpr λx=>⟨b0i g.tnd (g.sub hT) ∅ x,g.sub hT x⟩
end
end L2
end
section
namespace L2
open PySem PySem.Spec PyProof.Rows
section
variable {H:Hp}{n:Int}
theorem M7.inj {ps ps':List (Addr×List Int)}{us us':⋯}(h:M7 H ps us)(h':M7 H ps' us')(e:ps.map (λx=>V.ref x.1)=ps'.map λx=>V.ref x.1):us=us':=by
 have hl:us.length=us'.length:=by
  have:=congrArg iT e;rw[ae,ae,h.len,h'.len] at this;exact this
 refine dw λi=>?_
 rcases cv i us.length with hi | hi
 ·obtain⟨v,h1⟩:∃ v,(ps.map λx=>V.ref x.1)[i]?=some v:=⟨_,au (by rw[ae,h.len];exact hi)⟩
  obtain⟨b,t,e1,e2,e3⟩:=h.get h1;rw[e] at h1;obtain⟨b',t',e1',e2',e3'⟩:=h'.get h1;rw[e1] at e1';cases e1';rw[e3] at e3';injection e3' with e4
  injection e4 with e5
  have e6:=List.cons.inj e5;have e7:=List.cons.inj e6.2;have:t=t':=fI (V.int.inj e6.1) (V.int.inj e7.1);rw[e2,e2',this]
 ·rw[bS hi,bS ∅]
theorem V3.inj {a:Addr}{us us':⋯}(h:V3 H a us)(h':V3 H a us'):us=us':=by
 obtain⟨ps,e,hp⟩:=h;obtain⟨ps',e',hp'⟩:=h';rw[e] at e';injection e' with e2
 injection e2 with e3
 exact hp.inj hp' e3
end
end L2
end
section
namespace L2
theorem tV0 {v:V}{σ:St}{H:Hp}{Q:VK}:W7 0 (some v::σ) H Q=Q v H:=propext ⟨λ⟨_,e,q⟩=>by cases e;exact q,λq=>⟨_,rfl,q⟩⟩
theorem gN0 {v:V}{σ:St}{H:Hp}{Q:St->Hp->Prop}{b:Option V}:Q3 0 v (b::σ) H Q=Q (some v::σ) H:=rfl
theorem tV1 {v:V}{σ:St}{H:Hp}{Q:VK}{a0:Option V}:W7 1 (a0::some v::σ) H Q=Q v H:=propext ⟨λ⟨_,e,q⟩=>by cases e;exact q,λq=>⟨_,rfl,q⟩⟩
theorem gN1 {v:V}{σ:St}{H:Hp}{Q:St->Hp->Prop}{b:Option V}{a0:Option V}:Q3 1 v (a0::b::σ) H Q=Q (a0::some v::σ) H:=rfl
theorem tV2 {v:V}{σ:St}{H:Hp}{Q:VK}{a0 a1:Option V}:W7 2 (a0::a1::some v::σ) H Q=Q v H:=propext ⟨λ⟨_,e,q⟩=>by cases e;exact q,λq=>⟨_,rfl,q⟩⟩
theorem gN2 {v:V}{σ:St}{H:Hp}{Q:St->Hp->Prop}{b:Option V}{a0 a1:Option V}:Q3 2 v (a0::a1::b::σ) H Q=Q (a0::a1::some v::σ) H:=rfl
theorem tV3 {v:V}{σ:St}{H:Hp}{Q:VK}{a0 a1 a2:Option V}:W7 3 (a0::a1::a2::some v::σ) H Q=Q v H:=propext ⟨λ⟨_,e,q⟩=>by cases e;exact q,λq=>⟨_,rfl,q⟩⟩
theorem gN3 {v:V}{σ:St}{H:Hp}{Q:St->Hp->Prop}{b:Option V}{a0 a1 a2:Option V}:Q3 3 v (a0::a1::a2::b::σ) H Q=Q (a0::a1::a2::some v::σ) H:=rfl
theorem tV4 {v:V}{σ:St}{H:Hp}{Q:VK}{a0 a1 a2 a3:Option V}:W7 4 (a0::a1::a2::a3::some v::σ) H Q=Q v H:=propext ⟨λ⟨_,e,q⟩=>by cases e;exact q,λq=>⟨_,rfl,q⟩⟩
theorem gN4 {v:V}{σ:St}{H:Hp}{Q:St->Hp->Prop}{b:Option V}{a0 a1 a2 a3:Option V}:Q3 4 v (a0::a1::a2::a3::b::σ) H Q=Q (a0::a1::a2::a3::some v::σ) H:=rfl
theorem tV5 {v:V}{σ:St}{H:Hp}{Q:VK}{a0 a1 a2 a3 a4:Option V}:W7 5 (a0::a1::a2::a3::a4::some v::σ) H Q=Q v H:=propext ⟨λ⟨_,e,q⟩=>by cases e;exact q,λq=>⟨_,rfl,q⟩⟩
theorem gN5 {v:V}{σ:St}{H:Hp}{Q:St->Hp->Prop}{b:Option V}{a0 a1 a2 a3 a4:Option V}:Q3 5 v (a0::a1::a2::a3::a4::b::σ) H Q=Q (a0::a1::a2::a3::a4::some v::σ) H:=rfl
theorem tV6 {v:V}{σ:St}{H:Hp}{Q:VK}{a0 a1 a2 a3 a4 a5:Option V}:W7 6 (a0::a1::a2::a3::a4::a5::some v::σ) H Q=Q v H:=propext ⟨λ⟨_,e,q⟩=>by cases e;exact q,λq=>⟨_,rfl,q⟩⟩
theorem gN6 {v:V}{σ:St}{H:Hp}{Q:St->Hp->Prop}{b:Option V}{a0 a1 a2 a3 a4 a5:Option V}:Q3 6 v (a0::a1::a2::a3::a4::a5::b::σ) H Q=Q (a0::a1::a2::a3::a4::a5::some v::σ) H:=rfl
theorem tV7 {v:V}{σ:St}{H:Hp}{Q:VK}{a0 a1 a2 a3 a4 a5 a6:Option V}:W7 7 (a0::a1::a2::a3::a4::a5::a6::some v::σ) H Q=Q v H:=propext ⟨λ⟨_,e,q⟩=>by cases e;exact q,λq=>⟨_,rfl,q⟩⟩
theorem gN7 {v:V}{σ:St}{H:Hp}{Q:St->Hp->Prop}{b:Option V}{a0 a1 a2 a3 a4 a5 a6:Option V}:Q3 7 v (a0::a1::a2::a3::a4::a5::a6::b::σ) H Q=Q (a0::a1::a2::a3::a4::a5::a6::some v::σ) H:=rfl
theorem tV8 {v:V}{σ:St}{H:Hp}{Q:VK}{a0 a1 a2 a3 a4 a5 a6 a7:Option V}:W7 8 (a0::a1::a2::a3::a4::a5::a6::a7::some v::σ) H Q=Q v H:=propext ⟨λ⟨_,e,q⟩=>by cases e;exact q,λq=>⟨_,rfl,q⟩⟩
theorem gN8 {v:V}{σ:St}{H:Hp}{Q:St->Hp->Prop}{b:Option V}{a0 a1 a2 a3 a4 a5 a6 a7:Option V}:Q3 8 v (a0::a1::a2::a3::a4::a5::a6::a7::b::σ) H Q=Q (a0::a1::a2::a3::a4::a5::a6::a7::some v::σ) H:=rfl
theorem tV9 {v:V}{σ:St}{H:Hp}{Q:VK}{a0 a1 a2 a3 a4 a5 a6 a7 a8:Option V}:W7 9 (a0::a1::a2::a3::a4::a5::a6::a7::a8::some v::σ) H Q=Q v H:=propext ⟨λ⟨_,e,q⟩=>by cases e;exact q,λq=>⟨_,rfl,q⟩⟩
theorem gN9 {v:V}{σ:St}{H:Hp}{Q:St->Hp->Prop}{b:Option V}{a0 a1 a2 a3 a4 a5 a6 a7 a8:Option V}:Q3 9 v (a0::a1::a2::a3::a4::a5::a6::a7::a8::b::σ) H Q=Q (a0::a1::a2::a3::a4::a5::a6::a7::a8::some v::σ) H:=rfl
theorem b4v {v:V}{σ:St}{H:Hp}{Q:VK}{a0 a1 a2 a3 a4 a5 a6 a7 a8 a9:Option V}:W7 10 (a0::a1::a2::a3::a4::a5::a6::a7::a8::a9::some v::σ) H Q=Q v H:=propext ⟨λ⟨_,e,q⟩=>by cases e;exact q,λq=>⟨_,rfl,q⟩⟩
theorem b4T {v:V}{σ:St}{H:Hp}{Q:St->Hp->Prop}{b:Option V}{a0 a1 a2 a3 a4 a5 a6 a7 a8 a9:Option V}:Q3 10 v (a0::a1::a2::a3::a4::a5::a6::a7::a8::a9::b::σ) H Q=Q (a0::a1::a2::a3::a4::a5::a6::a7::a8::a9::some v::σ) H:=rfl
theorem b4u {v:V}{σ:St}{H:Hp}{Q:VK}{a0 a1 a2 a3 a4 a5 a6 a7 a8 a9 a10:Option V}:W7 11 (a0::a1::a2::a3::a4::a5::a6::a7::a8::a9::a10::some v::σ) H Q=Q v H:=propext ⟨λ⟨_,e,q⟩=>by cases e;exact q,λq=>⟨_,rfl,q⟩⟩
theorem b4S {v:V}{σ:St}{H:Hp}{Q:St->Hp->Prop}{b:Option V}{a0 a1 a2 a3 a4 a5 a6 a7 a8 a9 a10:Option V}:Q3 11 v (a0::a1::a2::a3::a4::a5::a6::a7::a8::a9::a10::b::σ) H Q=Q (a0::a1::a2::a3::a4::a5::a6::a7::a8::a9::a10::some v::σ) H:=rfl
theorem b4t {v:V}{σ:St}{H:Hp}{Q:VK}{a0 a1 a2 a3 a4 a5 a6 a7 a8 a9 a10 a11:Option V}:W7 12 (a0::a1::a2::a3::a4::a5::a6::a7::a8::a9::a10::a11::some v::σ) H Q=Q v H:=propext ⟨λ⟨_,e,q⟩=>by cases e;exact q,λq=>⟨_,rfl,q⟩⟩
theorem b4R {v:V}{σ:St}{H:Hp}{Q:St->Hp->Prop}{b:Option V}{a0 a1 a2 a3 a4 a5 a6 a7 a8 a9 a10 a11:Option V}:Q3 12 v (a0::a1::a2::a3::a4::a5::a6::a7::a8::a9::a10::a11::b::σ) H Q=Q (a0::a1::a2::a3::a4::a5::a6::a7::a8::a9::a10::a11::some v::σ) H:=rfl
theorem b4s {v:V}{σ:St}{H:Hp}{Q:VK}{a0 a1 a2 a3 a4 a5 a6 a7 a8 a9 a10 a11 a12:Option V}:W7 13 (a0::a1::a2::a3::a4::a5::a6::a7::a8::a9::a10::a11::a12::some v::σ) H Q=Q v H:=propext ⟨λ⟨_,e,q⟩=>by cases e;exact q,λq=>⟨_,rfl,q⟩⟩
theorem b4Q {v:V}{σ:St}{H:Hp}{Q:St->Hp->Prop}{b:Option V}{a0 a1 a2 a3 a4 a5 a6 a7 a8 a9 a10 a11 a12:Option V}:Q3 13 v (a0::a1::a2::a3::a4::a5::a6::a7::a8::a9::a10::a11::a12::b::σ) H Q=Q (a0::a1::a2::a3::a4::a5::a6::a7::a8::a9::a10::a11::a12::some v::σ) H:=rfl
theorem b4r {v:V}{σ:St}{H:Hp}{Q:VK}{a0 a1 a2 a3 a4 a5 a6 a7 a8 a9 a10 a11 a12 a13:Option V}:W7 14 (a0::a1::a2::a3::a4::a5::a6::a7::a8::a9::a10::a11::a12::a13::some v::σ) H Q=Q v H:=propext ⟨λ⟨_,e,q⟩=>by cases e;exact q,λq=>⟨_,rfl,q⟩⟩
theorem b4P {v:V}{σ:St}{H:Hp}{Q:St->Hp->Prop}{b:Option V}{a0 a1 a2 a3 a4 a5 a6 a7 a8 a9 a10 a11 a12 a13:Option V}:Q3 14 v (a0::a1::a2::a3::a4::a5::a6::a7::a8::a9::a10::a11::a12::a13::b::σ) H Q=Q (a0::a1::a2::a3::a4::a5::a6::a7::a8::a9::a10::a11::a12::a13::some v::σ) H:=rfl
theorem b4q {v:V}{σ:St}{H:Hp}{Q:VK}{a0 a1 a2 a3 a4 a5 a6 a7 a8 a9 a10 a11 a12 a13 a14:Option V}:W7 15 (a0::a1::a2::a3::a4::a5::a6::a7::a8::a9::a10::a11::a12::a13::a14::some v::σ) H Q=Q v H:=propext ⟨λ⟨_,e,q⟩=>by cases e;exact q,λq=>⟨_,rfl,q⟩⟩
theorem b4O {v:V}{σ:St}{H:Hp}{Q:St->Hp->Prop}{b:Option V}{a0 a1 a2 a3 a4 a5 a6 a7 a8 a9 a10 a11 a12 a13 a14:Option V}:Q3 15 v (a0::a1::a2::a3::a4::a5::a6::a7::a8::a9::a10::a11::a12::a13::a14::b::σ) H Q=Q (a0::a1::a2::a3::a4::a5::a6::a7::a8::a9::a10::a11::a12::a13::a14::some v::σ) H:=rfl
theorem b4H {g:Int->Int->V}{i j:Int}{H:Hp}{Q:VK}:rI0 g (.int i) (.int j) H Q=Q (g i j) H:=propext ⟨λ⟨_,_,e,e',q⟩=>by cases e;cases e';exact q,λq=>⟨_,_,rfl,rfl,q⟩⟩
theorem rIi {C:Int->Int->Prop}{g:Int->Int->V}{i j:Int}{H:Hp}{Q:VK}:rI C g (.int i) (.int j) H Q=(C i j/\Q (g i j) H):=propext ⟨λ⟨_,_,e,e',q⟩=>by cases e;cases e';exact q,λq=>⟨_,_,rfl,rfl,q⟩⟩
theorem b3R {K:ah}{p:il}{i:Int}{H:Hp}{Q:VK}:a9O K (.ref p) (.int i) H Q=∃ xs,SqL K H p xs/\∃ v,atI xs i=some v/\Q v H:=propext ⟨λ⟨_,_,_,_,e,e',a,b,q⟩=>by cases e;cases e';exact⟨_,a,_,b,q⟩,λ⟨_,a,_,b,q⟩=>⟨_,_,_,_,rfl,rfl,a,b,q⟩⟩
theorem b3Q {K:ah}{p:il}{i:Int}{H:Hp}{Q:VK}:a9N K (.ref p) (.int i) H Q=∃ xs,SqT K H p xs/\∃ v,atI xs i=some v/\Q v H:=propext ⟨λ⟨_,_,_,_,e,e',a,b,q⟩=>by cases e;cases e';exact⟨_,a,_,b,q⟩,λ⟨_,a,_,b,q⟩=>⟨_,_,_,_,rfl,rfl,a,b,q⟩⟩
theorem exB {b:Bool}{P:Bool->Prop}:(∃ k,V.bl b=V.bl k/\P k)=P b:=propext ⟨λ⟨_,e,q⟩=>by cases e;exact q,λq=>⟨_,rfl,q⟩⟩
theorem exI {b:Int}{P:Int->Prop}:(∃ k,V.int b=V.int k/\P k)=P b:=propext ⟨λ⟨_,e,q⟩=>by cases e;exact q,λq=>⟨_,rfl,q⟩⟩
theorem exR {b:il}{P:il->Prop}:(∃ k,V.ref b=V.ref k/\P k)=P b:=propext ⟨λ⟨_,e,q⟩=>by cases e;exact q,λq=>⟨_,rfl,q⟩⟩
theorem b4I {i j:Int}{H:Hp}{Q:VK}:rEq (.int i) (.int j) H Q=Q (.bl (decide (i=j))) H:=by
 unfold rEq;have e:decide (V.int i=V.int j)=decide (i=j):=by simp
 rw[e];simp[a8h]
theorem b4G {i j:Int}{H:Hp}{Q:VK}:rNe (.int i) (.int j) H Q=Q (.bl (!decide (i=j))) H:=by
 unfold rNe;have e:decide (V.int i=V.int j)=decide (i=j):=by simp
 rw[e];simp[a8h]
theorem b4k {K:ah}{p:il}{H:Hp}{Q:VK}:b2X K [.ref p] H Q=∃ ys,(SqL K H p ys\/SqT K H p ys)/\Q (.int ys.length) H:=propext ⟨λ⟨_,ys,e,a,q⟩=>by cases e;exact⟨ys,a,q⟩,λ⟨ys,a,q⟩=>⟨_,ys,rfl,a,q⟩⟩
theorem al0 {α:Type}{P:List α->Prop}(h:P [])(us:List α)(hl:us.length=0):P us:=by cases us with
 | nil=>exact h
 | cons a r=>cases hl
theorem al1 {α:Type}{P:List α->Prop}(h:∀ a0,P [a0])(us:List α)(hl:us.length=1):P us:=by cases us with
 | nil=>cases hl
 | cons a r=>exact al0 (P:=λr=>P (a::r)) (h a) r (fP hl)
theorem al2 {α:Type}{P:List α->Prop}(h:∀ a0 a1,P [a0,a1])(us:List α)(hl:us.length=2):P us:=by cases us with
 | nil=>cases hl
 | cons a r=>exact al1 (P:=λr=>P (a::r)) (h a) r (fP hl)
theorem al3 {α:Type}{P:List α->Prop}(h:∀ a0 a1 a2,P [a0,a1,a2])(us:List α)(hl:us.length=3):P us:=by cases us with
 | nil=>cases hl
 | cons a r=>exact al2 (P:=λr=>P (a::r)) (h a) r (fP hl)
theorem al4 {α:Type}{P:List α->Prop}(h:∀ a0 a1 a2 a3,P [a0,a1,a2,a3])(us:List α)(hl:us.length=4):P us:=by cases us with
 | nil=>cases hl
 | cons a r=>exact al3 (P:=λr=>P (a::r)) (h a) r (fP hl)
end L2
end
section
namespace L2
open PySem
theorem b3t {t u:TS}{D:U3}{σ:St}{H:Hp}:b1D t u D σ H=(t {D with nx:=u D} σ H):=rfl
theorem b3L {te:TE}{g:TG}{D:U3}{σ:St}{H:Hp}:a9D te g D σ H=(te σ H λx H1=>g x σ H1 D.nx):=rfl
theorem b4z {r:R2}{ta tb:TE}{σ:St}{H:Hp}{Q:VK}:tOp r ta tb σ H Q=(ta σ H λx H1=>tb σ H1 λy H2=>r x y H2 Q):=rfl
theorem tCA {v:V}{u0:St}{H:Hp}{Q:VK}:tC v u0 H Q=(Q v H):=rfl
theorem b3v {te:TE}{D:U3}{σ:St}{H:Hp}:b3w te D σ H=(te σ H D.rt):=rfl
theorem b1E {D:U3}{u0:St}{H:Hp}:b3u D u0 H=(D.rt .non H):=rfl
theorem b3H {c:TT}{t u:TS}{D:U3}{σ:St}{H:Hp}:b3I c t u D σ H=(c σ H λb H1=>if b=true then t D σ H1 else u D σ H1):=rfl
theorem b1C {t:TE}{σ:St}{H:Hp}{Q:Bool->Hp->Prop}:a7Z t σ H Q=(t σ H λx H'=>∃ k,x=.bl k/\Q k H'):=rfl
theorem tBA {t:TE}{σ:St}{H:Hp}{Q:Bool->Hp->Prop}:tB t σ H Q=(t σ H λx H1=>∃ c,x=.bl c/\Q c H1):=rfl
theorem b1I {D:U3}{σ:St}{H:Hp}:b1e D σ H=(D.nx σ H):=rfl
theorem b1L {te:TE}{D:U3}{σ:St}{H:Hp}:b1f te D σ H=(te σ H λ_ H1=>D.nx σ H1):=rfl
theorem b1O {sp:Sp}{dvs:List V}{E:XK}{t:TA}{σ:St}{H:Hp}{Q:VK}:a8e sp dvs E t σ H Q=(t σ H λvs H1=>sp (vs++dvs) H1 Q E):=rfl
theorem b1N {ta:TE}{tr:TA}{σ:St}{H:Hp}{Q:List V->Hp->Prop}:b1h ta tr σ H Q=(ta σ H λx H1=>tr σ H1 λxs H2=>Q (x::xs) H2):=rfl
theorem b3B {u0:St}{H:Hp}{Q:List V->Hp->Prop}:b3C u0 H Q=(Q [] H):=rfl
theorem b4D {r:List V->Hp->VK->Prop}{t:TA}{σ:St}{H:Hp}{Q:VK}:tCB r t σ H Q=(t σ H λvs H1=>r vs H1 Q):=rfl
theorem b4E {K:ah}{T:String}{r:V->List V->Hp->VK->Prop}{to:TE}{t:TA}{σ:St}{H:Hp}{Q:VK}:tBM K T r to t σ H Q=(to σ H λx H1=>tyV K T x H1/\t σ H1 λxs H2=>r x xs H2 Q):=rfl
theorem b3K {K:ah}{T:String}{r:V->List V->Hp->VK->Prop}{to:TE}{σ:St}{H:Hp}{Q:VK}:b1P K T r to σ H Q=(to σ H λx H1=>tyV K T x H1/\r x [] H1 Q):=rfl
theorem b3r {t:TA}{σ:St}{H:Hp}{Q:VK}:b3s t σ H Q=(t σ H λxs H1=>xs.length<=sizeLine/\∀ p,H1 p=none->Q (.ref p) (upd H1 p (.tup xs))):=rfl
theorem b3D {t:TA}{σ:St}{H:Hp}{Q:VK}:b3E t σ H Q=(t σ H λxs H1=>xs.length<=sizeLine/\∀ p,H1 p=none->Q (.ref p) (upd H1 p (.lst xs))):=rfl
theorem b3Y {K:ah}{n:Nat}{t:TGs}{v:V}{σ:St}{H:Hp}{Q:St->Hp->Prop}:b2Q K n t v σ H Q=(∃ a xs,v=.ref a/\SqT K H a xs/\xs.length=n/\t xs σ H Q):=rfl
theorem b2R {t:TG}{u:TGs}{vs:List V}{σ:St}{H:Hp}{Q:St->Hp->Prop}:b1u t u vs σ H Q=(∃ v r,vs=v::r/\t v σ H fun σ' H'=>u r σ' H' Q):=rfl
theorem b4b {vs:List V}{σ:St}{H:Hp}{Q:St->Hp->Prop}:b4c vs σ H Q=(vs=[]/\Q σ H):=rfl
theorem b3Z {to ti:TE}{t:b0X}{v:V}{σ:St}{H:Hp}{Q:St->Hp->Prop}:b4a to ti t v σ H Q=(to σ H λo H1=>ti σ H1 λi H2=>t o i v H2 λH3=>Q σ H3):=rfl
theorem b4x {r:V->Option Int->Option Int->Hp->VK->Prop}{te:TE}{tl th:TO}{σ:St}{H:Hp}{Q:VK}:tSl r te tl th σ H Q=(te σ H λx H1=>tl σ H1 λl H2=>th σ H2 λu H3=>r x l u H3 Q):=rfl
theorem a8a {u0:St}{H:Hp}{Q:Option Int->Hp->Prop}:a6e u0 H Q=(Q none H):=rfl
theorem b1F {t:TE}{σ:St}{H:Hp}{Q:Option Int->Hp->Prop}:b1b t σ H Q=(t σ H λx H1=>∃ i,x=.int i/\Q (some i) H1):=rfl
theorem b3M {t u:TT}{σ:St}{H:Hp}{Q:Bool->Hp->Prop}:b3N t u σ H Q=(t σ H λc H1=>if c=true then u σ H1 Q else Q false H1):=rfl
theorem b4y {t u:TT}{σ:St}{H:Hp}{Q:Bool->Hp->Prop}:tOr t u σ H Q=(t σ H λc H1=>if c=true then Q true H1 else u σ H1 Q):=rfl
theorem b3z {t:TT}{σ:St}{H:Hp}{Q:Bool->Hp->Prop}:b3A t σ H Q=(t σ H λc H1=>Q (!c) H1):=rfl
theorem b3J {ty td:TE}{σ:St}{H:Hp}{Q:VK}:b4B ty td σ H Q=(ty σ H λy H1=>td σ H1 λx H2=>∃ a o,x=.ref a/\a2H H2 a y o/\Q (.bl o.isSome) H2):=rfl
theorem a8b {ty td:TE}{σ:St}{H:Hp}{Q:VK}:a6f ty td σ H Q=(ty σ H λy H1=>td σ H1 λx H2=>∃ a o,x=.ref a/\a2H H2 a y o/\Q (.bl (!o.isSome)) H2):=rfl
theorem b1T {td ty tv:TE}{D:U3}{σ:St}{H:Hp}:b1j td ty tv D σ H=(tv σ H λv H1=>td σ H1 λx H2=>ty σ H2 λy H3=>∃ a H4,x=.ref a/\a4p H3 a y v H4/\D.nx σ H4):=rfl
theorem b2P {K:ah}{tl:TE}{σ:St}{H:Hp}{R:It->Hp->Prop}:a8X K tl σ H R=(tl σ H λx H1=>∃ a,x=.ref a/\(∃ xs,SqL K H1 a xs)/\R (Itl K a) H1):=rfl
theorem b3X {K:ah}{tl:TE}{σ:St}{H:Hp}{R:It->Hp->Prop}:b2M K tl σ H R=(tl σ H λx H1=>∃ a,x=.ref a/\(∃ xs,SqT K H1 a xs)/\R (Itt K a) H1):=rfl
theorem b2O {ta:TA}{σ:St}{H:Hp}{R:It->Hp->Prop}:b1s ta σ H R=(ta σ H λvs H1=>∃ j:Int,vs=[.int j]/\-(2 ^ 62)<=j/\j<2 ^ 62/\R (Itr 0 j.toNat) H1):=rfl
theorem b2N {ta:TA}{σ:St}{H:Hp}{R:It->Hp->Prop}:b1r ta σ H R=(ta σ H λvs H1=>∃ i j:Int,vs=[.int i,.int j]/\(-(2 ^ 62)<=i/\i<2 ^ 62/\-(2 ^ 62)<=j/\j<2 ^ 62)/\R (Itr i (j-i).toNat) H1):=rfl
theorem a9C {r r':R2}{ta tb tc:TE}{σ:St}{H:Hp}{Q:VK}:a8d r r' ta tb tc σ H Q=(ta σ H λx H1=>tb σ H1 λy H2=>r x y H2 λz H3=>∃ k,z=.bl k/\(if k=true then tc σ H3 λw' H4=>r' y w' H4 Q else Q (.bl false) H3)):=rfl
theorem b1Q {ta tb:TE}{σ:St}{H:Hp}{Q:VK}:b1i ta tb σ H Q=(ta σ H λx H1=>∃ c,x=.bl c/\if c=true then tb σ H1 Q else Q (.bl false) H1):=rfl
theorem b3x {ta tb:TE}{σ:St}{H:Hp}{Q:VK}:b3y ta tb σ H Q=(ta σ H λx H1=>∃ c,x=.bl c/\if c=true then Q (.bl true) H1 else tb σ H1 Q):=rfl
theorem b1G {ta:TE}{σ:St}{H:Hp}{Q:VK}:b1c ta σ H Q=(ta σ H λx H1=>∃ c,x=.bl c/\Q (.bl (!c)) H1):=rfl
theorem b4w {r:V->Hp->VK->Prop}{ta:TE}{σ:St}{H:Hp}{Q:VK}:tUn r ta σ H Q=(ta σ H λx H1=>r x H1 Q):=rfl
theorem b3p {u0:St}{H:Hp}{Q:Bool->Hp->Prop}:b3q u0 H Q=(Q true H):=rfl
theorem a9B {u0:St}{H:Hp}{Q:VK}:a8c u0 H Q=(∀ p,H p=none->Q (.ref p) (upd H p (.dK []))):=rfl
theorem a9A {u0:St}{H:Hp}{Q:VK}:b1M u0 H Q=(∀ p,H p=none->Q (.ref p) (upd H p (.dT []))):=rfl
theorem b3F {ta:TE}{σ:St}{H:Hp}{Q:VK}:b3G ta σ H Q=(ta σ H λx H1=>Q (.bl (decide (x=.non))) H1):=rfl
theorem b1H {ta:TE}{σ:St}{H:Hp}{Q:VK}:b1d ta σ H Q=(ta σ H λx H1=>Q (.bl (!decide (x=.non))) H1):=rfl
theorem b4A {own:List Str}{fr:List (Str×Nat)}{wi:TI}{g:TG}{tc:TT}{te:TE}{σ:St}{H:Hp}{Q:VK}:tLC own fr wi g tc te σ H Q=wi σ H λJ H1=>∀ p,H1 p=none->lcW g tc te p J (st0 own fr σ) (upd H1 p (.lst [])) λH2=>Q (.ref p) H2:=rfl
theorem b4C {t:Bool}{own:List Str}{fr:List (Str×Nat)}{wi:TI}{g:TG}{tc:TT}{te tv:TE}{σ:St}{H:Hp}{Q:VK}:tDC t own fr wi g tc te tv σ H Q=wi σ H λJ H1=>∀ p,H1 p=none->dcW g tc te tv p J (st0 own fr σ) (upd H1 p (b4j t)) λH2=>Q (.ref p) H2:=rfl
end L2
end
section
namespace L2
open PySem PySem.Spec PyProof.Rows
section
variable {K:ah}{H:Hp}{a b:Addr}{xs ys:List V}{lo hi:Option Int}{Q:VK}
theorem a9J (ha:H a=some (.lst xs))(q:∀ p H',H p=none->A9 H H'->H' p=some (.lst (Z8 xs lo hi))->Q (.ref p) H'):b1V K (.ref a) lo hi H Q :=
 ⟨a,xs,rfl,SqL.of ha,λp np=>q p _ np ((A9.refl H).upd np) A3⟩
theorem a0K (ha:H a=some (.lst xs))(hb:H b=some (.lst ys))(hz:xs.length+ys.length<=10000)(q:∀ p H',H p=none->A9 H H'->H' p=some (.lst (xs++ys))->Q (.ref p) H'):a8j (.ref a) (.ref b) H Q :=
 ⟨a,b,xs,ys,rfl,rfl,ha,hb,dv (C0 ∅),λp np=>q p _ np ((A9.refl H).upd np) A3⟩
end
end L2
end
section
namespace L2
open PySem PySem.Spec PyProof.Rows PySem.W
section
variable {X:Cx}{pins:List (Addr×Obj)}{σ:St}{H:Hp}{s:Shared}
theorem a2v.upd {C:Addr}{H':Hp}(f:a2v X pins H C)(hn:H' C=none):a2v X pins H' C:=⟨hn,f.loc,f.new,f.cel,f.pin⟩
end
end L2
end
section
namespace L2
open PySem PySem.Spec PyProof.Rows PySem.W
theorem M7.cat {H:Hp}{ps qs:List (Addr×List Int)}{ts us:⋯}(h:M7 H ps ts)(h':M7 H qs us):M7 H (ps++qs) (ts++us):=⟨λx hx=>(aj.mp hx).elim (h.to x) (h'.to x),by rw[ap,ap,h.eq,h'.eq]⟩
end L2
end
section
namespace L2
open PySem PySem.Spec PyProof.Rows
def lcG (g:TG)(tc:TT)(tm:St->Hp->(St->Hp->Prop)->Prop)(J:It)(τ0:St)(H0:Hp)(E:St->Hp->Prop):Prop :=
 ∃ W:Nat->Nat->St->Hp->Prop,(∃ m,W 0 m τ0 H0)/\∀ i m τ H,W i m τ H ->
  (J.stop i H/\E τ H)\/(J.go i H/\∃ N:St->Hp->Prop,(∀ τ' H',N τ' H'->∃ m',m'<m/\W (i+1) m' τ' H') /\
   ∀ x H',J.yld i H x H'->g x τ H' fun τ2 H2=>tc τ2 H2 λb H3=>if b=true then tm τ2 H3 N else N τ2 H3)
def a9z (te:TE)(p:Addr):St->Hp->(St->Hp->Prop)->Prop:=fun τ H N=>te τ H λv H4=>∃ ys,H4 p=some (.lst ys)/\ys.length<sizeLine/\N τ (upd H4 p (.lst (ys++[v])))
def a7X (wi:TI)(g:TG)(tc:TT)(te:TE)(p:Addr):St->Hp->(St->Hp->Prop)->Prop:=fun τ H N=>wi τ H λJ H1=>lcG g tc (a9z te p) J τ H1 N
def b1J (own:List Str)(fr:List (Str×Nat))(wi:TI)(g:TG)(tc:TT)(wi2:TI)(g2:TG)(tc2:TT)(te:TE):TE:=fun σ H Q =>
 wi σ H λJ H1=>∀ p,H1 p=none->lcG g tc (a7X wi2 g2 tc2 te p) J (st0 own fr σ) (upd H1 p (.lst [])) λ_ H2=>Q (.ref p) H2
def a6d (e:Expr)(d:Nat)(it acc:Value)(env:Env)(tg iter:Expr)(ifs:List Expr)(mm:Sem Fin):Sem Fin :=
 standAt iter.pos >>= λ_=>pyNext it >>= λr=>match r with
 | none=>pure (.done .next)
 | some v=>letOwnedTupleGo tg it v >>= λ_=>assign tg env v >>= λ_ =>
  (forIn ifs true λc r=>if r=true then do let ok <- isTrue c env (eval c env);pure (b8 ok) else pure (b8 r)) >>= λok=>if ok=true then mm else again (.compLoop e d it acc env)
theorem a5t {prog:Program}{w:World}{A:Around}{R:Result->Shared->Prop}{s:Shared}{elt tg iter:Expr}{ifs:List Expr}{gens:List Comprehension}{d:Nat}{scope:Scope}{pos:Pos}{it acc:Value}{env:Env}{mm:Sem Fin}
  (ht:compTurn (.ListComp elt gens scope pos) d it acc env=a6d (.ListComp elt gens scope pos) d it acc env tg iter ifs mm) (I:Nat->Shared->Prop)
  (turn:∀ n s,I n s->wpAny (model prog w) A (pyNext it) (λr ss=>match r with
   | none=>R (.ok .next) ss
   | some v=>wpAny (model prog w) A (letOwnedTupleGo tg it v) (λ_ ss=>wpAny (model prog w) A (assign tg env v) (λ_ sk =>
     wpAny (model prog w) A (forIn ifs true λc r=>if r=true then do let ok <- isTrue c env (eval c env);pure (b8 ok) else pure (b8 r)) (λok sw =>
      if ok=true then wpAny (model prog w) A mm (λf sv=>f=.again (.compLoop (.ListComp elt gens scope pos) d it acc env)/\∃ m,m<n/\I m sv) (λ_ _=>False) sw
      else ∃ m,m<n/\I m sw) (λ_ _=>False) sk) (λ_ _=>False) ss) (λ_ _=>False) ss) (λ_ _=>False) s)
  (n:Nat) (h:I n s):codeAny (model prog w) A (.compLoop (.ListComp elt gens scope pos) d it acc env) R s:=by
 refine codeAny_loop rfl I (λn s hI=>?_) n h;show wpAny _ A ((compTurn (.ListComp elt gens scope pos) d it acc env).onRaise (λx=>do noteFrame x env;theTreesLotGoes x)) _ _ s;refine wpAny_noted ?_;rw[ht];refine af (fD (af (cH (turn n s hI) (λr ss h₁=>?_) λ_ _ h'=>h'.elim)));cases r with
 | none=>exact ao h₁
 | some v =>
  refine af (cH h₁ (λ_ ss h₁=>?_) λ_ _ h'=>h'.elim);refine af (cH h₁ (λ_ sk h₂=>af (cH h₂ (λok sw h₃=>?_) λ_ _ h'=>h'.elim)) λ_ _ h'=>h'.elim);cases ok with
  | false=>exact ao ⟨rfl,h₃⟩
  | true=>exact cH h₃ (λf sv h₅=>by obtain⟨rfl,h₅⟩:=h₅;exact⟨rfl,h₅⟩) λ_ _ h'=>h'.elim
theorem a2q {X:Cx}{P:Program}{w:World}{K:ah}{elt tg iter:Expr}{ifs:List Expr}{gens:List Comprehension}{d:Nat}{scope:Scope}{pos:Pos}{acc:Value}{mm:Sem Fin}{g:TG}{tc:TT}{tm:St->Hp->(St->Hp->Prop)->Prop}
  {pins:List (Addr×Obj)} {τ0:St} {H0:Hp} {s:Shared} {it:Addr} {fp:List Addr} {tn:Nat->Heap->Prop} {J:It} {E:St->Hp->Prop} {R:Result->Shared->Prop}
  (hc:X.calm=true) (hx:X.xe=λ_ _=>False) (eP:X.prog=P) (eW:X.w=w) (eK:X.K=K) (T:a2G P w K tg J fp it tn) (bg:PG X tg g) (bt:PTs X ifs tc)
  (bm:∀(pins:List (Addr×Obj)) (s:Shared) (τ:St) (H:Hp) (N:St->Hp->Prop),Inv X pins τ H s->tm τ H N->wpAny (model X.prog X.w) X.A mm (λf s'=>f=.again (.compLoop (.ListComp elt gens scope pos) d (.ref it) acc X.env)/\∃ τ' H',Inv X pins τ' H' s'/\N τ' H') (λ_ _=>False) s)
  (ht:compTurn (.ListComp elt gens scope pos) d (.ref it) acc X.env=a6d (.ListComp elt gens scope pos) d (.ref it) acc X.env tg iter ifs mm)
  (I:Inv X pins τ0 H0 s) (st:tn 0 s.heap) (ff:∀ b∈fp,W6 X pins H0 b) (hw:lcG g tc tm J τ0 H0 E) (hR:∀ τ H s',Inv X pins τ H s'->E τ H->R (.ok .next) s') :
  codeAny (model P w) X.A (.compLoop (.ListComp elt gens scope pos) d (.ref it) acc X.env) R s:=by
 subst eP eW eK;obtain⟨W,⟨m0,w0⟩,turn⟩:=hw;have stat:∀ {H':Hp},(∀ b∈fp,H' b=none)->∀ b∈fp,W6 X pins H' b:=λhn b hb=>⟨hn b hb,(ff b hb).2⟩
 refine a5t ht (λn s'=>∃ i τ H',Inv X pins τ H' s'/\tn i s'.heap/\(∀ b∈fp,H' b=none)/\W i n τ H') ?_ m0 ⟨0,_,_,I,st,λb hb=>(ff b hb).1,w0⟩;rintro n s5 ⟨i,τ5,H5,I5,t5,fr5,w5⟩;rcases turn i n τ5 H5 w5 with ⟨stop,qn⟩ | ⟨go,N,hN,step⟩
 ·refine thn (T.done X rfl rfl rfl hc i pins s5 τ5 H5 (λ_ _=>False) I5 (stat fr5) t5 stop) λr s6 ⟨hr,I6⟩=>?_
  subst hr;exact hR _ _ _ I6 qn
 ·refine thn (T.item X rfl rfl rfl hc i pins s5 τ5 H5 (λ_ _=>False) I5 (stat fr5) t5 go) λr s6 ⟨u,hr,h6⟩=>?_
  subst hr;refine thn h6 λ_ s7 ⟨x,H7,I7,r7,y7,t7,fr7⟩=>?_
  have I7':=I7.pinned (stat fr7) (T.obj _ _ t7);have again:∀ {τ:St} {H':Hp} {s':Shared},Inv X (pins++a0Z fp s7.heap) τ H' s'->N τ H'->∃ m,m<n/\∃ i τ H',Inv X pins τ H' s'/\tn i s'.heap/\(∀ b∈fp,H' b=none)/\W i m τ H':=λ{τ H' s'} I8 n8=>by
   obtain⟨m',hm,w8⟩:=hN τ H' n8;refine⟨m',hm,i+1,τ,H',I8.unpinned,T.keep _ _ _ t7 λb hb o e=>(I8.pin (b,o) (aN _ (aN _ (R7 hb e)))).1,λb hb=>?_,w8⟩;obtain⟨o,e,d⟩:=T.obj _ _ t7 b hb;exact (I8.pin (b,o) (aN _ (aN _ (R7 hb e)))).2.1
  have hg:=bg _ s7 τ5 H7 x u _ I7' r7 (step x H7 y7);rw[hx] at hg;refine thn hg λ_ s8 ⟨τ8,H8,I8,q8⟩=>?_
  have hb:=bt _ s8 τ8 H8 _ I8 q8;rw[hx] at hb;refine thn hb λok s9 ⟨H9,I9,q9⟩=>?_
  cases ok with
  | false=>exact again I9 q9
  | true =>
   rw[if_pos rfl] at q9 ⊢;exact thn (bm _ s9 τ8 H9 _ I9 q9) λ_ s10 ⟨e10,_,_,I10,n10⟩=>⟨e10,again I10 n10⟩
theorem b0M {X:Cx}{elt:Expr}{c:Code}{te:TE}{p:Addr}(hx:X.xe=λ_ _=>False)(be:PE X elt te)(pins:List (Addr×Obj))(s:Shared)(τ:St)(H:Hp)(N:St->Hp->Prop)(I:Inv X pins τ H s)(h:a9z te p τ H N) :
  wpAny (model X.prog X.w) X.A ((do let _ <- call (.builtin "list.append") [.ref p,<- eval elt X.env]) >>= λ_=>again c) (λf s'=>f=.again c/\∃ τ' H',Inv X pins τ' H' s'/\N τ' H') (λ_ _=>False) s:=by
 have hv:=be _ s τ H _ I h;rw[hx] at hv;refine af (af (thn hv λy s10 ⟨v,H10,I10,r10,ys,hl,hlen,n10⟩=>?_));have ha:=a1e (X:=X) _ s10 τ H10 (.ref p) [v] (.ref p) [y] (λ_ H'=>N τ H') I10 rfl (.cons r10 .nil) ⟨_,_,_,rfl,rfl,hl,hlen,n10⟩;rw[hx] at ha;exact af (thn ha λ_ s11 ⟨_,H11,I11,_,n11⟩=>ao (ao ⟨rfl,_,_,I11,n11⟩))
theorem a0q {prog:Program}{w:World}{A:Around}{R:Result->Shared->Prop}{s:Shared}{elt t1 i1 t2 i2:Expr}{f1 f2:List Expr}{scope:Scope}{pos:Pos}{it acc:Value}{env:Env}
  (h0:codeAny (model prog w) A (.compLoop (.ListComp elt [⟨t1,i1,f1,0⟩,⟨t2,i2,f2,0⟩] scope pos) 1 it acc env) R s)
  (h:wpAny (model prog w) A (pyIter it) (λit' s'=>codeAny (model prog w) A (.compLoop (.ListComp elt [⟨t1,i1,f1,0⟩,⟨t2,i2,f2,0⟩] scope pos) 1 it' acc env) R s')
   (notedBy (model prog w) A env λx s'=>R (.error x) s') s) :
  codeAny (model prog w) A (.compStart (.ListComp elt [⟨t1,i1,f1,0⟩,⟨t2,i2,f2,0⟩] scope pos) 1 it acc env) R s:=by
 refine codeAny_of_tree ?_;show wpAny _ _ ((compStart (.ListComp elt [⟨t1,i1,f1,0⟩,⟨t2,i2,f2,0⟩] scope pos) 1 it acc env).onRaise (λx=>do noteFrame x env;standAt theWindowsPlace)) _ _ s;refine wpAny_notedAt ?_;unfold compStart;show wpAny _ _ (ask >>= _) _ _ s;refine af (fi (wpAny_ite ?_));split
 ·first
   | exact af (ao (ao (jO rfl h0)))
   | exact ao (jO rfl h0)
 ·first
   | exact af (iY (af (fD (af (cH h (λit' s' h'=>ao (jO rfl h')) λ_ _ x=>x)))))
   | (refine af (iY ?_);show wpAny _ _ (standAt i2.pos >>= _) _ _ s;exact af (fD (af (cH h (λit' s' h'=>ao (jO rfl h')) λ_ _ x=>x))))
def a5R (e:Expr)(it acc:Value)(env:Env)(i2:Expr):Sem Fin :=
 eval i2 env >>= λx=>standAt i2.pos >>= λ_=>foldedSetIterable i2 env x >>= λx=>holding [x] (pyIter x) >>= λi=>runOwn (.compStart e 1 i acc env) env >>= λ_=>again (.compLoop e 0 it acc env)
theorem b3o (elt t1 i1 t2 i2:Expr)(f1 f2:List Expr)(scope:Scope)(pos:Pos)(it acc:Value)(env:Env) :
  compTurn (.ListComp elt [⟨t1,i1,f1,0⟩,⟨t2,i2,f2,0⟩] scope pos) 0 it acc env=a6d (.ListComp elt [⟨t1,i1,f1,0⟩,⟨t2,i2,f2,0⟩] scope pos) 0 it acc env t1 i1 f1 (a5R (.ListComp elt [⟨t1,i1,f1,0⟩,⟨t2,i2,f2,0⟩] scope pos) it acc env i2):=by rfl
theorem b3n (elt t1 i1 t2 i2:Expr)(f1 f2:List Expr)(scope:Scope)(pos:Pos)(it acc:Value)(env:Env) :
  compTurn (.ListComp elt [⟨t1,i1,f1,0⟩,⟨t2,i2,f2,0⟩] scope pos) 1 it acc env=a6d (.ListComp elt [⟨t1,i1,f1,0⟩,⟨t2,i2,f2,0⟩] scope pos) 1 it acc env t2 i2 f2 ((do let _ <- call (.builtin "list.append") [acc,<- eval elt env]) >>= λ_=>again (.compLoop (.ListComp elt [⟨t1,i1,f1,0⟩,⟨t2,i2,f2,0⟩] scope pos) 1 it acc env)):=by rfl
theorem a8W {X:Cx}{elt t1 i1 t2 i2:Expr}{f1 f2:List Expr}{scope:Scope}{pos:Pos}{wi2:TI}{g2:TG}{tc2:TT}{te:TE}{p:Addr}{it:Value}(hc:X.calm=true)(hx:X.xe=λ_ _=>False)
  (hi:PI X t2 i2 wi2) (bg:PG X t2 g2) (bt:PTs X f2 tc2) (be:PE X elt te) (hs:∀ x,foldedSetIterable i2 X.env x=pure x)
  (pins:List (Addr×Obj)) (s:Shared) (τ:St) (H:Hp) (N:St->Hp->Prop) (I:Inv X pins τ H s) (h:a7X wi2 g2 tc2 te p τ H N) :
  wpAny (model X.prog X.w) X.A (a5R (.ListComp elt [⟨t1,i1,f1,0⟩,⟨t2,i2,f2,0⟩] scope pos) it (.ref p) X.env i2) (λf s'=>f=.again (.compLoop (.ListComp elt [⟨t1,i1,f1,0⟩,⟨t2,i2,f2,0⟩] scope pos) 0 it (.ref p) X.env)/\∃ τ' H',Inv X pins τ' H' s'/\N τ' H') (λ_ _=>False) s:=by
 have hv:=hi _ s τ H _ I h;rw[hx] at hv;unfold a5R;refine af (thn hv λv s1 h1=>af (fD ?_));rw[hs];refine af (ao (af (cK (thn h1 λitv s2 h2=>?_))));obtain⟨it,fp,tn,J,H2,e,I2,T,st2,f2,hw⟩:=h2;subst e;have loop:=a2q (R:=λr s'=>match r with | .ok f=>(∃ τ' H',Inv X pins τ' H' s'/\N τ' H') | .error e=>cameBackBy (model X.prog X.w) X.A X.env (λ_ _=>False) e s') hc hx rfl rfl rfl T bg bt (b0M hx be) (b3n elt t1 i1 t2 i2 f1 _ scope pos (.ref it) (.ref p) X.env) I2 st2 f2 hw fun τ' H' s' I' n'=>⟨τ',H',I',n'⟩
 exact af (wpAny_runOwn (codeAny_mono (a0q loop (T.self X.A 0 _ _ _ st2 loop)) λr s' hr=>by
  cases r with
  | ok f=>exact ao ⟨rfl,hr⟩
  | error e=>exact hr))
section
variable {X:Cx}{elt t1 i1 t2 i2:Expr}{f1 f2:List Expr}{scope:Scope}{pos:Pos}{own:List Str}{fr:List (Str×Nat)}{wi:TI}{g:TG}{tc:TT}{wi2:TI}{g2:TG}{tc2:TT}{te:TE}
structure b4o (X:Cx)(scope:Scope)(N':List Str)(t1:Expr)(f1:List Expr)(t2 i2:Expr)(f2:List Expr)(elt:Expr)(g:TG)(tc:TT)(wi2:TI)(g2:TG)(tc2:TT)(te:TE):Prop where
 run:∀ pins fp s H,PG (cxC X scope N' pins fp s H) t1 g/\PTs (cxC X scope N' pins fp s H) f1 tc/\PI (cxC X scope N' pins fp s H) t2 i2 wi2/\PG (cxC X scope N' pins fp s H) t2 g2/\PTs (cxC X scope N' pins fp s H) f2 tc2/\PE (cxC X scope N' pins fp s H) elt te
theorem a5M {pins:List (Addr×Obj)}{σ:St}{H2:Hp}{s2:Shared}{it:Addr}{fp:List Addr}{tn:Nat->Heap->Prop}{J:It}{EE:Hp->Prop}{RR:Value->Addr->Result->Shared->Prop}{E:Value->Shared->Prop}
  (hcalm:X.calm=true) (hc:a2u scope X.env.scope) (hfr:a4c X scope fr) (B:b4o X scope (own++fr.map (·.1)) t1 f1 t2 i2 f2 elt g tc wi2 g2 tc2 te) (hs2:∀ env x,foldedSetIterable i2 env x=pure x)
  (I2:Inv X pins σ H2 s2) (T:a2G X.prog X.w X.K t1 J fp it tn) (st2:tn 0 s2.heap) (f2':∀ b∈fp,W6 X pins H2 b)
  (hw:lcG g tc (a7X wi2 g2 tc2 te s2.heap.objs.size) J (st0 own fr σ) (upd H2 s2.heap.objs.size (.lst [])) λ_ H'=>EE H')
  (hRR:∀ C H' s' m,EE H'->s'.heap.Ns C m->Inv X pins σ H' s'->a2v X pins H' C->RR (.ref s2.heap.objs.size) C (.ok .next) s') :
  wpAny (model X.prog X.w) X.A (newList []) (λacc sw=>wpAny (model X.prog X.w) X.A (newFunctionEnv scope X.env.globals (clo X.env scope.names []) [] X.env.qual none .none (some X.env)) (λcenv sq =>
   codeAny (model X.prog X.w) X.A (.compStart (.ListComp elt [⟨t1,i1,f1,0⟩,⟨t2,i2,f2,0⟩] scope pos) 0 (.ref it) acc {cenv with scope:=relabel scope X.env}) (RR acc cenv.locals) sq) E sw) E s2:=by
 have I3:Inv X pins σ (upd H2 s2.heap.objs.size (.lst [])) {s2 with heap:=s2.heap.push {cls:=.type "list",data:=.seq ([]:List Value).toArray},toks:=s2.toks}:=I2.lnew (ys:=[]) (its:=[]) (t':=s2.toks) .nil (bo _);generalize hs3:({s2 with heap:=s2.heap.push {cls:=.type "list",data:=.seq ([]:List Value).toArray},toks:=s2.toks}:Shared)=s3 at I3;have hsz3:s3.heap.objs.size=s2.heap.objs.size+1:=by rw[<- hs3];exact cV ..
 have k3:∀ b o,s2.heap.get? b=some o->s3.heap.get? b=some o:=λb o e=>by rw[<- hs3];exact am _ e
 have hlt:∀ b∈fp,b<s2.heap.objs.size:=λb hb=>let ⟨o,e,_⟩:=T.obj _ _ st2 b hb;aE e
 have f3:∀ b∈fp,W6 X pins (upd H2 s2.heap.objs.size (.lst [])) b:=λb hb=>⟨by rw[B3 (aU (hlt b hb))];exact (f2' b hb).1,(f2' b hb).2⟩
 have st3:tn 0 s3.heap:=T.keep _ _ _ st2 λb _ o e=>k3 b o e
 refine bZ ?_;have e3:({s2 with heap:=s2.heap.push {cls:=.type "list",dict:=none,data:=.seq ([]:List Value).toArray}}:Shared)=s3:=hs3;rw[e3];refine kf hc.noCell (by intro y hy;cases hy) (λh₁ hnsz hsbz=>?_) hc.kind;have k4:∀ b o,s3.heap.get? b=some o->h₁.get? b=some o:=λb o e=>hsbz.extBut b o (aU (aE e)) (am _ e)
 have I4:=a5k (own:=own) I3 hc hcalm f3 (λb hb=>bB (hlt b hb) (by rw[hsz3];exact fW _)) hfr hnsz k4;obtain⟨bg,bt,bi,bg2,bt2,be⟩:=B.run pins fp s3 (upd H2 s2.heap.objs.size (.lst []));generalize hX':cxC X scope (own++fr.map (·.1)) pins fp s3 (upd H2 s2.heap.objs.size (.lst []))=X' at I4 bg bt bi bg2 bt2 be;have eP:X'.prog=X.prog:=by rw[<- hX'];rfl
 have eW:X'.w=X.w:=by rw[<- hX'];rfl
 have eK:X'.K=X.K:=by rw[<- hX'];rfl
 have eA:X'.A=X.A:=by rw[<- hX'];rfl
 have eC:X'.calm=true:=by rw[<- hX'];rfl
 have eX:X'.xe=λ_ _=>False:=by rw[<- hX'];rfl
 have eE:X'.env=compEnvC scope (clo X.env scope.names []) s3.heap.objs.size X.env:=by rw[<- hX'];rfl
 have fC:∀ {H':Hp},(∀ b∈fp,H' b=none)->∀ b∈fp,W6 X' [] H' b:=λhn b hb=>by
  have hb':=f3 b hb;refine⟨hn b hb,?_,?_,?_,?_,?_⟩
  ·exact (I4.ok.exf b (by rw[<- hX'];exact hb)).1
  ·exact I4.ok.exfs b (by rw[<- hX'];exact hb)
  ·left;rw[<- hX'];exact hb
  ·exact (I4.ok.exf b (by rw[<- hX'];exact hb)).2
  ·intro p hp;have hp:p∈X.pn++pins:=by
    rw[<- hX'] at hp;rcases aj.mp hp with q | q
    ·exact q
    ·cases q
   exact hb'.2.2.2.2.2 p hp
 have cenvE:({(newEnv scope s3.heap.objs.size X.env.globals (clo X.env scope.names []) X.env.qual none .none (some X.env) builtinsNs) with scope:=relabel scope X.env}:Env)=X'.env:=by rw[eE];rfl
 have loop:∀ s4:Shared,Inv X' [] (st0 own fr σ) (upd H2 s2.heap.objs.size (.lst [])) s4->tn 0 s4.heap ->
   codeAny (model X.prog X.w) X.A (.compLoop (.ListComp elt [⟨t1,i1,f1,0⟩,⟨t2,i2,f2,0⟩] scope pos) 0 (.ref it) (.ref s2.heap.objs.size) X'.env) (RR (.ref s2.heap.objs.size) s3.heap.objs.size) s4:=by
  intro s4 J4 t4;rw[<- eA];refine a2q eC eX eP eW eK T bg bt (a8W eC eX bi bg2 bt2 be λx=>hs2 _ x) (b3o ..) J4 t4 (fC λb hb=>(f3 b hb).1) hw fun τ H5 s6 I6 qn=>?_
  have hbase:Un (frs X.stack) fp (upd H2 s2.heap.objs.size (.lst [])) H5 s3.heap s6.heap:=by have:=I6.base;rw[<- hX'] at this;exact this
  have hok6:HOk X.prog X.w H5 s6.heap:=by have:=I6.hok;rw[eP,eW] at this;exact this
  have os6:s6.os=s3.os:=by have:=I6.os;rw[<- hX'] at this;exact this
  obtain⟨m6,n6,_⟩:=I6.loc;have n6:s6.heap.Ns s3.heap.objs.size m6:=by rw[eE] at n6;exact n6
  have free6:H5 s3.heap.objs.size=none:=by have:=I6.free;rw[eE] at this;exact this
  refine hRR s3.heap.objs.size H5 s6 m6 qn n6 (I3.call' os6 hbase hok6 I6.bare λb hb=>⟨(f3 b hb).2.2.2.1,(f3 b hb).2.1,(f3 b hb).2.2.2.2.1,(f3 b hb).2.2.2.2.2⟩) ⟨free6,?_,I3.sz,?_,?_⟩
  ·exact (aU I3.lt).symm
  ·intro x c e z;obtain⟨v,hv⟩:=I3.cell x c e;have:=hv.lt;rw[z] at this;exact dr _ this
  ·intro p hp z;have:=aE (I3.pin p hp).1;rw[z] at this;exact dr _ this
 have st4:tn 0 h₁:=T.keep _ _ _ st3 λb _ o e=>k4 b o e
 show codeAny (model X.prog X.w) X.A (.compStart (.ListComp elt [⟨t1,i1,f1,0⟩,⟨t2,i2,f2,0⟩] scope pos) 0 (.ref it) (.ref s2.heap.objs.size) ({(newEnv scope s3.heap.objs.size X.env.globals (clo X.env scope.names []) X.env.qual none .none (some X.env) builtinsNs) with scope:=relabel scope X.env}:Env)) (RR (.ref s2.heap.objs.size) s3.heap.objs.size) _;rw[cenvE];exact codeAny_compStart_list (loop _ I4 st4) (T.self X.A 0 _ _ _ st4 (loop _ I4 st4))
theorem a3f (hcalm:X.calm=true)(hc:a2p scope X.env.scope=true)(hfr:a4c X scope fr)(hi:PI X t1 i1 wi)(B:b4o X scope (own++fr.map (·.1)) t1 f1 t2 i2 f2 elt g tc wi2 g2 tc2 te)
  (hs:∀ x,foldedSetIterable i1 X.env x=pure x:=by intro _;rfl) (hs2:∀ env x,foldedSetIterable i2 env x=pure x:=by intro _ _;rfl) :
  PE X (.ListComp elt [⟨t1,i1,f1,0⟩,⟨t2,i2,f2,0⟩] scope pos) (b1J own fr wi g tc wi2 g2 tc2 te):=by
 intro pins s σ H Q I h;have hc:=a1i hc;rw[eval_ListComp];refine gD (use:=none) rfl hs (a5U I hc) hc.kind hc.loc (thn (hi pins s σ H _ I h) λv s1 h1=>thn h1 λitv s2 h2=>?_);obtain⟨it,fp,tn,J,H2,e,I2,T,st2,f2,hw⟩:=h2;subst e;refine a5M (RR:=λacc C=>compPost (model X.prog X.w) X.A X.xe none (EP X pins σ Q) acc C) hcalm hc hfr B hs2 I2 T st2 f2 (hw _ I2.fresh) ?_;intro C H' s' m q n I' f;exact⟨m,n,λh' hs'=>⟨.ref s2.heap.objs.size,H',f.inv I' hs',rfl,q⟩⟩
end
end L2
end
section
namespace L2
open PySem PySem.Spec PyProof.Rows
theorem a1H {K:ah}{a:Addr}{xs:List V}{g:TG}{tc:TT}{tm:St->Hp->(St->Hp->Prop)->Prop}{τ0:St}{H0:Hp}{E:St->Hp->Prop}(Pv:Nat->St->Hp->Prop)(h0:Pv 0 τ0 H0)(hl:∀ i τ H,i<=xs.length->Pv i τ H->SqL K H a xs)
  (hs:∀ i x τ H,xs[i]?=some x->Pv i τ H->g x τ H fun τ2 H2=>tc τ2 H2 λb H3=>if b=true then tm τ2 H3 (Pv (i+1)) else Pv (i+1) τ2 H3)
  (hd:∀ τ H,Pv xs.length τ H->E τ H):lcG g tc tm (Itl K a) τ0 H0 E:=by
 refine⟨λi m τ H=>m=xs.length-i/\i<=xs.length/\Pv i τ H,⟨_,rfl,bo _,h0⟩,?_⟩;rintro i m τ H ⟨rfl,hi,hp⟩;have hq:=hl i τ H hi hp;rcases cv i xs.length with h | h
 ·have hx:xs[i]?=some xs[i]:=au h;refine .inr ⟨⟨xs,_,hq,hx⟩,Pv (i+1),fun τ' H' z=>⟨_,∅,rfl,h,z⟩,?_⟩;rintro x H' ⟨rfl,hy⟩;have e:x=xs[i]:=by have:=hy xs hq;rw[hx] at this;exact (aP this).symm
  subst e;exact hs i _ τ H' hx hp
 ·have e:i=xs.length:=∅
  subst e;exact .inl ⟨⟨xs,hq,aC _⟩,hd τ H hp⟩
def LPs (H:Hp)(l:Addr)(T:⋯):Prop:=∃ ps:List (Addr×List Int),H l=some (.lst (ps.map λx=>V.ref x.1))/\M7 H ps T
theorem LPs.nil {H:Hp}{l:Addr}:LPs (upd H l (.lst [])) l []:=⟨[],A3,⟨λx hx=>(by cases hx),rfl⟩⟩
theorem LPs.nw {H:Hp}{l p:Addr}{o:HO}{T:⋯}(h:LPs H l T)(np:H p=none):LPs (upd H p o) l T:=by
 obtain⟨ps,a,b⟩:=h;exact⟨ps,P8 a np,b.tp (Tp.nw np)⟩
theorem LPs.same {H H':Hp}{l:Addr}{T:⋯}(h:LPs H l T)(s:A9 H H'):LPs H' l T:=by
 obtain⟨ps,a,b⟩:=h;exact⟨ps,s _ _ a,b.tp s.tp⟩
theorem LPs.more {H:Hp}{l p:Addr}{T:⋯}{t:Int×Int}{Q:List V->Prop}(h:LPs H l T)(hT:T.length<=100000)(np:H p=none)
  (q:∀ ys,upd H p (.tup [.int t.1,.int t.2]) l=some (.lst ys)->ys.length<sizeLine->LPs (upd (upd H p (.tup [.int t.1,.int t.2])) l (.lst (ys++[.ref p]))) l (T++[t])->Q ys):∃ ys,Q ys:=by
 obtain⟨ps,a,b⟩:=h;have hl:=b.len;refine⟨_,q _ (P8 a np) (by rw[ae];exact C0 ∅) ⟨ps++[(p,tl t)],by rw[A3,ap];rfl,?_⟩⟩;refine (b.tp ((Tp.nw np).trans (Tp.lst (P8 a np)))).snoc ?_;rw[B3 (E4 a np).symm,A3]
end L2
end
section
namespace L2
open PySem PySem.Spec PyProof.Rows
section
variable {X:Cx}{elts:List Expr}{k:Nat}{tpos apos cpos:Pos}{o:Expr}{to:TE}
theorem b0K {e:Expr}{es:List Expr}{t:TA}(K:ah)(ho:PE X o to)(ha:PA X (e::es) t)(h:X.K=K:=by rfl)
  (hbase:attributeBase o "extend" X.env (eval o X.env)=eval o X.env:=by rfl)
  (hfew:((backTo cpos (starEach (e::es) X.env)).all (λx=>!x.1) && (backToKw cpos (keywordEach [] X.env)).all (λx=>x.1.isSome)
   && decide ((e::es).length+([]:List Keyword).length+(if ([]:List Keyword).isEmpty then 0 else 1)<30))=true:=by rfl) (hst:starEach (e::es) X.env=(false,eval e X.env)::starEach es X.env:=by rfl) (hpl:(backTo cpos (starEach es X.env)).any (·.1)=false:=by rfl) (hline:(apos.endLine == cpos.line)=true:=by rfl) :
  PE X (.Call (.Attribute o "extend" apos) (e::es) [] cpos) (tBM K "list" a3O to t):=by
 subst h;exact a8r fb PySem.F.slot_list_extend PySem.F.type_list_extend a7o ho ha hbase hfew hline hst hpl
end
end L2
end
section
namespace L2
open PySem PySem.Spec PyProof.Rows
def a7L (K:ah)(a b:Addr):It :=
  ⟨λi H=>∃ xs ys x y,SqL K H a xs/\SqL K H b ys/\xs[i]?=some x/\ys[i]?=some y,
   λi H v H'=>∃ q x y,v=.ref q/\H q=none/\H'=upd H q (.tup [x,y])/\(∀ xs,SqL K H a xs->xs[i]?=some x)/\∀ ys,SqL K H b ys->ys[i]?=some y,
   λi H=>∃ xs ys,SqL K H a xs/\SqL K H b ys/\(xs.length<=i\/ys.length<=i)⟩
def b3e (z TI TO i1 i2 a b:Addr)(i:Nat)(h:Heap):Prop:=IsZip h z TI TO .none/\IsPair h TI (.ref i1) (.ref i2)/\(∃ u v,IsPair h TO u v)/\h.IsListIter i1 a i/\h.IsListIter i2 b i
theorem a6T {P:Program}{w:World}{K:ah}{elts:List Expr}{k:Nat}{pos:Pos}{z TI TO i1 i2 a b:Addr}(D:ZipApart z TI TO i1 i2 a b):a2G P w K (.Tuple elts k pos) (a7L K a b) [z,TI,TO,i1,i2] z (b3e z TI TO i1 i2 a b) where
 mem:=by simp
 obj:=λi h st c hc=>by
  obtain⟨hz,hTI,⟨u,v,hTO⟩,⟨o1,e1,c1,d1⟩,⟨o2,e2,c2,d2⟩⟩:=st;simp only[aJ,bJ,or_false] at hc;rcases hc with rfl | rfl | rfl | rfl | rfl
  ·exact⟨_,hz,λv e=>by
    have e':iN _=h9 v:=e
    cases e'⟩
  ·exact⟨_,hTI,λv e=>by
    have e':Data.seq _ _=h9 v:=e
    cases e'⟩
  ·exact⟨_,hTO,λv e=>by
    have e':Data.seq _ _=h9 v:=e
    cases e'⟩
  ·exact⟨o1,e1,λv e=>by rw[d1] at e;cases e⟩
  ·exact⟨o2,e2,λv e=>by rw[d2] at e;cases e⟩
 keep:=λi h h' st kp=>by
  obtain⟨hz,hTI,⟨u,v,hTO⟩,h1,h2⟩:=st;exact⟨kp z (by simp) _ hz,kp TI (by simp) _ hTI,⟨u,v,kp TO (by simp) _ hTO⟩,h1.at λo e=>kp i1 (by simp) o e,h2.at λo e=>kp i2 (by simp) o e⟩
 item:=by
  intro X hP hw hK hc i pins s σ H E I hf st hg;subst hP hw hK;obtain⟨xs,ys,x,y,qx,qy,hx,hy⟩:=hg;obtain⟨its,rv,p,_⟩:=I.list qx;obtain⟨jts,rw',p',_⟩:=I.list qy;obtain⟨u,hu,ru⟩:=rv.get hx;obtain⟨v,hv,rv'⟩:=rw'.get hy;obtain⟨hz,hTI,⟨c0,d0,hTO⟩,h1,h2⟩:=id st;have hlu:=(aq.mp hu).1;have hlv:=(aq.mp hv).1;have old:∀ c∈[z,TI,TO,i1,i2],c<s.heap.objs.size:=λc hc=>by
   simp only[aJ,bJ,or_false] at hc;rcases hc with rfl | rfl | rfl | rfl | rfl
   ·exact aE hz
   ·exact aE hTI
   ·exact aE hTO
   ·obtain⟨_,q,_⟩:=h1;exact aE q
   ·obtain⟨_,q,_⟩:=h2;exact aE q
  refine wpAny_pyNext_zip_item D hz hTI hTO h1 h2 p.isList p'.isList (x:=u) (y:=v) (~~~hu) (~~~hv) λg1 z1 t1 n1 n2 tp sz kp=>⟨_,rfl,?_⟩
  refine wpAny_letOwnedTupleGo_zip (s:={s with heap:=g1}) z1 λg2 z2 b2=>?_
  have b2':∀ c o,c≠z->g1.get? c=some o->g2.get? c=some o:=λc o hc q=>(b2.2 c hc).trans q
  have I1:Inv X pins σ (upd H s.heap.objs.size (.tup [x,y])) {s with heap:=s.heap.push {cls:=.type "tuple",data:=.seq #[u,v]}} :=
   I.laid (t':=s.toks) (o:=.tup [x,y]) (λb o q=>am _ q) (aC _) ⟨by simp[sizeLine_eq],[u,v],.cons ru (.cons rv' .nil),⟨_,aK _ rfl,rfl,_,rfl⟩⟩
  have hfr:∀ c∈[z,TI,TO,i1,i2],W6 X pins (upd H s.heap.objs.size (.tup [x,y])) c:=by
   intro c hc;obtain⟨f0,f⟩:=hf c hc;exact⟨by rw[B3 (aU (old c hc))];exact f0,f⟩
  have I2:Inv X pins σ (upd H s.heap.objs.size (.tup [x,y])) {s with heap:=g2}:=by
   refine T6 (t':=s.toks) (s:={s with heap:=s.heap.push {cls:=.type "tuple",data:=.seq #[u,v]}}) (L:=[z,TI,TO,i1,i2]) I1 (λc o hc q=>?_) hfr;simp only[aJ,bJ,or_false,not_or] at hc;refine b2' c o hc.1 ?_;by_cases hcT:c=s.heap.objs.size
   ·subst hcT;rw[show (s.heap.push {cls:=.type "tuple",data:=.seq #[u,v]}).get? s.heap.objs.size=some {cls:=.type "tuple",data:=.seq #[u,v]} from aK _ rfl] at q;cases q;exact tp
   ·have hlt:c<s.heap.objs.size+1:=by have:=aE q;rw[cV] at this;exact this
    have hlt2:c<s.heap.objs.size:=im (dL hlt) hcT;exact kp c o hc.1 hc.2.2.1 hc.2.2.2.1 hc.2.2.2.2 (by rw[<- q];exact (a1Z hlt2).symm)
  refine⟨.ref s.heap.objs.size,_,I2,rfl,⟨s.heap.objs.size,x,y,rfl,I.fresh,rfl,λzs h=>by rw[I.list_inj h qx];exact hx,λzs h=>by rw[I.list_inj h qy];exact hy⟩,⟨z2,b2' _ _ D.TIz (kp _ _ D.TIz D.TITO D.TIi1 D.TIi2 hTI),⟨_,_,b2' _ _ D.TOz t1⟩,n1.at λo q=>b2' _ o D.i1z q,n2.at λo q=>b2' _ o D.i2z q⟩,λc hc=>(hfr c hc).1⟩
 done:=by
  intro X hP hw hK hc i pins s σ H E I hf st hg;subst hP hw hK;obtain⟨xs,ys,qx,qy,hend⟩:=hg;obtain⟨its,rv,p,_⟩:=I.list qx;obtain⟨jts,rw',p',_⟩:=I.list qy;obtain⟨hz,hTI,⟨c0,d0,hTO⟩,h1,h2⟩:=id st;have l1:=rv.length;have l2:=rw'.length;refine wpAny_pyNext_zip_end (I.ok.hd hc) D hz hTI hTO h1 h2 p.isList p'.isList (by rw[iW,iW];simp;omega) λg kp=>⟨rfl,?_⟩
  refine T6 (t':=s.toks) (L:=[z,TI,TO,i1,i2]) I (λc o hc q=>?_) hf;simp only[aJ,bJ,or_false,not_or] at hc;exact kp c o hc.1 hc.2.2.1 hc.2.2.2.1 hc.2.2.2.2 q
 self:=λ_ _ _ _ _ st h=>wpAny_pyIter_zip st.1 h
section
variable {X:Cx}{K:ah}{elts:List Expr}{k:Nat}{tpos p pos:Pos}{l m:Expr}{t:TA}{y:Str}
def b1q (K:ah)(t:TA):TI:=fun σ H R=>t σ H λvs H1=>∃ a b,vs=[.ref a,.ref b]/\(∃ xs,SqL K H1 a xs)/\(∃ ys,SqL K H1 b ys)/\R (a7L K a b) H1
theorem a6q (hg:Gl X y)(hm:X.mg y=none)(hv:bootBuiltins y=some (.type "zip"))(ha:PA X [l,m] t)(hn:y≠"__name__":=by decide)(hdb:(y == ("__debug__":Str))=false:=by decide)
  (he:starEach [l,m] X.env=(false,eval l X.env)::starEach [m] X.env:=by rfl) (hpl:(backTo pos (starEach [m] X.env)).any (·.1)=false:=by rfl) (hK:X.K=K:=by rfl):PI X (.Tuple elts k tpos) (.Call (.Name y p) [l,m] [] pos) (b1q K t):=by
 subst hK;intro pins s σ H R I h;refine cG (S9 I hg hm hv ?_ hn hdb);refine bR (thn (ha pos pins s σ H _ I h) λus s1 ⟨vs,H1,I1,r1,a,b,e1,⟨xs,hq⟩,⟨ys,hq'⟩,q⟩=>?_) he hpl;subst e1;obtain⟨u,v,rfl,rx,ry⟩:=a6c r1;cases rx;cases ry;obtain⟨its,rv,pl,_⟩:=I1.list hq;obtain⟨jts,rw',pl',_⟩:=I1.list hq';have la:a<s1.heap.objs.size:=by obtain⟨_,e,_⟩:=pl.isList;exact aE e
 have lb:b<s1.heap.objs.size:=by obtain⟨_,e,_⟩:=pl'.isList;exact aE e
 refine call_zip_2 pl.isList pl'.isList λh' hz hTI hTO h1 h2 _ kp=>wpAny_pyIter_zip (s:={s1 with heap:=h'}) hz ?_
 have ne:∀ {i j:Nat},i≠j->s1.heap.objs.size+i≠s1.heap.objs.size+j:=λhij e=>hij (Nat.add_left_cancel e)
 have na:∀ {c:Addr} (i:Nat),c<s1.heap.objs.size->c≠s1.heap.objs.size+i:=λi hc=>aU (bB hc (gB _ _))
 have D:ZipApart (s1.heap.objs.size+4) (s1.heap.objs.size+2) (s1.heap.objs.size+3) (s1.heap.objs.size+0) (s1.heap.objs.size+1) a b :=
  ⟨ne (by decide),ne (by decide),ne (by decide),ne (by decide),ne (by decide),ne (by decide),ne (by decide),ne (by decide),ne (by decide),ne (by decide),na 4 la,na 3 la,na 0 la,na 1 la,na 4 lb,na 3 lb,na 0 lb,na 1 lb⟩
 refine⟨s1.heap.objs.size+4,_,_,_,H1,rfl,I1.kept (t':=s1.toks) kp,a6T D,⟨hz,hTI,⟨_,_,hTO⟩,h1,h2⟩,λc hc=>?_,q⟩;simp only[aJ,bJ,or_false] at hc;have fr:∀ i:Nat,W6 X pins H1 (s1.heap.objs.size+i):=λi=>I1.fpOk (gB _ _) (I1.hok.fresh (gB _ _))
 rcases hc with rfl | rfl | rfl | rfl | rfl
 ·exact fr 4
 ·exact fr 2
 ·exact fr 3
 ·exact fr 0
 ·exact fr 1
end
theorem a9c {K:ah}{a b:Addr}{xs ys:List V}{g:TG}{tb:TS}{D:U3}{σ:St}{H:Hp}(Pv:Nat->St->Hp->Prop)(h0:Pv 0 σ H)(hl:ys.length<=xs.length)(hx:∀ i σ H,i<=ys.length->Pv i σ H->SqL K H a xs/\SqL K H b ys)
  (hs:∀ i x y σ H q,xs[i]?=some x->ys[i]?=some y->Pv i σ H->H q=none->g (.ref q) σ (upd H q (.tup [x,y])) fun σ2 H2=>tb {D with nx:=Pv (i+1),ct:=Pv (i+1),bk:=D.nx} σ2 H2) (hd:∀ σ H,Pv ys.length σ H->D.nx σ H) :
  ∃ W:Nat->Nat->St->Hp->Prop,(∃ m,W 0 m σ H)/\∀ i m σ H,W i m σ H ->
   ((a7L K a b).stop i H/\D.nx σ H)\/((a7L K a b).go i H/\∃ N:St->Hp->Prop,(∀ σ' H',N σ' H'->∃ m',m'<m/\W (i+1) m' σ' H')/\∀ x H',(a7L K a b).yld i H x H'->g x σ H' fun σ2 H2=>tb {D with nx:=N,ct:=N,bk:=D.nx} σ2 H2):=by
 refine⟨λi m σ H=>m=ys.length-i/\i<=ys.length/\Pv i σ H,⟨_,rfl,bo _,h0⟩,?_⟩;rintro i m σ H ⟨rfl,hi,p⟩;obtain⟨q1,q2⟩:=hx i σ H hi p;by_cases hlt:i<ys.length
 ·have ex:xs[i]?=some xs[i]:=au ∅;have ey:ys[i]?=some ys[i]:=au hlt;refine .inr ⟨⟨xs,ys,_,_,q1,q2,ex,ey⟩,Pv (i+1),fun σ' H' p'=>⟨_,∅,rfl,hlt,p'⟩,?_⟩;rintro v H' ⟨q,x,y,rfl,hn,rfl,y1,y2⟩;exact hs i x y σ H q (y1 xs q1) (y2 ys q2) p hn
 ·have e:i=ys.length:=∅
  subst e;exact .inl ⟨⟨xs,ys,q1,q2,.inr (aC _)⟩,hd σ H p⟩
end L2
end
section
namespace L2
open PySem
section
variable {ks:List Int}{n:Int}{ts us T T':⋯}
theorem a9L (hp:ks.Perm (B0 0 n.toNat)){t:Int×Int}(h0:0<=t.1)(h1:t.1<t.2)(h2:t.2<n):0<=(ren ks t).1/\(ren ks t).1<(ren ks t).2/\(ren ks t).2<n:=by
 have a:=a8F hp h0 ∅;have b:=a8F hp (u:=t.2) ∅ h2;have c:nm ks t.1≠nm ks t.2:=λe=>by have:=a1d hp h0 ∅ ∅ h2 e;omega
 unfold ren;dsimp only;split<;>split<;>omega
theorem a9M (hp:ks.Perm (B0 0 n.toNat)){t u:Int×Int}(h0:0<=t.1)(h1:t.1<t.2)(h2:t.2<n)(k0:0<=u.1)(k1:u.1<u.2)(k2:u.2<n)(e:ren ks t=ren ks u):t=u:=by
 unfold ren at e;injection e with e1 e2
 have i1:nm ks t.1=nm ks u.1->t.1=u.1:=a1d hp h0 ∅ k0 ∅;have i2:nm ks t.2=nm ks u.2->t.2=u.2:=a1d hp ∅ h2 ∅ k2;have i3:nm ks t.1=nm ks u.2->t.1=u.2:=a1d hp h0 ∅ ∅ k2;have i4:nm ks t.2=nm ks u.1->t.2=u.1:=a1d hp ∅ h2 k0 ∅;have:t.1=u.1/\t.2=u.2:=by
  split at e1<;>split at e1<;>split at e2<;>split at e2<;>omega
 obtain⟨q1,q2⟩:=this;cases t;cases u;simp at q1 q2;rw[q1,q2]
theorem b0m (hok:L5 n ts)(hnd:ts.Nodup)(hp:ks.Perm (B0 0 n.toNat))(hu:us.Perm (ts.map (ren ks)))(hs:us.Pairwise λx y=>HT.lexLt (tl y) (tl x)=false):us.Pairwise Lex:=by
 have nd2:(ts.map (ren ks)).Nodup:=by
  refine bT.mpr (fN ?_ hnd);intro a b ha hb hab e;obtain⟨h0,h1,h2⟩:=hok a ha;obtain⟨k0,k1,k2⟩:=hok b hb;exact hab (a9M hp h0 h1 h2 k0 k1 k2 e)
 refine (fO hs (hu.nodup_iff.mpr nd2)).imp ?_;rintro a b ⟨h1,h2⟩;have h3:¬ Lex b a:=λe=>by rw[a3X.mpr e] at h1;cases h1
 have h4:a.1≠b.1\/a.2≠b.2:=by
  by_cases q:a.1=b.1
  ·refine .inr λe=>h2 ?_
   cases a;cases b;simp at q e;rw[q,e]
  ·exact .inl q
 unfold Lex at h3 ⊢;omega
theorem a9w (hw:C4 n ts)(hp:ks.Perm (B0 0 n.toNat))(hu:us.Perm (ts.map (ren ks)))(hs:us.Pairwise Lex):C4 n us:=by
 refine⟨hw.n3,hw.n60,λt ht=>?_,hs,by rw[hu.length_eq,ae];exact hw.len,λS hS=>?_⟩
 ·obtain⟨u,hu',rfl⟩:=aR.mp (hu.mem_iff.mp ht);obtain⟨h0,h1,h2⟩:=hw.rng u hu';exact a9L hp h0 h1 h2
 ·have hf:∀ t∈ts,S (nm ks t.1)↔S (nm ks t.2):=λt ht=>by
   have:=hS _ (hu.mem_iff.mpr (fS ht));unfold ren at this
   revert this
   dsimp only;obtain⟨h0,h1,h2⟩:=hw.rng t ht;have c:nm ks t.1≠nm ks t.2:=λe=>by have:=a1d hp h0 ∅ ∅ h2 e;omega
   split<;>split<;>intro q
   ·omega
   ·exact q.symm
   ·exact q
   ·omega
  intro u v u0 u1 v0 v1 su;obtain⟨u',p0,p1,rfl⟩:=a8E hp u0 u1;obtain⟨v',q0,q1,rfl⟩:=a8E hp v0 v1;exact hw.conn (λx=>S (nm ks x)) hf u' v' p0 p1 q0 q1 su
end
end L2
end
section
namespace L2
open PySem
def Y5 (bs:List Int)(p:Int):List Int:=bs.filter λx=>!decide (x∈[p])
theorem a2f {bs:List Int}{p x:Int}:x∈Y5 bs p↔x∈bs/\x≠p:=by unfold Y5;rw[aS];simp
def a7J (ts:⋯)(bs:List Int)(x:Int):List Int:=bs.filter λy=>decide (y∈x::nb ts x)
section
variable {n:Int}{ts:⋯}{bs:List Int}{p:Int}
theorem a4S:∀ {l:List Int},l.Nodup->l≠[]->l≠[p]->∃ z∈l,z≠p
 | [],_,h,_=>absurd rfl h
 | [a],_,_,h=>⟨a,by simp,λe=>h (by rw[e])⟩
 | a::b::r,hn,_,_=>by
  by_cases ha:a=p
  ·refine⟨b,by simp,λe=>?_⟩;rw[ha,e] at hn;exact (bW.mp hn).1 (by simp)
  ·exact⟨a,by simp,ha⟩
end
end L2
end
section
namespace L2
open PySem
section
variable {n:Int}{ts us:⋯}{bs:List Int}{p:Int}{H:Hp}{v:V}
theorem Y1 {x:Int}(x0:0<=x)(x1:x<n)(h:a7J ts bs x=[p]):¬ a2I n ts (Y5 bs p):=λhB=>by
 have key:∀ y∈Y5 bs p,y∈x::nb ts x->False:=λy hy hm=>by
  obtain⟨h1,h2⟩:=a2f.mp hy;have:y∈a7J ts bs x:=aS.mpr ⟨h1,decide_eq_true hm⟩;rw[h] at this;exact h2 (ag.mp this)
 by_cases hx:x∈Y5 bs p
 ·exact key x hx (aM ..)
 ·obtain⟨y,y1,y2⟩:=hB.2 x x0 x1 hx;exact key y y2 (aI _ y1)
theorem a5h (T:K5 n ts us)(hok:L5 n ts)(h3:3<=n)(hnd:bs.Nodup)(hr:∀ x∈bs,0<=x/\x<n)(hL:∀ p∈bs,¬ a2I n ts (Y5 bs p))(hs:∀ x,0<=x->x<n->x∉bs->(nb us x).length=1):((N8 n us).length:Int)=n-bs.length:=by
 have hin:∀ x∈bs,(nb us x).length≠1:=λx hx e=>by
  have hB:=T.busy hok h3 (L:=(B0 0 n.toNat).filter λv=>decide (1<(nb us v).length)) λx=>by
   rw[aS,E6];simp;omega
  refine hL x hx (hB.more hok (λy hy=>?_) λy hy=>hr y (a2f.mp hy).1);obtain⟨h1,h2⟩:=aS.mp hy;have h1:=E6.mp h1;have h2:=of_decide_eq_true h2;refine a2f.mpr ⟨aX λhn=>?_,λe2=>?_⟩
  ·have:=hs y h1.1 ∅ hn;omega
  ·rw[e2] at h2;omega
 have hp:(bs++N8 n us).Perm (B0 0 n.toNat):=by
  refine (cc ?_ (E7 (V7 _))).mpr λx=>?_
  ·rw[b9];refine⟨hnd,E7 a5S,λa ha b hb e=>?_⟩;subst e;have:=of_decide_eq_true (aS.mp hb).2;exact hin a ha this
  ·rw[aj];constructor
   ·rintro (h | h)
    ·have:=hr x h;exact E6.mpr ∅
    ·exact (aS.mp h).1
   ·intro h;by_cases k:x∈bs
    ·exact .inl k
    ·have:=E6.mp h;exact .inr (aS.mpr ⟨h,decide_eq_true (hs x this.1 ∅ k)⟩)
 have:=hp.length_eq;rw[ak,B1] at this;omega
end
end L2
end
section
namespace L2
open PySem
def a7E (ts:⋯)(v:Int):Bool:=decide (((nb ts v).length:Int)=2)
def P7 (ts:⋯)(m:Nat):List Int:=(B0 0 m).filter (a7E ts)
def ecR (cs:List Int)(a:Int)(r:List Int):⋯:=(r.filter λd=>decide (d∈cs)).map λd=>(a,d)
def ecT (ts:⋯)(cs r:List Int):⋯:=r.flatMap λa=>ecR cs a (nb ts a)
theorem a3w {ts:⋯}{m:Nat}:P7 ts (m+1)=P7 ts m++if a7E ts m=true then [(m:Int)] else []:=by
 unfold P7 B0;rw[cO,ap,bA];congr 1;simp only[aH,cu,iH];cases h:a7E ts m<;>simp[h]
theorem a5q {ts:⋯}{m:Nat}:(P7 ts m).length<=m:=by
 unfold P7;refine bH (bu ..) ?_;rw[B1];exact aC _
theorem V9 {ts:⋯}{m:Nat}{v:Int}:v∈P7 ts m↔(0<=v/\v<m)/\(nb ts v).length=2:=by
 unfold P7 a7E;rw[aS,E6,decide_eq_true_iff];omega
theorem a5n {cs:List Int}{a y:Int}{r:List Int}:ecR cs a (r++[y])=ecR cs a r++if y∈cs then [(a,y)] else []:=by
 unfold ecR;rw[bA,ap];congr 1;by_cases h:y∈cs<;>simp[h]
theorem a6M {cs:List Int}{a:Int}{r:List Int}:(ecR cs a r).length<=r.length:=by
 unfold ecR;rw[ae];exact bu ..
theorem a9e {ts:⋯}{cs r:List Int}{a:Int}:ecT ts cs (r++[a])=ecT ts cs r++ecR cs a (nb ts a):=by
 unfold ecT;rw[fT,jz]
theorem a6L {ts:⋯}{cs:List Int}(h:ts.length<=300):∀ {r:List Int},(ecT ts cs r).length<=r.length*300
 | []=>bo _
 | a::r=>by
  have:=a6L h (cs:=cs) (r:=r);have h1:=a6M (cs:=cs) (a:=a) (r:=nb ts a);have h2:=Y2 (ts:=ts) a;unfold ecT at this ⊢;rw[fB,ak,aD,fe];omega
def L9 (kvs:List (Key×V))(x:Int):Bool:=(T4 kvs (.inl x)).isSome
def ncR (ts:⋯)(kvs:List (Key×V))(b c:Int)(r:List Int):⋯:=(r.filter λd=>!L9 kvs d).map λd=>(c,d)
def ncT (ts:⋯)(kvs:List (Key×V))(b:Int)(r:List Int):⋯:=(r.filter λc=>!L9 kvs c).flatMap λc=>ncR ts kvs b c (nb ts b)
theorem a5b {ts:⋯}{kvs:List (Key×V)}{b c y:Int}{r:List Int}:ncR ts kvs b c (r++[y])=ncR ts kvs b c r++if L9 kvs y=true then [] else [(c,y)]:=by
 unfold ncR;rw[bA,ap];congr 1;cases h:L9 kvs y<;>simp[h]
theorem a5a {ts:⋯}{kvs:List (Key×V)}{b x:Int}{r:List Int}:ncT ts kvs b (r++[x])=ncT ts kvs b r++if L9 kvs x=true then [] else ncR ts kvs b x (nb ts b):=by
 unfold ncT;rw[bA,fT];congr 1;cases h:L9 kvs x<;>simp[h]
theorem a6t {ts:⋯}{kvs:List (Key×V)}{b c:Int}{r:List Int}:(ncR ts kvs b c r).length<=r.length:=by
 unfold ncR;rw[ae];exact bu ..
theorem b0j {ts:⋯}{kvs:List (Key×V)}{b:Int}{r:List Int}:(ncT ts kvs b r).length<=r.length*(nb ts b).length:=by
 induction r with
 | nil=>exact bo _
 | cons x r ih =>
  unfold ncT at ih ⊢;rw[cR,aD,fe];have:=a6t (ts:=ts) (kvs:=kvs) (b:=b) (c:=x) (r:=nb ts b);split
  ·rw[fB,ak];omega
  ·omega
def Q8 (kvs:List (Key×V))(a b:Int):List (Key×V):=S2 (S2 kvs (.inl a) (.bl true)) (.inl b) (.bl true)
def U1 (ts:⋯):Nat->List (Key×V)->⋯->⋯
 | 0,_,_=>[]
 | _+1,_,[]=>[]
 | f+1,kvs,(a,b)::_=>(a,b)::U1 ts f (Q8 kvs a b) (ncT ts (Q8 kvs a b) b (nb ts a))
theorem a0G {kvs:List (Key×V)}{a b x:Int}:L9 (Q8 kvs a b) x=true↔x=a\/x=b\/L9 kvs x=true:=by
 unfold L9 Q8;rw[a4s,a4s];by_cases h:x=b
 ·simp[h]
 ·by_cases h':x=a
  ·simp[h,h']
  ·simp[h,h']
def a2D (n:Int)(kvs:List (Key×V)):Nat:=((B0 0 n.toNat).filter (L9 kvs)).length
theorem a6R {n:Int}{kvs:List (Key×V)}:a2D n kvs<=n.toNat:=by
 unfold a2D;refine bH (bu ..) ?_;rw[B1];exact aC _
theorem b0P {n a b:Int}{kvs:List (Key×V)}(h0:0<=a)(h1:a<n)(h:L9 kvs a=false):a2D n kvs<a2D n (Q8 kvs a b):=by
 unfold a2D;have key:∀ l:List Int,(l.filter (L9 kvs)).length<=(l.filter (L9 (Q8 kvs a b))).length/\(a∈l->(l.filter (L9 kvs)).length<(l.filter (L9 (Q8 kvs a b))).length):=λl=>by
  induction l with
  | nil=>exact⟨aC _,λz=>by cases z⟩
  | cons y l ih =>
   obtain⟨i1,i2⟩:=ih;by_cases hy:L9 kvs y=true
   ·have hy':L9 (Q8 kvs a b) y=true:=a0G.mpr (.inr (.inr hy));rw[cz hy,cz hy',aD,aD];refine⟨∅,λz=>?_⟩;rcases aJ.mp z with rfl | z
    ·rw[h] at hy;cases hy
    ·have:=i2 z;omega
   ·rw[cP hy];by_cases hy':L9 (Q8 kvs a b) y=true
    ·rw[cz hy',aD];exact⟨∅,λ_=>∅⟩
    ·rw[cP hy'];refine⟨i1,λz=>?_⟩;rcases aJ.mp z with rfl | z
     ·exact absurd (a0G.mpr (.inl rfl)) hy'
     ·exact i2 z
 exact (key _).2 (E6.mpr ⟨h0,∅⟩)
def b3l (n:Int)(kvs:List (Key×V))(found:⋯):Prop:=∀ t∈found,L9 kvs t.1=false/\0<=t.1/\t.1<n/\0<=t.2/\t.2<n
theorem b4e {n:Int}{ts:⋯}(hok:L5 n ts){kvs:List (Key×V)}{a b:Int}:b3l n kvs (ncT ts kvs b (nb ts a)):=λt ht=>by
 unfold ncT ncR at ht;obtain⟨c,hc,ht⟩:=dP.mp ht;obtain⟨d,hd,rfl⟩:=aR.mp ht;obtain⟨c1,c2⟩:=aS.mp hc;obtain⟨d1,d2⟩:=aS.mp hd;exact⟨ ~~~c2,(L6 hok c1).1,(L6 hok c1).2.1,(L6 hok d1).1,(L6 hok d1).2.1⟩
theorem b4f {n:Int}{ts:⋯}(hok:L5 n ts)(hn:0<=n):b3l n [] (ecT ts (P7 ts n.toNat) (P7 ts n.toNat)):=λt ht=>by
 unfold ecT ecR at ht;obtain⟨a,ha,ht⟩:=dP.mp ht;obtain⟨d,hd,rfl⟩:=aR.mp ht;have a1:=(V9.mp ha).1;have d1:=(aS.mp hd).1;exact⟨rfl,by show 0<=a;omega,by show a<n;omega,(L6 hok d1).1,(L6 hok d1).2.1⟩
end L2
end
section
namespace L2
open PySem
theorem Q7 {a b c e:Int}:mm a b=mm c e↔(a=c/\b=e)\/(a=e/\b=c):=by
 unfold mm;rw[Prod.mk.injEq];constructor
 ·rintro⟨h1,h2⟩;split at h1<;>split at h1<;>split at h2<;>split at h2<;>omega
 ·rintro (⟨rfl,rfl⟩ | ⟨rfl,rfl⟩)
  ·exact⟨rfl,rfl⟩
  ·constructor<;>split<;>split<;>omega
theorem a0e (a b:Int):mm a b=mm b a:=Q7.mpr (.inr ⟨rfl,rfl⟩)
theorem a3i {n:Int}{ts:⋯}(hok:L5 n ts){v x:Int}:x∈nb ts v↔mm v x∈ts:=by
 rw[J1 hok];unfold mm;constructor
 ·rintro (h | h)
  ·have:=hok _ h;rw[if_neg ∅,if_pos ∅];exact h
  ·have:=hok _ h;rw[if_pos ∅,if_neg ∅];exact h
 ·intro h;have:=hok _ h;by_cases c:v<x
  ·rw[if_neg ∅,if_pos c] at h;exact .inl h
  ·by_cases e:x<v
   ·rw[if_pos e,if_neg c] at h;exact .inr h
   ·rw[if_neg e,if_neg c] at this;dsimp only at this;omega
theorem a2h {l m:List Int}(hl:l.Nodup)(hm:m.Nodup)(h:∀ x,x∈l↔x∈m):l.length=m.length:=((cc hl hm).mpr h).length_eq
theorem a5G {a:Int}{l:List Int}(hl:l.Nodup)(h:∀ x,x∈l↔x=a):l=[a] :=
 List.perm_singleton.mp ((cc hl (by simp)).mpr λx=>by rw[h,ag])
theorem Y0 {α:Type}[DecidableEq α]:∀ {a b:List α},a.Nodup->a ⊆ b->b.length<=a.length->b.Perm a
 | [],b,_,_,h=>by cases b with | nil=>exact .nil | cons _ _=>simp at h
 | x::a,b,hn,hs,hl=>by
  obtain⟨h1,h2⟩:=bW.mp hn;have hx:=hs (aM ..);refine (List.perm_cons_erase hx).trans (.cons _ (Y0 h2 (λy hy=>?_) ?_))
  ·exact (eN (λe:y=x=>h1 (e ▸ hy))).mpr (hs (aI _ hy))
  ·rw[dJ hx];simp at hl;omega
structure Lad (ts:⋯)(k:Nat)(u d:Nat->Int):Prop where
 iu:∀ i j,i<k->j<k->u i=u j->i=j
 id:∀ i j,i<k->j<k->d i=d j->i=j
 ud:∀ i j,i<k->j<k->u i≠d j
 mem:∀ t,t∈ts↔(∃ i,i<k/\t=mm (u i) (d i))\/∃ i,i+1<k/\(t=mm (u i) (u (i+1))\/t=mm (d i) (d (i+1)))
 len:ts.length+2=3*k
section
variable {n:Int}{ts:⋯}{k:Nat}{u d:Nat->Int}
theorem Lad.swap (L:Lad ts k u d):Lad ts k d u :=
 ⟨L.id,L.iu,λi j hi hj e=>L.ud j i hj hi e.symm,λt=>by
  rw[L.mem]
  refine or_congr ⟨λ⟨i,h,e⟩=>⟨i,h,by rw[e,a0e]⟩,λ⟨i,h,e⟩=>⟨i,h,by rw[e,a0e]⟩⟩ ⟨λ⟨i,h,e⟩=>⟨i,h,e.symm⟩,λ⟨i,h,e⟩=>⟨i,h,e.symm⟩⟩,L.len⟩
theorem Lad.rev (L:Lad ts k u d):Lad ts k (λi=>u (k-1-i)) λi=>d (k-1-i) :=
 ⟨λi j hi hj e=>by have:=L.iu _ _ ∅ ∅ e;omega,λi j hi hj e=>by have:=L.id _ _ ∅ ∅ e;omega,λi j hi hj=>L.ud _ _ ∅ ∅,λt=>by
  rw[L.mem];refine or_congr ⟨λ⟨i,h,e⟩=>⟨k-1-i,∅,by rw[e,show k-1-(k-1-i)=i by omega]⟩,λ⟨i,h,e⟩=>⟨k-1-i,∅,e⟩⟩ ⟨λ⟨i,h,e⟩=>⟨k-1-(i+1),∅,?_⟩,λ⟨i,h,e⟩=>⟨k-1-(i+1),∅,?_⟩⟩
  ·rw[show k-1-(k-1-(i+1))=i+1 by omega,show k-1-(k-1-(i+1)+1)=i by omega,a0e (u (i+1)),a0e (d (i+1))];exact e
  ·rw[show k-1-(i+1)+1=k-1-i by omega,a0e _ (u (k-1-i)),a0e _ (d (k-1-i))];exact e,L.len⟩
theorem Lad.nbu (L:Lad ts k u d)(hok:L5 n ts){i:Nat}(hi:i<k){y:Int}:y∈nb ts (u i)↔y=d i\/(i+1<k/\y=u (i+1))\/(0<i/\y=u (i-1)):=by
 rw[a3i hok,L.mem];constructor
 ·rintro (⟨j,hj,e⟩ | ⟨j,hj,e | e⟩)
  ·rcases Q7.mp e with ⟨a,b⟩ | ⟨a,b⟩
   ·cases L.iu _ _ hi hj a;exact .inl b
   ·exact absurd a (L.ud _ _ hi hj)
  ·rcases Q7.mp e with ⟨a,b⟩ | ⟨a,b⟩
   ·cases L.iu _ _ hi ∅ a;exact .inr (.inl ⟨hj,b⟩)
   ·cases L.iu _ _ hi hj a;exact .inr (.inr ⟨∅,b⟩)
  ·rcases Q7.mp e with ⟨a,b⟩ | ⟨a,b⟩
   ·exact absurd a (L.ud _ _ hi ∅)
   ·exact absurd a (L.ud _ _ hi hj)
 ·rintro (rfl | ⟨h,rfl⟩ | ⟨h,rfl⟩)
  ·exact .inl ⟨i,hi,rfl⟩
  ·exact .inr ⟨i,h,.inl rfl⟩
  ·exact .inr ⟨i-1,∅,.inl (by rw[show i-1+1=i by omega,a0e])⟩
theorem Lad.nbd (L:Lad ts k u d)(hok:L5 n ts){i:Nat}(hi:i<k){y:Int}:y∈nb ts (d i)↔y=u i\/(i+1<k/\y=d (i+1))\/(0<i/\y=d (i-1)):=L.swap.nbu hok hi
theorem Lad.len2 (W:C4 n ts)(L:Lad ts k u d)(h2:2<=k){i:Nat}(hi:i<k):(nb ts (u i)).length=2↔i=0\/i+1=k:=by
 have hn:=E7 (U6 W.rng W.srt (u i));by_cases h0:i=0
 ·subst h0;have:(nb ts (u 0)).length=[d 0,u 1].length:=a2h hn (by simp;exact λe=>L.ud 1 0 ∅ hi e.symm) λx=>by rw[L.nbu W.rng hi];simp;omega
  rw[this];simp
 ·by_cases h1:i+1=k
  ·have:(nb ts (u i)).length=[d i,u (i-1)].length:=a2h hn (by simp;exact λe=>L.ud (i-1) i ∅ hi e.symm) λx=>by rw[L.nbu W.rng hi];simp;omega
   rw[this];simp[h1]
  ·have:(nb ts (u i)).length=[d i,u (i+1),u (i-1)].length:=a2h hn (by
    simp only[List.nodup_cons,aJ,bJ,or_false,not_or,not_false_eq_true,je,and_true]
    exact⟨⟨λe=>L.ud (i+1) i ∅ hi e.symm,λe=>L.ud (i-1) i ∅ hi e.symm⟩,λe=>by have:=L.iu _ _ ∅ ∅ e;omega⟩) λx=>by rw[L.nbu W.rng hi];simp;omega
   rw[this];simp;omega
theorem Lad.ur (W:C4 n ts)(L:Lad ts k u d){i:Nat}(hi:i<k):(0<=u i/\u i<n)/\0<=d i/\d i<n:=by
 have h:=W.rng _ ((L.mem _).mpr (.inl ⟨i,hi,rfl⟩));unfold mm at h;split at h<;>split at h<;>omega
def Q4 (k:Nat)(u:Nat->Int):List Int:=(List.range k).map u
theorem K9 {x:Int}:x∈Q4 k u↔∃ i,i<k/\x=u i:=by
 unfold Q4;rw[aR];exact⟨λ⟨i,h,e⟩=>⟨i,bh.mp h,e.symm⟩,λ⟨i,h,e⟩=>⟨i,bh.mpr h,e.symm⟩⟩
theorem a3N (h:∀ i j,i<k->j<k->u i=u j->i=j):(Q4 k u).Nodup:=by
 unfold Q4;unfold List.Nodup;rw[bT];exact List.pairwise_lt_range.imp_of_mem λ{a b} ha hb hab e=>by
  have:=h a b (bh.mp ha) (bh.mp hb) e;omega
theorem a1V:(Q4 k u).length=k:=by unfold Q4;simp
theorem b0Q (iu:∀ i j,i<k->j<k->u i=u j->i=j)(id:∀ i j,i<k->j<k->d i=d j->i=j)(ud:∀ i j,i<k->j<k->u i≠d j):(Q4 k u++Q4 k d).Nodup :=
 b9.mpr ⟨a3N iu,a3N id,λx hx y hy e=>by
  obtain⟨i,hi,rfl⟩:=K9.mp hx;obtain⟨j,hj,rfl⟩:=K9.mp hy
  exact ud i j hi hj e⟩
theorem a1C (W:C4 n ts){v:Int}(v0:0<=v)(v1:v<n):∃ t∈ts,t.1=v\/t.2=v:=by
 refine aX λhn=>?_
 have h3:=W.n3;have key:=W.conn (λx=>x=v) λt ht=>by
  have h1:¬ t.1=v:=λe=>hn ⟨t,ht,.inl e⟩
  have h2:¬ t.2=v:=λe=>hn ⟨t,ht,.inr e⟩
  exact⟨λe=>absurd e h1,λe=>absurd e h2⟩
 have a:=key v 0 v0 v1 ∅ ∅ rfl;have b:=key v 1 v0 v1 ∅ ∅ rfl;omega
theorem Lad.cover (W:C4 n ts)(L:Lad ts k u d){v:Int}(v0:0<=v)(v1:v<n):v∈Q4 k u++Q4 k d:=by
 obtain⟨t,ht,e⟩:=a1C W v0 v1;rw[aj,K9,K9];have two:∀ {a b:Int},t=mm a b->v=a\/v=b:=λ{a b} h=>by
  rw[h] at e;unfold mm at e;dsimp only at e;split at e<;>split at e<;>omega
 rcases (L.mem t).mp ht with ⟨j,hj,h⟩ | ⟨j,hj,h | h⟩
 ·rcases two h with e | e
  ·exact .inl ⟨j,hj,e⟩
  ·exact .inr ⟨j,hj,e⟩
 ·rcases two h with e | e
  ·exact .inl ⟨j,∅,e⟩
  ·exact .inl ⟨j+1,hj,e⟩
 ·rcases two h with e | e
  ·exact .inr ⟨j,∅,e⟩
  ·exact .inr ⟨j+1,hj,e⟩
theorem Lad.size (W:C4 n ts)(L:Lad ts k u d):n=2*k:=by
 have h0:=W.n3;have hn:=b0Q L.iu L.id L.ud
 have h1:=X0 hn (l:=B0 0 n.toNat) λx hx=>E6.mpr (by
  rw[aj,K9,K9] at hx;rcases hx with ⟨i,hi,rfl⟩ | ⟨i,hi,rfl⟩
  ·have:=(L.ur W hi).1;omega
  ·have:=(L.ur W hi).2;omega)
 have h2:=X0 (E7 (l:=B0 0 n.toNat) (by
  unfold B0;rw[bT]
  exact cE.imp λh=>∅)) (l:=Q4 k u++Q4 k d) λx hx=>by
   have:=E6.mp hx;exact L.cover W ∅ ∅
 rw[ak,a1V,a1V,B1] at h1 h2;omega
def Y9 (i m:Nat)(u d:Nat->Int):⋯:=(List.range' i m).map λj=>(u j,d j)
theorem b0J {p:Int->Bool}{l:List Int}(h:∀ x∈l,p x=false):l.filter p=[]:=List.filter_eq_nil_iff.mpr λx hx=>by rw[h x hx];decide
theorem Lad.walk (W:C4 n ts)(L:Lad ts k u d):∀ m i f kvs r,i+m=k->0<m->m<=f->(∀ x,L9 kvs x=true↔∃ j,j<i/\(x=u j\/x=d j))->U1 ts f kvs ((u i,d i)::r)=Y9 i m u d:=by
 intro m;induction m with
 | zero=>intro i f kvs r h1 h2;omega
 | succ m ih =>
  intro i f kvs r h1 h2 h3 hm;obtain⟨f,rfl⟩:∃ g,f=g+1:=⟨f-1,∅⟩
  have hm':∀ x,L9 (Q8 kvs (u i) (d i)) x=true↔∃ j,j<i+1/\(x=u j\/x=d j):=λx=>by
   rw[a0G,hm];constructor
   ·rintro (e | e | ⟨j,h,e⟩)
    ·exact⟨i,∅,.inl e⟩
    ·exact⟨i,∅,.inr e⟩
    ·exact⟨j,∅,e⟩
   ·rintro⟨j,h,e⟩;by_cases hj:j=i
    ·subst hj;rcases e with e | e
     ·exact .inl e
     ·exact .inr (.inl e)
    ·exact .inr (.inr ⟨j,∅,e⟩)
  have hu:∀ x,L9 (Q8 kvs (u i) (d i)) x=false↔¬ ∃ j,j<i+1/\(x=u j\/x=d j):=λx=>by rw[<- hm' x];simp
  have ndu:=E7 (U6 W.rng W.srt (u i));have ndd:=E7 (U6 W.rng W.srt (d i));show (u i,d i)::U1 ts f (Q8 kvs (u i) (d i)) (ncT ts (Q8 kvs (u i) (d i)) (d i) (nb ts (u i)))=_;have ec:Y9 i (m+1) u d=(u i,d i)::Y9 (i+1) m u d:=rfl;rw[ec];congr 1;by_cases hl:i+1=k
  ·have e1:(nb ts (u i)).filter (λc=>!L9 (Q8 kvs (u i) (d i)) c)=[]:=b0J λx hx=>by
    rw[(hm' x).mpr,dm];rcases (L.nbu W.rng ∅).mp hx with e | ⟨h,e⟩ | ⟨h,e⟩
    ·exact⟨i,∅,.inr e⟩
    ·omega
    ·exact⟨i-1,∅,.inl e⟩
   have e2:m=0:=∅
   subst e2;unfold ncT;rw[e1];cases f<;>rfl
  ·have e1:(nb ts (u i)).filter (λc=>!L9 (Q8 kvs (u i) (d i)) c)=[u (i+1)]:=a5G (ndu.filter _) λx=>by
    rw[aS,iz,hu,L.nbu W.rng ∅];constructor
    ·rintro⟨e | ⟨h,e⟩ | ⟨h,e⟩,hx⟩
     ·exact absurd ⟨i,∅,.inr e⟩ hx
     ·exact e
     ·exact absurd ⟨i-1,∅,.inl e⟩ hx
    ·rintro rfl;refine⟨.inr (.inl ⟨∅,rfl⟩),?_⟩;rintro⟨j,hj,e | e⟩
     ·have:=L.iu _ _ ∅ ∅ e;omega
     ·exact L.ud _ _ ∅ ∅ e
   have e2:(nb ts (d i)).filter (λc=>!L9 (Q8 kvs (u i) (d i)) c)=[d (i+1)]:=a5G (ndd.filter _) λx=>by
    rw[aS,iz,hu,L.nbd W.rng ∅];constructor
    ·rintro⟨e | ⟨h,e⟩ | ⟨h,e⟩,hx⟩
     ·exact absurd ⟨i,∅,.inl e⟩ hx
     ·exact e
     ·exact absurd ⟨i-1,∅,.inr e⟩ hx
    ·rintro rfl;refine⟨.inr (.inl ⟨∅,rfl⟩),?_⟩;rintro⟨j,hj,e | e⟩
     ·exact L.ud _ _ ∅ ∅ e.symm
     ·have:=L.id _ _ ∅ ∅ e;omega
   unfold ncT ncR;rw[e1,e2];exact ih (i+1) f _ _ ∅ ∅ ∅ hm'
def T0 (n:Int)(ts:⋯):⋯:=U1 ts (n.toNat+1) [] (ecT ts (P7 ts n.toNat) (P7 ts n.toNat))
theorem Lad.cols (W:C4 n ts)(L:Lad ts k u d)(h3:3<=k):∃ u' d',Lad ts k u' d'/\T0 n ts=Y9 0 k u' d':=by
 have hn:=L.size W;have mec:∀ a b,(a,b)∈ecT ts (P7 ts n.toNat) (P7 ts n.toNat)↔a∈P7 ts n.toNat/\b∈P7 ts n.toNat/\b∈nb ts a:=λa b=>by
  unfold ecT ecR;simp only[dP,aR,aS,decide_eq_true_iff,Prod.mk.injEq];exact⟨λ⟨x,hx,y,⟨h1,h2⟩,h3,h4⟩=>by subst h3 h4;exact⟨hx,h2,h1⟩,λ⟨h1,h2,h3⟩=>⟨a,h1,b,⟨h3,h2⟩,rfl,rfl⟩⟩
 have r0:=L.ur W (i:=0) ∅;have m0:(u 0,d 0)∈ecT ts (P7 ts n.toNat) (P7 ts n.toNat):=(mec _ _).mpr ⟨V9.mpr ⟨∅,(L.len2 W ∅ ∅).mpr (.inl rfl)⟩,V9.mpr ⟨∅,(L.swap.len2 W ∅ ∅).mpr (.inl rfl)⟩,(L.nbu W.rng ∅).mpr (.inl rfl)⟩;unfold T0;cases hec:ecT ts (P7 ts n.toNat) (P7 ts n.toNat) with
 | nil=>rw[hec] at m0;cases m0
 | cons ab r =>
  obtain⟨a,b⟩:=ab;obtain⟨ha,hb,hab⟩:=(mec a b).mp (by rw[hec];exact aM ..);have ha:=(V9.mp ha).2;have hb:=(V9.mp hb).2;have R4:∀ {u' d'},Lad ts k u' d'->u' 0=a->d' 0=b->∃ u' d',Lad ts k u' d'/\U1 ts (n.toNat+1) [] ((a,b)::r)=Y9 0 k u' d':=λ{u' d'} L' e1 e2=>by
   subst e1 e2;exact⟨u',d',L',L'.walk W k 0 _ [] r ∅ ∅ ∅ λx=>⟨λh=>(by cases h),λ⟨j,h,_⟩=>∅⟩⟩
  have hm:=(a3i W.rng).mp hab;rcases (L.mem _).mp hm with ⟨j,hj,e⟩ | ⟨j,hj,e | e⟩
  ·rcases Q7.mp e with ⟨rfl,rfl⟩ | ⟨rfl,rfl⟩
   ·rcases (L.len2 W ∅ hj).mp ha with rfl | h
    ·exact R4 L rfl rfl
    ·exact R4 L.rev (by show u (k-1-0)=u j;congr 1;omega) (by show d (k-1-0)=d j;congr 1;omega)
   ·rcases (L.swap.len2 W ∅ hj).mp ha with rfl | h
    ·exact R4 L.swap rfl rfl
    ·exact R4 L.swap.rev (by show d (k-1-0)=d j;congr 1;omega) (by show u (k-1-0)=u j;congr 1;omega)
  ·exfalso;rcases Q7.mp e with ⟨rfl,rfl⟩ | ⟨rfl,rfl⟩
   ·have:=(L.len2 W ∅ ∅).mp ha;have:=(L.len2 W ∅ ∅).mp hb;omega
   ·have:=(L.len2 W ∅ ∅).mp ha;have:=(L.len2 W ∅ ∅).mp hb;omega
  ·exfalso;rcases Q7.mp e with ⟨rfl,rfl⟩ | ⟨rfl,rfl⟩
   ·have:=(L.swap.len2 W ∅ ∅).mp ha;have:=(L.swap.len2 W ∅ ∅).mp hb;omega
   ·have:=(L.swap.len2 W ∅ ∅).mp ha;have:=(L.swap.len2 W ∅ ∅).mp hb;omega
end
end L2
end
section
namespace L2
open PySem
def crs:⋯->⋯
 | a::b::r=>mm a.1 b.1::mm a.2 b.2::crs (b::r)
 | _=>[]
def a2B (T:⋯):⋯:=T.map (λt=>mm t.1 t.2)++crs T
theorem a4h:∀ T:⋯,(crs T).length+2=2*T.length\/T=[]
 | []=>.inr rfl
 | [a]=>.inl rfl
 | a::b::r=>.inl (by
  have:=a4h (b::r);rcases this with h | h
  ·show (crs (b::r)).length+1+1+2=2*(r.length+1+1)
   rw[aD] at h;omega
  ·cases h)
theorem a6z {t:Int×Int}:∀ {T:⋯},t∈crs T↔∃ i a b,T[i]?=some a/\T[i+1]?=some b/\(t=mm a.1 b.1\/t=mm a.2 b.2)
 | []=>⟨λh=>(by cases h),λ⟨i,a,b,h,_⟩=>by simp at h⟩
 | [x]=>⟨λh=>(by cases h),λ⟨i,a,b,_,h,_⟩=>by simp at h⟩
 | x::y::r=>by
  show t∈mm x.1 y.1::mm x.2 y.2::crs (y::r)↔_;rw[aJ,aJ,a6z (T:=y::r)];constructor
  ·rintro (h | h | ⟨i,a,b,h1,h2,h3⟩)
   ·exact⟨0,x,y,rfl,rfl,.inl h⟩
   ·exact⟨0,x,y,rfl,rfl,.inr h⟩
   ·exact⟨i+1,a,b,h1,h2,h3⟩
  ·rintro⟨i,a,b,h1,h2,h3⟩;cases i with
   | zero =>
    cases h1;cases h2;exact h3.elim .inl λh=>.inr (.inl h)
   | succ i=>exact .inr (.inr ⟨i,a,b,h1,h2,h3⟩)
theorem S5 {k i:Nat}{u d:Nat->Int}{t:Int×Int}:(Y9 0 k u d)[i]?=some t↔i<k/\t=(u i,d i):=by
 unfold Y9;rw[<- gQ,aF];by_cases h:i<k
 ·rw[gY h];simp[h];exact eq_comm
 ·rw[bS (by rw[dI];omega)];simp[h]
theorem W4 {k:Nat}{u d:Nat->Int}:(Y9 0 k u d).length=k:=by unfold Y9;simp
theorem a5g {k:Nat}{u d:Nat->Int}{t:Int×Int}:t∈Y9 0 k u d↔∃ i,i<k/\t=(u i,d i):=by
 rw[List.mem_iff_getElem?];exact⟨λ⟨i,h⟩=>⟨i,S5.mp h⟩,λ⟨i,h⟩=>⟨i,S5.mpr h⟩⟩
theorem a5e {k:Nat}{u d:Nat->Int}{t:Int×Int}:t∈a2B (Y9 0 k u d)↔(∃ i,i<k/\t=mm (u i) (d i))\/∃ i,i+1<k/\(t=mm (u i) (u (i+1))\/t=mm (d i) (d (i+1))):=by
 unfold a2B;rw[aj,aR,a6z];refine or_congr ⟨λ⟨x,hx,e⟩=>?_,λ⟨i,h,e⟩=>⟨(u i,d i),a5g.mpr ⟨i,h,rfl⟩,e.symm⟩⟩ ⟨λ⟨i,a,b,h1,h2,h3⟩=>?_,λ⟨i,h,e⟩=>⟨i,(u i,d i),(u (i+1),d (i+1)),S5.mpr ⟨∅,rfl⟩,S5.mpr ⟨h,rfl⟩,e⟩⟩
 ·obtain⟨i,h,rfl⟩:=a5g.mp hx;exact⟨i,h,e.symm⟩
 ·obtain⟨_,rfl⟩:=S5.mp h1;obtain⟨h5,rfl⟩:=S5.mp h2;exact⟨i,h5,h3⟩
theorem a5i {T:⋯}(h:T≠[]):(a2B T).length+2=3*T.length:=by
 unfold a2B;rw[ak,ae];have:=(a4h T).resolve_right h;omega
section
variable {n:Int}{ts:⋯}{k:Nat}{u d:Nat->Int}
theorem Lad.perm (W:C4 n ts)(L:Lad ts k u d)(h:1<=k):(a2B (Y9 0 k u d)).Perm ts:=by
 have hne:Y9 0 k u d≠[]:=λe=>by have:=W4 (k:=k) (u:=u) (d:=d);rw[e] at this;simp at this;omega
 refine Y0 (Q0 W.srt) (λt ht=>a5e.mpr ((L.mem t).mp ht)) ?_;have:=a5i hne;have:=L.len;rw[W4] at *
 omega
theorem a7F {T:⋯}:Y9 0 T.length (λi=>(T.getD i (0,0)).1) (λi=>(T.getD i (0,0)).2)=T:=by
 refine dw λi=>?_
 by_cases h:i<T.length
 ·rw[S5.mpr ⟨h,rfl⟩,au h];simp[h]
 ·rw[bS (by rw[W4];omega),bS ∅]
theorem Lad.of {T:⋯}(W:C4 n ts)(hp:(a2B T).Perm ts)(hne:T≠[])(hpw:T.Pairwise λa b=>a.1≠b.1/\a.1≠b.2/\a.2≠b.1/\a.2≠b.2):Lad ts T.length (λi=>(T.getD i (0,0)).1) (λi=>(T.getD i (0,0)).2):=by
 have hs:=a7F (T:=T);have hm:∀ t,t∈ts↔t∈a2B T:=λt=>hp.mem_iff.symm
 have g:∀ {i},(h:i<T.length)->T.getD i (0,0)=T[i]:=λ{i} h=>by simp[h]
 have hd:∀ i (h:i<T.length),T[i].1≠T[i].2:=λi h e=>by
  have:mm T[i].1 T[i].2∈ts:=(hm _).mpr (aL _ (aR.mpr ⟨_,gv h,rfl⟩));have:=W.rng _ this;unfold mm at this;rw[e] at this;dsimp only at this;split at this<;>omega
 have pw:=dG.mp hpw;refine⟨λi j hi hj e=>?_,λi j hi hj e=>?_,λi j hi hj e=>?_,λt=>?_,by rw[<- hp.length_eq];exact a5i hne⟩
 ·rw[g hi,g hj] at e;rcases cU i j with h | h | h
  ·exact absurd e (pw i j hi hj h).1
  ·exact h
  ·exact absurd e.symm (pw j i hj hi h).1
 ·rw[g hi,g hj] at e;rcases cU i j with h | h | h
  ·exact absurd e (pw i j hi hj h).2.2.2
  ·exact h
  ·exact absurd e.symm (pw j i hj hi h).2.2.2
 ·rw[g hi,g hj] at e;rcases cU i j with h | h | h
  ·exact absurd e (pw i j hi hj h).2.1
  ·subst h;exact hd i hi e
  ·exact absurd e.symm (pw j i hj hi h).2.2.1
 ·rw[hm,<- a5e,hs]
theorem a5r:∀ f kvs found,(∀ t∈found,L9 kvs t.1=false/\L9 kvs t.2=false)->(∀ t∈U1 ts f kvs found,L9 kvs t.1=false/\L9 kvs t.2=false)/\(U1 ts f kvs found).Pairwise λa b=>a.1≠b.1/\a.1≠b.2/\a.2≠b.1/\a.2≠b.2
 | 0,kvs,found,_=>⟨λt h=>(by cases h),.nil⟩
 | f+1,kvs,[],_=>⟨λt h=>(by cases h),.nil⟩
 | f+1,kvs,(a,b)::r,hf=>by
  obtain⟨h1,h2⟩:=a5r f (Q8 kvs a b) (ncT ts (Q8 kvs a b) b (nb ts a)) λt ht=>by
   unfold ncT ncR at ht;obtain⟨c,hc,ht⟩:=dP.mp ht;obtain⟨e,he,rfl⟩:=aR.mp ht;exact⟨by simpa using (aS.mp hc).2,by simpa using (aS.mp he).2⟩
  have hh:∀ x,L9 (Q8 kvs a b) x=false->L9 kvs x=false/\a≠x/\b≠x:=λx hx=>by
   have:¬ (x=a\/x=b\/L9 kvs x=true):=λh=>by rw[a0G.mpr h] at hx;cases hx
   refine⟨?_,λe=>this (.inl e.symm),λe=>this (.inr (.inl e.symm))⟩;cases h:L9 kvs x with
   | false=>rfl
   | true=>exact absurd (.inr (.inr h)) this
  show (∀ t∈(a,b)::U1 ts f (Q8 kvs a b) _,_)/\List.Pairwise _ ((a,b)::U1 ts f (Q8 kvs a b) _);refine⟨λt ht=>?_,.cons (λt ht=>?_) h2⟩
  ·rcases aJ.mp ht with rfl | ht
   ·exact hf (a,b) (aM ..)
   ·exact⟨(hh _ (h1 t ht).1).1,(hh _ (h1 t ht).2).1⟩
  ·exact⟨(hh _ (h1 t ht).1).2.1,(hh _ (h1 t ht).2).2.1,(hh _ (h1 t ht).1).2.2,(hh _ (h1 t ht).2).2.2⟩
def a2t (ts:⋯):Prop:=∃ k u d,3<=k/\Lad ts k u d
theorem Lad.three (W:C4 n ts)(L:Lad ts k u d)(hr:∃ v,0<=v/\v<n/\(nb ts v).length≠2):3<=k:=by
 refine aX λhk=>?_
 have hn:=L.size W;have h3:=W.n3;have e:k=2:=∅
 obtain⟨v,v0,v1,hv⟩:=hr;refine hv ?_;rcases aj.mp (L.cover W v0 v1) with h | h
 ·obtain⟨i,hi,rfl⟩:=K9.mp h;exact (L.len2 W ∅ hi).mpr ∅
 ·obtain⟨i,hi,rfl⟩:=K9.mp h;exact (L.swap.len2 W ∅ hi).mpr ∅
theorem a2k (W:C4 n ts)(hr:∃ v,0<=v/\v<n/\(nb ts v).length≠2):(a2B (T0 n ts)).Perm ts↔a2t ts:=by
 have h3:=W.n3;constructor
 ·intro hp;have hne:T0 n ts≠[]:=λe=>by
   rw[e] at hp;obtain⟨t,ht,_⟩:=a1C W (v:=0) ∅ ∅;exact absurd (hp.mem_iff.mpr ht) (by simp[a2B,crs])
  have L:=Lad.of W hp hne (a5r _ _ _ λt _=>⟨rfl,rfl⟩).2;exact⟨_,_,_,L.three W hr,L⟩
 ·rintro⟨k,u,d,hk,L⟩;obtain⟨u',d',L',e⟩:=L.cols W hk;rw[e];exact L'.perm W ∅
def blS (T:⋯):List Int:=if decide ((T.length:Int)=3)=true then (match T[1]? with | some t=>[t.1,t.2] | none=>[]) else T.map (·.1)
structure a0O (n:Int)(ts:⋯)(bs:List Int):Prop where
 busy:a2I n ts bs
 lean:∀ p∈bs,¬ a2I n ts (Y5 bs p)
 nd:bs.Nodup
 rng:∀ x∈bs,0<=x/\x<n
theorem a1F (hok:L5 n ts){x:Int}:x∉nb ts x:=λh=>(L6 hok h).2.2.2.2 rfl
theorem a2c {bs:List Int}{p x:Int}(hnd:bs.Nodup)(h:∀ y,y∈bs/\(y=x\/y∈nb ts x)↔y=p):a7J ts bs x=[p]:=a5G (hnd.filter _) λy=>by
 rw[<- h y];unfold a7J;rw[aS,decide_eq_true_iff,aJ]
theorem Lad.lean (W:C4 n ts)(L:Lad ts k u d)(hk:3<=k){bs:List Int}(hp:bs.Perm (blS (Y9 0 k u d))):a0O n ts bs:=by
 have hok:=W.rng;unfold blS at hp;rw[W4] at hp;by_cases h:k=3
 ·subst h;rw[if_pos (by simp),S5.mpr ⟨show 1<3 by omega,rfl⟩] at hp;dsimp only at hp;have ne:u 1≠d 1:=L.ud 1 1 ∅ ∅;have hm:∀ x,x∈bs↔x=u 1\/x=d 1:=λx=>by rw[hp.mem_iff];simp
  have hnd:bs.Nodup:=hp.nodup_iff.mpr (by simp[ne]);have q:∀(i:Nat),i<3->i≠1->a7J ts bs (u i)=[u 1]/\a7J ts bs (d i)=[d 1]:=λi hi h1=>by
   refine⟨a2c hnd λy=>?_,a2c hnd λy=>?_⟩
   ·rw[hm,L.nbu hok hi];constructor
    ·rintro⟨rfl | rfl,e⟩
     ·rfl
     ·rcases e with e | e | ⟨_,e⟩ | ⟨_,e⟩
      ·exact absurd e.symm (L.ud _ _ hi ∅)
      ·exact absurd (L.id _ _ ∅ hi e) (dZ h1)
      ·exact absurd e.symm (L.ud _ _ ∅ ∅)
      ·exact absurd e.symm (L.ud _ _ ∅ ∅)
    ·rintro rfl;refine⟨.inl rfl,.inr (.inr ?_)⟩;have:i=0\/i=2:=∅
     rcases this with rfl | rfl
     ·exact .inl ⟨∅,rfl⟩
     ·exact .inr ⟨∅,rfl⟩
   ·rw[hm,L.nbd hok hi];constructor
    ·rintro⟨rfl | rfl,e⟩
     ·rcases e with e | e | ⟨_,e⟩ | ⟨_,e⟩
      ·exact absurd e (L.ud _ _ ∅ hi)
      ·exact absurd (L.iu _ _ ∅ hi e) (dZ h1)
      ·exact absurd e (L.ud _ _ ∅ ∅)
      ·exact absurd e (L.ud _ _ ∅ ∅)
     ·rfl
    ·rintro rfl;refine⟨.inr rfl,.inr (.inr ?_)⟩;have:i=0\/i=2:=∅
     rcases this with rfl | rfl
     ·exact .inl ⟨∅,rfl⟩
     ·exact .inr ⟨∅,rfl⟩
  have r1:=L.ur W (i:=1) ∅;refine⟨⟨X4 hok ((hm _).mpr (.inl rfl)) λy hy=>?_,λx x0 x1 hx=>?_⟩,λp hpb=>?_,hnd,λx hx=>?_⟩
  ·rcases (hm y).mp hy with rfl | rfl
   ·exact .base
   ·exact .step .base ((L.nbu hok ∅).mpr (.inl rfl)) ((hm _).mpr (.inr rfl))
  ·rcases aj.mp (L.cover W x0 x1) with h | h
   ·obtain⟨i,hi,rfl⟩:=K9.mp h;have h1:i≠1:=λe=>hx (by subst e;exact (hm _).mpr (.inl rfl))
    refine⟨u 1,(L.nbu hok hi).mpr (.inr ?_),(hm _).mpr (.inl rfl)⟩;have:i=0\/i=2:=∅
    rcases this with rfl | rfl
    ·exact .inl ⟨∅,rfl⟩
    ·exact .inr ⟨∅,rfl⟩
   ·obtain⟨i,hi,rfl⟩:=K9.mp h;have h1:i≠1:=λe=>hx (by subst e;exact (hm _).mpr (.inr rfl))
    refine⟨d 1,(L.nbd hok hi).mpr (.inr ?_),(hm _).mpr (.inr rfl)⟩;have:i=0\/i=2:=∅
    rcases this with rfl | rfl
    ·exact .inl ⟨∅,rfl⟩
    ·exact .inr ⟨∅,rfl⟩
  ·have r0:=L.ur W (i:=0) ∅;have q0:=q 0 ∅ ∅;rcases (hm p).mp hpb with rfl | rfl
   ·exact Y1 r0.1.1 r0.1.2 q0.1
   ·exact Y1 r0.2.1 r0.2.2 q0.2
  ·rcases (hm x).mp hx with rfl | rfl
   ·exact r1.1
   ·exact r1.2
 ·rw[if_neg (by simp;omega)] at hp;have em:(Y9 0 k u d).map (·.1)=Q4 k u:=by
   unfold Y9 Q4;rw[cb,gQ];rfl
  rw[em] at hp;have hm:∀ x,x∈bs↔∃ i,i<k/\x=u i:=λx=>by rw[hp.mem_iff,K9]
  have hnd:bs.Nodup:=hp.nodup_iff.mpr (a3N L.iu);have way:∀ i,i<k->Rch ts (·∈bs) (u 0) (u i):=λi=>by
   induction i with
   | zero=>exact λ_=>.base
   | succ i ih=>exact λhi=>.step (ih ∅) ((L.nbu hok ∅).mpr (.inr (.inl ⟨hi,rfl⟩))) ((hm _).mpr ⟨_,hi,rfl⟩)
  refine⟨⟨X4 hok ((hm _).mpr ⟨0,∅,rfl⟩) λy hy=>?_,λx x0 x1 hx=>?_⟩,λp hpb=>?_,hnd,λx hx=>?_⟩
  ·obtain⟨i,hi,rfl⟩:=(hm y).mp hy;exact way i hi
  ·rcases aj.mp (L.cover W x0 x1) with h | h
   ·obtain⟨i,hi,rfl⟩:=K9.mp h;exact absurd ((hm _).mpr ⟨i,hi,rfl⟩) hx
   ·obtain⟨i,hi,rfl⟩:=K9.mp h;exact⟨u i,(L.nbd hok hi).mpr (.inl rfl),(hm _).mpr ⟨i,hi,rfl⟩⟩
  ·obtain⟨i,hi,rfl⟩:=(hm p).mp hpb;have r0:=L.ur W hi;refine Y1 r0.2.1 r0.2.2 (a2c hnd λy=>?_);rw[hm,L.nbd hok hi];constructor
   ·rintro⟨⟨j,hj,rfl⟩,e⟩;rcases e with e | e | ⟨_,e⟩ | ⟨_,e⟩
    ·exact absurd e (L.ud _ _ hj hi)
    ·exact e
    ·exact absurd e (L.ud _ _ hj ∅)
    ·exact absurd e (L.ud _ _ hj ∅)
   ·rintro rfl;exact⟨⟨i,hi,rfl⟩,.inr (.inl rfl)⟩
  ·obtain⟨i,hi,rfl⟩:=(hm x).mp hx;exact (L.ur W hi).1
theorem b0R {T:⋯}(h:3<=T.length):((blS T).length:Int)=if T.length=3 then 2 else (T.length:Int):=by
 unfold blS;by_cases h3:T.length=3
 ·rw[if_pos (by simp;omega),if_pos h3];have:T[1]?=some T[1]:=au ∅;rw[this];rfl
 ·rw[if_neg (by simp;omega),if_neg h3,ae]
end
end L2
end
section
namespace L2
open PySem
theorem a0w {α:Type}(f g:α->Nat):∀ L:List α,(L.map λx=>f x+g x).sum=(L.map f).sum+(L.map g).sum
 | []=>rfl
 | x::L=>by simp only[aH,gp,a0w f g L];omega
theorem a0v {a:Int}:∀ {L:List Int},L.Nodup->(L.map λx=>if x=a then 1 else 0).sum=if a∈L then 1 else 0
 | [],_=>rfl
 | x::L,h=>by
  obtain⟨h1,h2⟩:=bW.mp h;rw[aH,gp,a0v h2];by_cases e:x=a
  ·subst e;rw[if_pos rfl,if_neg h1,if_pos (aM ..)]
  ·rw[if_neg e];by_cases m:a∈L
   ·rw[if_pos m,if_pos (aI _ m)]
   ·rw[if_neg m,if_neg (λk=>(aJ.mp k).elim (λk=>e k.symm) m)]
theorem a6v {t:Int×Int}{us:⋯}{x:Int}(h:t.1≠t.2):(nb (t::us) x).length=((if x=t.1 then 1 else 0)+if x=t.2 then 1 else 0)+(nb us x).length:=by
 unfold nb;rw[dM];by_cases h1:t.1=x
 ·subst h1;simp[h];omega
 ·by_cases h2:t.2=x
  ·subst h2;simp[h1,dZ h1];omega
  ·simp[h1,h2,dZ h1,dZ h2]
theorem a4f {L:List Int}(hL:L.Nodup):∀ {us:⋯},(∀ t∈us,t.1≠t.2)->(∀ t∈us,t.1∈L↔t.2∈L)->(L.map λx=>(nb us x).length).sum=2*(us.filter λt=>decide (t.1∈L)).length
 | [],_,_=>by
  have:∀ L:List Int,(L.map λx=>(nb [] x).length).sum=0:=λL=>by
   induction L with
   | nil=>rfl
   | cons x L ih=>rw[aH,gp,ih];rfl
  exact this L
 | t::us,h,c=>by
  have ih:=a4f hL (us:=us) (λx hx=>h x (aI _ hx)) λx hx=>c x (aI _ hx)
  have ct:=c t (aM ..);have e:(L.map λx=>(nb (t::us) x).length)=L.map λx=>((if x=t.1 then 1 else 0)+if x=t.2 then 1 else 0)+(nb us x).length:=cI λx _=>a6v (h t (aM ..))
  rw[e,a0w,a0w,a0v hL,a0v hL,ih];by_cases m:t.1∈L
  ·rw[if_pos m,if_pos (ct.mp m),cz (~~~m),aD];omega
  ·rw[if_neg m,if_neg (λk=>m (ct.mpr k)),cP (~~~m)];omega
theorem a0S {f:Int->Nat}{c:Nat}:∀ {L:List Int},(∀ x∈L,f x=c)->(L.map f).sum=c*L.length
 | [],_=>rfl
 | x::L,h=>by
  rw[aH,gp,a0S λy hy=>h y (aI _ hy),h x (aM ..),aD,Nat.mul_succ];omega
section
variable {n:Int}{ts:⋯}
theorem a6n:(B0 0 n.toNat).Pairwise (·<·):=by
 unfold B0;rw[bT];exact cE.imp λh=>∅
theorem L7 {x:Int}:x∈B0 0 n.toNat↔0<=x/\x<n:=by rw[E6];omega
theorem b0H (W:C4 n ts):Hng ts (B0 0 n.toNat):=by
 have h3:=W.n3;refine X4 W.rng (L7.mpr ⟨h7 0,∅⟩) λy hy=>?_
 have hy:=L7.mp hy;refine W.conn (Rch ts (·∈B0 0 n.toNat) 0) (λt ht=>?_) 0 y ∅ ∅ hy.1 hy.2 .base;have r:=W.rng t ht;exact⟨λk=>.step k ((J1 W.rng).mpr (.inl ht)) (L7.mpr ⟨∅,∅⟩),λk=>.step k ((J1 W.rng).mpr (.inr ht)) (L7.mpr ⟨∅,∅⟩)⟩
theorem a6W (W:C4 n ts)(h:(ts.length:Int)+1=n):K5 n ts ts:=a3x W (λt ht=>ht) W.srt h (b0H W)
theorem a6X (W:C4 n ts)(h:∀ v,0<=v->v<n->(nb ts v).length=2):K5 n ts ts.tail/\(N8 n ts.tail).length=2:=by
 have h3:=W.n3;have ndR:=E7 (a6n (n:=n));have hne:∀ t∈ts,t.1≠t.2:=λt ht=>by have:=W.rng t ht;omega
 have all2:=a4f ndR hne λt ht=>by have:=W.rng t ht;rw[L7,L7];omega
 rw[a0S (c:=2) λx hx=>h x (L7.mp hx).1 (L7.mp hx).2,jR.mpr λt ht=>by have:=W.rng t ht;exact decide_eq_true (L7.mpr ⟨∅,∅⟩),B1] at all2;cases ts with
 | nil=>simp at all2;omega
 | cons t us =>
  show K5 n (t::us) us/\(N8 n us).length=2;have ht:=W.rng t (aM ..);have hok:L5 n us:=λx hx=>W.rng x (aI _ hx)
  have hneu:∀ x∈us,x.1≠x.2:=λx hx=>hne x (aI _ hx)
  have dg:∀ v,0<=v->v<n->((if v=t.1 then 1 else 0)+if v=t.2 then 1 else 0)+(nb us v).length=2:=λv v0 v1=>by rw[<- a6v (hne t (aM ..))];exact h v v0 v1
  refine⟨a3x W (λx hx=>aI _ hx) (gb.mp W.srt).2 (by rw[aD] at all2;omega) (X4 hok (L7.mpr ⟨h7 0,∅⟩) λy hy=>?_),?_⟩
  ·refine aX λhn=>?_
   have hy:=L7.mp hy;have step:∀ x∈us,Rch us (·∈B0 0 n.toNat) 0 x.1↔Rch us (·∈B0 0 n.toNat) 0 x.2:=λx hx=>by
    have r:=hok x hx;exact⟨λk=>.step k ((J1 hok).mpr (.inl hx)) (L7.mpr ⟨∅,∅⟩),λk=>.step k ((J1 hok).mpr (.inr hx)) (L7.mpr ⟨∅,∅⟩)⟩
   by_cases hc:Rch us (·∈B0 0 n.toNat) 0 t.1↔Rch us (·∈B0 0 n.toNat) 0 t.2
   ·refine hn (W.conn (Rch us (·∈B0 0 n.toNat) 0) (λx hx=>?_) 0 y ∅ ∅ hy.1 hy.2 .base);rcases aJ.mp hx with rfl | hx
    ·exact hc
    ·exact step x hx
   ·classical
    let L:=(B0 0 n.toNat).filter λx=>decide (Rch us (·∈B0 0 n.toNat) 0 x)
    have mL:∀ x,x∈L↔(0<=x/\x<n)/\Rch us (·∈B0 0 n.toNat) 0 x:=λx=>by
     show x∈(B0 0 n.toNat).filter _↔_;rw[aS,L7,decide_eq_true_iff]
    have ndL:L.Nodup:=ndR.filter _;have s1:=a4f ndL hneu λx hx=>by
     have r:=hok x hx;rw[mL,mL,step x hx];exact⟨λk=>⟨⟨∅,∅⟩,k.2⟩,λk=>⟨⟨∅,∅⟩,k.2⟩⟩
    have s2:(L.map λx=>((if x=t.1 then 1 else 0)+if x=t.2 then 1 else 0)+(nb us x).length).sum=2*L.length:=a0S λx hx=>dg x ((mL x).mp hx).1.1 ((mL x).mp hx).1.2
    rw[a0w,a0w,a0v ndL,a0v ndL,s1] at s2;by_cases c1:t.1∈L
    ·have c2:¬ t.2∈L:=λc2=>hc ⟨λ_=>((mL _).mp c2).2,λ_=>((mL _).mp c1).2⟩
     rw[if_pos c1,if_neg c2] at s2;omega
    ·by_cases c2:t.2∈L
     ·rw[if_neg c1,if_pos c2] at s2;omega
     ·exact hc ⟨λk=>absurd ((mL _).mpr ⟨⟨∅,∅⟩,k⟩) c1,λk=>absurd ((mL _).mpr ⟨⟨∅,∅⟩,k⟩) c2⟩
  ·have:(N8 n us).length=[t.1,t.2].length:=a2h (ndR.filter _) (by simp;omega) λx=>by
    unfold N8;rw[aS,L7,decide_eq_true_iff];constructor
    ·rintro⟨⟨a,b⟩,c⟩;have:=dg x a b;by_cases e1:x=t.1
     ·simp[e1]
     ·by_cases e2:x=t.2
      ·simp[e2]
      ·rw[if_neg e1,if_neg e2] at this;omega
    ·intro hx;have hx:x=t.1\/x=t.2:= ~~~hx
     refine⟨∅,?_⟩;have:=dg x ∅ ∅;rcases hx with e | e
     ·rw[if_pos e,if_neg ∅] at this;omega
     ·rw[if_neg ∅,if_pos e] at this;omega
   rw[this];rfl
def a1y:Nat->⋯
 | 0=>[]
 | b+1=>a1y b++(B0 0 b).map λa=>(a,(b:Int))
theorem a1h:∀ m:Nat,2*(a1y m).length+m=m*m
 | 0=>rfl
 | m+1=>by
  have:=a1h m;show 2*(a1y m++(B0 0 m).map _).length+(m+1)=(m+1)*(m+1)
  have e:(m+1)*(m+1)=m*m+2*m+1:=by rw[Nat.add_mul,Nat.mul_add];omega
  rw[ak,ae,B1,e];omega
theorem Z3 {t:Int×Int}:∀ {m:Nat},t∈a1y m↔0<=t.1/\t.1<t.2/\t.2<m
 | 0=>⟨λh=>(by cases h),λh=>∅⟩
 | m+1=>by
  show t∈a1y m++_↔_;rw[aj,Z3 (m:=m),aR];constructor
  ·rintro (h | ⟨a,ha,rfl⟩)
   ·omega
   ·have:=E6.mp ha;dsimp only;omega
  ·intro h;by_cases e:t.2=m
   ·exact .inr ⟨t.1,E6.mpr ∅,by rw[<- e]⟩
   ·exact .inl ∅
theorem a9b (W:C4 n ts)(h:2*(ts.length:Int)=n*(n-1)){a b:Int}(a0:0<=a)(a1:a<n)(b0:0<=b)(b1:b<n)(hab:a≠b):b∈nb ts a:=by
 have h3:=W.n3;have hl:=a1h n.toNat;have e:((n.toNat:Nat):Int)=n:=aY ∅;have hl':2*((a1y n.toNat).length:Int)+n=n*n:=by
  rw[<- e];exact_mod_cast hl
 have e2:n*(n-1)=n*n-n:=by rw[Int.mul_sub,j3]
 have p:=Y0 (Q0 W.srt) (b:=a1y n.toNat) (λt ht=>Z3.mpr (by have:=W.rng t ht;omega)) ∅;rw[a3i W.rng,<- p.mem_iff,Z3];unfold mm;dsimp only;split<;>split<;>omega
theorem a3t (W:C4 n ts)(h:2*(ts.length:Int)=n*(n-1)):a0O n ts [0]:=by
 have h3:=W.n3;refine⟨⟨X4 W.rng (ag.mpr rfl) λy hy=>by rw[ag.mp hy];exact .base,λx x0 x1 hx=>⟨0,a9b W h x0 x1 (h7 0) ∅ λe=>hx (ag.mpr e),ag.mpr rfl⟩⟩,λp hp hB=>?_,by simp,λx hx=>by rw[ag.mp hx];omega⟩;rw[ag.mp hp] at hB;exact hB.1.1 (by simp[Y5])
def N4 (n:Int)(ts:⋯):List Int:=(B0 0 n.toNat).filter λx=>!decide (x∈nb ts 0)
def a0C (o f:List Int):⋯:=o.flatMap λa=>f.map λb=>mm a b
def Q1 (n:Int)(ts:⋯):Prop:=∀ t,t∈ts↔∃ a∈N4 n ts,∃ b∈nb ts 0,t=mm a b
theorem L3 {x:Int}:x∈N4 n ts↔(0<=x/\x<n)/\x∉nb ts 0:=by
 unfold N4;rw[aS,L7];simp
theorem a2e {o f:List Int}{t:Int×Int}:t∈a0C o f↔∃ a∈o,∃ b∈f,t=mm a b:=by
 unfold a0C;simp only[dP,aR];exact⟨λ⟨a,h,b,h',e⟩=>⟨a,h,b,h',e.symm⟩,λ⟨a,h,b,h',e⟩=>⟨a,h,b,h',e.symm⟩⟩
theorem a2a {f:List Int}:∀ {o:List Int},(a0C o f).length=o.length*f.length
 | []=>by simp[a0C]
 | a::o=>by
  have:=a2a (f:=f) (o:=o);unfold a0C at this ⊢;rw[fB,ak,ae,this,aD,fe];omega
theorem a5F:(N4 n ts).Pairwise (·<·):=a6n.filter _
theorem a3T (W:C4 n ts):((N4 n ts).length:Int)+(nb ts 0).length=n:=by
 have h3:=W.n3;have s:=a3k (us:=nb ts 0) (l:=B0 0 n.toNat);have:((B0 0 n.toNat).filter λx=>decide (x∈nb ts 0)).length=(nb ts 0).length:=a2h ((E7 a6n).filter _) (E7 (U6 W.rng W.srt 0)) λx=>by
  rw[aS,L7,decide_eq_true_iff];exact⟨λh=>h.2,λh=>⟨by have:=L6 W.rng h;omega,h⟩⟩
 rw[B1,this] at s;unfold N4;omega
theorem a9S (W:C4 n ts):(a0C (N4 n ts) (nb ts 0)).Nodup:=by
 unfold a0C List.Nodup;rw[jE];refine⟨λa ha=>?_,(E7 a5F).imp_of_mem λ{a b} ha hb hab t ht t' ht' e=>?_⟩
 ·rw[bT];refine (E7 (U6 W.rng W.srt 0)).imp_of_mem λ{x y} hx hy hxy e=>?_
  rcases Q7.mp e with ⟨_,e⟩ | ⟨e,_⟩
  ·exact hxy e
  ·exact (L3.mp ha).2 (e ▸ hy)
 ·obtain⟨x,hx,rfl⟩:=aR.mp ht;obtain⟨y,hy,rfl⟩:=aR.mp ht';rcases Q7.mp e with ⟨e,_⟩ | ⟨e,_⟩
  ·exact hab e
  ·exact (L3.mp ha).2 (e ▸ hy)
theorem Q1.perm (W:C4 n ts)(S:Q1 n ts):(a0C (N4 n ts) (nb ts 0)).Perm ts:=(cc (a9S W) (Q0 W.srt)).mpr λt=>by rw[a2e];exact (S t).symm
theorem Q1.len (W:C4 n ts)(S:Q1 n ts):ts.length=(N4 n ts).length*(nb ts 0).length:=by rw[<- (S.perm W).length_eq,a2a]
theorem Q1.far (W:C4 n ts)(S:Q1 n ts){x:Int}(hx:x∈nb ts 0):nb ts x=N4 n ts:=W9 (U6 W.rng W.srt x) a5F λy=>by
 rw[a3i W.rng,S];constructor
 ·rintro⟨a,ha,b,hb,e⟩;rcases Q7.mp e with ⟨e,_⟩ | ⟨_,e⟩
  ·exact absurd (e ▸ hx) (L3.mp ha).2
  ·exact e ▸ ha
 ·intro hy;exact⟨y,hy,x,hx,a0e _ _⟩
theorem Q1.own (W:C4 n ts)(S:Q1 n ts){x:Int}(hx:x∈N4 n ts):nb ts x=nb ts 0:=W9 (U6 W.rng W.srt x) (U6 W.rng W.srt 0) λy=>by
 rw[a3i W.rng,S];constructor
 ·rintro⟨a,ha,b,hb,e⟩;rcases Q7.mp e with ⟨_,e⟩ | ⟨e,_⟩
  ·exact e ▸ hb
  ·exact absurd (e ▸ hb) (L3.mp hx).2
 ·intro hy;exact⟨x,hx,y,hy,rfl⟩
def sdB (ts:⋯)(far near:List Int)(i:Int):Bool:=decide (nb ts i=if decide (i∈far)=true then near else far)
theorem a6w {t:Int×Int}(h:t.1<t.2):t=mm t.1 t.2:=by
 unfold mm;rw[if_neg ∅,if_pos ∅]
theorem a8g (W:C4 n ts){u:Int}{us:List Int}(e0:nb ts 0=u::us):(B0 0 n.toNat).all (sdB ts (u::us) (nb ts u))=true↔Q1 n ts:=by
 rw[<- e0,gw];have hu:u∈nb ts 0:=by rw[e0];exact aM ..
 constructor
 ·intro h;have q1:∀ x,0<=x->x<n->x∈nb ts 0->nb ts x=nb ts u:=λx x0 x1 hx=>by
   have:=of_decide_eq_true (h x (L7.mpr ⟨x0,x1⟩))
   rwa [if_pos (decide_eq_true hx)] at this
  have q2:∀ x,0<=x->x<n->x∉nb ts 0->nb ts x=nb ts 0:=λx x0 x1 hx=>by
   have:=of_decide_eq_true (h x (L7.mpr ⟨x0,x1⟩))
   rwa [if_neg (~~~hx)] at this
  intro t;constructor
  ·intro ht;have r:=W.rng t ht;have hn:=(J1 W.rng).mpr (.inl ht:(t.1,t.2)∈ts\/(t.2,t.1)∈ts);by_cases c:t.1∈nb ts 0
   ·refine⟨t.2,L3.mpr ⟨⟨∅,∅⟩,λk=>?_⟩,t.1,c,by rw[a0e];exact a6w r.2.1⟩;rw[q1 t.1 ∅ ∅ c,<- q1 t.2 ∅ ∅ k] at hn;exact a1F W.rng hn
   ·rw[q2 t.1 ∅ ∅ c] at hn;exact⟨t.1,L3.mpr ⟨⟨∅,∅⟩,c⟩,t.2,hn,a6w r.2.1⟩
  ·rintro⟨a,ha,b,hb,rfl⟩;obtain⟨⟨a0,a1⟩,ha⟩:=L3.mp ha;rw[<- a3i W.rng,q2 a a0 a1 ha];exact hb
 ·intro S x hx;have hx:=L7.mp hx;refine decide_eq_true ?_;by_cases c:x∈nb ts 0
  ·rw[if_pos (decide_eq_true c),S.far W c,S.far W hu]
  ·rw[if_neg (~~~c)];exact S.own W (L3.mpr ⟨hx,c⟩)
theorem a5A (W:C4 n ts):(ts.filter (λt=>decide (decide (t.1∈N4 n ts)=decide (t.2∈N4 n ts)))=[]/\(ts.length:Int)=((N4 n ts).length:Int)*(n-((N4 n ts).length:Int)))↔Q1 n ts:=by
 have ol:=a3T W;have e:n-((N4 n ts).length:Int)=((nb ts 0).length:Int):=∅
 rw[e,List.filter_eq_nil_iff];constructor
 ·rintro⟨h1,h2⟩;have p:=Y0 (Q0 W.srt) (b:=a0C (N4 n ts) (nb ts 0)) (λt ht=>a2e.mpr ?_) (by rw[a2a];exact ge (by exact_mod_cast h2.symm))
  ·intro t;rw[<- p.mem_iff,a2e]
  ·have r:=W.rng t ht;have h:=h1 t ht;have inF:∀ {x:Int},0<=x->x<n->x∉N4 n ts->x∈nb ts 0:=λ{x} x0 x1 hx=>aX λk=>hx (L3.mpr ⟨⟨x0,x1⟩,k⟩)
   by_cases c1:t.1∈N4 n ts<;>by_cases c2:t.2∈N4 n ts
   ·simp[c1,c2] at h
   ·exact⟨t.1,c1,t.2,inF ∅ ∅ c2,a6w r.2.1⟩
   ·exact⟨t.2,c2,t.1,inF ∅ ∅ c1,by rw[a0e];exact a6w r.2.1⟩
   ·simp[c1,c2] at h
 ·intro S;refine⟨λt ht=>?_,by exact_mod_cast S.len W⟩;obtain⟨a,ha,b,hb,e⟩:=(S t).mp ht;have hb':b∉N4 n ts:=λk=>(L3.mp k).2 hb
  rw[e];unfold mm;dsimp only;have hab:a≠b:=λe=>hb' (e ▸ ha)
  split<;>split<;>(first | omega | simp[ha,hb'])
theorem a1R (W:C4 n ts){u:Int}{us:List Int}(e0:nb ts 0=u::us)(S:Q1 n ts)(h:(ts.length:Int)+1≠n):a0O n ts [0,u]:=by
 have h3:=W.n3;have hok:=W.rng;have hu:u∈nb ts 0:=by rw[e0];exact aM ..
 have ru:=L6 hok hu;have h0:(0:Int)∈N4 n ts:=L3.mpr ⟨∅,a1F hok⟩;have ol:=a3T W;have sl:=S.len W;have f2:nb ts 0≠[u]:=λe=>by rw[e] at sl ol;simp at sl ol;omega
 have o2:N4 n ts≠[0]:=λe=>by rw[e] at sl ol;simp at sl ol;omega
 obtain⟨x,hx,hxu⟩:=a4S (E7 (U6 hok W.srt 0)) (by rw[e0];simp) f2;obtain⟨y,hy,hy0⟩:=a4S (E7 a5F) (ic h0) o2;have une:u≠0:=λe=>a1F hok (e ▸ hu)
 have hnd:([0,u]:List Int).Nodup:=by simp;exact λe=>une e.symm
 have hm:∀ z,z∈([0,u]:List Int)↔z=0\/z=u:=λz=>by simp
 refine⟨⟨X4 hok ((hm _).mpr (.inl rfl)) λz hz=>?_,λz z0 z1 hz=>?_⟩,λp hp=>?_,hnd,λz hz=>?_⟩
 ·rcases (hm z).mp hz with rfl | rfl
  ·exact .base
  ·exact .step .base hu ((hm _).mpr (.inr rfl))
 ·by_cases c:z∈nb ts 0
  ·exact⟨0,by rw[S.far W c];exact h0,(hm _).mpr (.inl rfl)⟩
  ·exact⟨u,by rw[S.own W (L3.mpr ⟨⟨z0,z1⟩,c⟩)];exact hu,(hm _).mpr (.inr rfl)⟩
 ·rcases (hm p).mp hp with rfl | rfl
  ·have rx:=L6 hok hx;refine Y1 rx.1 rx.2.1 (a2c hnd λz=>?_);rw[hm,S.far W hx];constructor
   ·rintro⟨rfl | rfl,e⟩
    ·rfl
    ·rcases e with e | e
     ·exact absurd e (dZ hxu)
     ·exact absurd hu (L3.mp e).2
   ·rintro rfl;exact⟨.inl rfl,.inr h0⟩
  ·have ry:=(L3.mp hy).1;refine Y1 ry.1 ry.2 (a2c hnd λz=>?_);rw[hm,S.own W hy];constructor
   ·rintro⟨rfl | rfl,e⟩
    ·rcases e with e | e
     ·exact absurd e (dZ hy0)
     ·exact absurd e (a1F hok)
    ·rfl
   ·rintro rfl;exact⟨.inr rfl,.inr hu⟩
 ·rcases (hm z).mp hz with rfl | rfl<;>omega
end
end L2
end
section
namespace L2
open PySem
theorem b3O {n:Nat}:HT.sIx n 0 (some 1)=min 1 n:=by unfold HT.sIx;simp
theorem a9l {xs:List V}:Z8 xs (some 1) none=xs.drop 1:=by
 have e2:HT.sIx xs.length xs.length none=xs.length:=rfl;unfold Z8;rw[b3O,e2];cases xs with
 | nil=>rfl
 | cons x r=>rw[show min 1 (x::r).length=1 by simp];simp
inductive Kd | tree | full | ring | sides | ladder
def Kd.w:Kd->Str
 | .tree=>"tree" | .full=>"full" | .ring=>"ring" | .sides=>"sides" | .ladder=>"ladder"
def V2 (n:Int)(ts:⋯):Bool:=(G9 n ts).all λr=>decide ((r.length:Int)=2)
section
variable {n:Int}{ts us us':⋯}{k:Kd}
theorem a0n:V2 n ts=true↔∀ v,0<=v->v<n->(nb ts v).length=2:=by
 unfold V2 G9;rw[iD,gw];constructor
 ·intro h v v0 v1;have:=h v.toNat (bh.mpr ∅);have e:((v.toNat:Nat):Int)=v:=aY v0;have:=of_decide_eq_true this;dsimp only at this;rw[e] at this;omega
 ·intro h x hx;have:=h x ∅ (by have:=bh.mp hx;omega);exact decide_eq_true (by dsimp only;omega)
theorem a2d (h:¬ V2 n ts=true):∃ v,0<=v/\v<n/\(nb ts v).length≠2:=aX λk=>h (a0n.mpr λv v0 v1=>aX λe=>k ⟨v,v0,v1,e⟩)
def AtD (n:Int)(ts:⋯):Kd->⋯->Prop
 | .tree,us=>us=ts
 | .ring,us=>us=ts.tail
 | .full,us=>a1l n ts [0] us
 | .sides,us=>a1l n ts [0,(nb ts 0).headD 0] us
 | .ladder,us=>∃ bs:List Int,bs.Perm (blS (T0 n ts))/\bs.Pairwise (·<=·)/\a1l n ts bs us
def a9f (n:Int)(ts:⋯):Kd->Int
 | .tree=>(N8 n ts).length
 | .full=>n-1
 | .ring=>2
 | .sides=>n-2
 | .ladder=>if n=6 then 4 else n / 2
open Classical in
noncomputable def R8 (n:Int)(ts:⋯):Option Kd :=
 if (ts.length:Int)=n-1 then some .tree else if 2*(ts.length:Int)=n*(n-1) then some .full else if V2 n ts=true then some .ring else if Q1 n ts then some .sides else if a2t ts then some .ladder else none
structure AtO (n:Int)(ts:⋯)(k:Kd)(us:⋯):Prop where
 tree:K5 n ts us
 due:((N8 n us).length:Int)=a9f n ts k
 det:AtD n ts k us
theorem AtO.eq (h:AtO n ts k us)(h':AtO n ts k us'):us=us':=by
 obtain⟨t,_,d⟩:=h;obtain⟨t',_,d'⟩:=h';cases k with
 | tree=>exact d.trans d'.symm
 | ring=>exact d.trans d'.symm
 | full=>exact a1l.det d d' t.srt t'.srt
 | sides=>exact a1l.det d d' t.srt t'.srt
 | ladder =>
  obtain⟨bs,p,s,d⟩:=d;obtain⟨bs',p',s',d'⟩:=d';have e:bs=bs':=eO (le:=(·<=·)) (λa b _ _ x y=>∅) s s' (p.trans p'.symm);subst e;exact a1l.det d d' t.srt t'.srt
theorem b0S (W:C4 n ts)(h:(ts.length:Int)=n-1):AtO n ts .tree ts:=⟨a6W W ∅,rfl,rfl⟩
theorem b0T (W:C4 n ts)(h:V2 n ts=true):AtO n ts .ring ts.tail:=by
 obtain⟨a,b⟩:=a6X W (a0n.mp h);exact⟨a,by rw[b];rfl,rfl⟩
theorem a2i (W:C4 n ts){bs:List Int}(L:a0O n ts bs)(T:K5 n ts us)(hs:∀ x,0<=x->x<n->x∉bs->(nb us x).length=1):((N8 n us).length:Int)=n-bs.length:=a5h T W.rng W.n3 L.nd L.rng L.lean hs
theorem b0U (W:C4 n ts)(h:2*(ts.length:Int)=n*(n-1))(T:K5 n ts us)(hs:∀ x,0<=x->x<n->x∉[(0:Int)]->(nb us x).length=1)(hb:a1l n ts [0] us):AtO n ts .full us:=⟨T,a2i W (a3t W h) T hs,hb⟩
theorem a9r (W:C4 n ts){u:Int}{vs:List Int}(e0:nb ts 0=u::vs)(S:Q1 n ts)(h:(ts.length:Int)≠n-1)(T:K5 n ts us)(hs:∀ x,0<=x->x<n->x∉[0,u]->(nb us x).length=1)(hb:a1l n ts [0,u] us):AtO n ts .sides us:=⟨T,a2i W (a1R W e0 S ∅) T hs,by unfold AtD;rw[e0];exact hb⟩
theorem a6D (W:C4 n ts)(L:a2t ts){bs:List Int}(hp:bs.Perm (blS (T0 n ts))):a0O n ts bs/\(bs.length:Int)=n-a9f n ts .ladder:=by
 obtain⟨m,u,d,hm,L⟩:=L;obtain⟨u',d',L',e⟩:=L.cols W hm;have hn:=L'.size W;rw[e] at hp;refine⟨L'.lean W hm hp,?_⟩;rw[hp.length_eq,b0R (by rw[W4];exact hm),W4];show _=n-if n=6 then 4 else n / 2
 by_cases h:m=3
 ·rw[if_pos h,if_pos ∅];omega
 ·rw[if_neg h,if_neg ∅];omega
theorem a7I (W:C4 n ts)(L:a2t ts){bs:List Int}(hp:bs.Perm (blS (T0 n ts)))(hl:bs.Pairwise (·<=·))(T:K5 n ts us)(hs:∀ x,0<=x->x<n->x∉bs->(nb us x).length=1)(hb:a1l n ts bs us):AtO n ts .ladder us:=by
 obtain⟨a,b⟩:=a6D W L hp;exact⟨T,by rw[a2i W a T hs];omega,bs,hp,hl,hb⟩
end
end L2
end
section
namespace L2
open PySem PySem.Spec PyProof.Rows
section
variable {X:Cx}
def a9P (K:ah)(neg:Bool):R2:=λx y H Q=>∃(d:PyData) (es:List PyData),Dt K H x d/\Dt K H y (.list es)/\d.canLay0=true/\PyData.canLayAll0 es=true/\PyData.depthAll es<=8 /\
 Q (.bl (if neg then !(es.any λe=>PyData.eqv e d) else es.any λe=>PyData.eqv e d)) H
theorem b4J (hu:X.A.units+64<cLine):OpR X (compareOp .In) (a9P X.K false):=by
 intro pins s σ H x y v u Q I rx ry h;obtain⟨d,es,hd,he,c1,c2,dp,q⟩:=h;obtain⟨as,r1⟩:=I.reads hd rx;obtain⟨bs,r2⟩:=I.reads he ry;exact SeqAt.in_list_reads r2 r1 c2 c1 (by have:=fV (PyData.depthAll es) d.depth;omega) ⟨.bl _,H,I,rfl,q⟩
theorem a6Z (hu:X.A.units+64<cLine):OpR X (compareOp .NotIn) (a9P X.K true):=by
 intro pins s σ H x y v u Q I rx ry h;obtain⟨d,es,hd,he,c1,c2,dp,q⟩:=h;obtain⟨as,r1⟩:=I.reads hd rx;obtain⟨bs,r2⟩:=I.reads he ry;exact SeqAt.notIn_list_reads r2 r1 c2 c1 (by have:=fV (PyData.depthAll es) d.depth;omega) ⟨.bl _,H,I,rfl,q⟩
theorem b0g (K:ah)(hu:X.A.units+64<cLine)(h:X.K=K:=by rfl):OpR X (compareOp .NotIn) (a9P K true):=by subst h;exact a6Z hu
end
theorem a9h {K:ah}{H:Hp}:∀ {ps:List (Addr×List Int)},(∀ x∈ps,H x.1=some (.tup (x.2.map V.int)))->Dts K H (ps.map λx=>V.ref x.1) ((ps.map (·.2)).map tI)
 | [],_=>.nil
 | x::r,h=>.cons (.tupI (SqT.of (h x (aM ..)))) (a9h λy hy=>h y (aI _ hy))
theorem b0V (ls:List (List Int))(l:List Int):(ls.map tI).any (λe=>PyData.eqv e (.tuple (l.map cg)))=decide (l∈ls):=by
 rw[List.any_map,fq,eY,decide_eq_true_iff];constructor
 ·rintro⟨u,hu,e⟩;have e':PyData.eqv (.tuple (u.map cg)) (.tuple (l.map cg))=true:=e;rw[W1] at e';rw[<- of_decide_eq_true e'];exact hu
 ·intro h;refine⟨l,h,?_⟩;show PyData.eqv (.tuple (l.map cg)) (.tuple (l.map cg))=true;rw[W1];exact decide_eq_true rfl
def Dok (K:ah)(H:Hp)(v:V):Prop:=∃ d,Dt K H v d/\PyData.canLay0 d=true/\PyData.depth d<=8
theorem a9g {K:ah}{H:Hp}:∀ {xs:List V},(∀ v∈xs,Dok K H v)->∃ ds,Dts K H xs ds/\PyData.canLayAll0 ds=true/\PyData.depthAll ds<=8/\(ds=[]↔xs=[])
 | [],_=>⟨[],.nil,rfl,by simp[PyData.depthAll],by simp⟩
 | x::r,h=>by
  obtain⟨d,h1,h2,h3⟩:=h x (aM ..);obtain⟨ds,k1,k2,k3,_⟩:=a9g λv hv=>h v (aI _ hv)
  refine⟨d::ds,.cons h1 k1,?_,?_,by simp⟩
  ·rw[PyData.canLayAll0,h2,k2];rfl
  ·rw[PyData.depthAll];omega
theorem b0L {K:ah}{H:Hp}{a b:Addr}{xs:List V}{neg:Bool}{Q:VK}(h1:H a=some (.lst xs))(hx:∀ v∈xs,Dok K H v)(h2:H b=some (.lst []))(q:∀ c:Bool,(c=true↔xs=[])->Q (.bl (if neg then !c else c)) H):a1X K neg (.ref a) (.ref b) H Q:=by
 obtain⟨ds,k1,k2,k3,k4⟩:=a9g hx;refine⟨.list ds,.list [],.lst (SqL.of h1) k1,.lst (SqL.of h2) .nil,?_,?_,?_⟩
 ·unfold SeqAt.shaped;rw[PyData.canLay0,PyData.depth,k2,ii,decide_eq_true_iff];omega
 ·exact S1 []
 ·refine q _ ?_;rw[<- k4];cases ds with
  | nil=>simp[PyData.eqv,PyData.eqvAll]
  | cons d r=>simp[PyData.eqv,PyData.eqvAll]
theorem a6N {K:ah}{H:Hp}{a:Addr}{l:List Int}(e:H a=some (.tup (l.map V.int))):Dok K H (.ref a):=⟨_,.tupI (SqT.of e),by rw[PyData.canLay0,K6],by rw[PyData.depth,N9];omega⟩
end L2
end
section
namespace L2
open PySem PySem.Spec PyProof.Rows
section
variable {K:ah}{a b p:Addr}{xs ys:List V}{g:TG}{tc:TT}{te tv:TE}{τ0:St}{H0:Hp}{EE:Hp->Prop}
theorem b0o (Pv:Nat->St->Hp->Prop)(h0:Pv 0 τ0 H0)(hle:ys.length<=xs.length)(hl:∀ i τ H,i<=ys.length->Pv i τ H->SqL K H a xs/\SqL K H b ys)
  (hs:∀ i x y τ H q,xs[i]?=some x->ys[i]?=some y->Pv i τ H->H q=none->g (.ref q) τ (upd H q (.tup [x,y])) fun τ2 H2=>tc τ2 H2 λb H3=>if b=true then te τ2 H3 λv H4=>∃ zs,H4 p=some (.lst zs)/\zs.length<sizeLine/\Pv (i+1) τ2 (upd H4 p (.lst (zs++[v]))) else Pv (i+1) τ2 H3)
  (hd:∀ τ H,Pv ys.length τ H->EE H):lcW g tc te p (a7L K a b) τ0 H0 EE:=by
 refine⟨λi m τ H=>m=ys.length-i/\i<=ys.length/\Pv i τ H,⟨_,rfl,bo _,h0⟩,?_⟩;rintro i m τ H ⟨rfl,hi,hp⟩;obtain⟨q1,q2⟩:=hl i τ H hi hp;rcases cv i ys.length with h | h
 ·have ex:xs[i]?=some xs[i]:=au ∅;have ey:ys[i]?=some ys[i]:=au h;refine .inr ⟨⟨xs,ys,_,_,q1,q2,ex,ey⟩,Pv (i+1),fun τ' H' z=>⟨_,∅,rfl,h,z⟩,?_⟩;rintro v H' ⟨q,x,y,rfl,hn,rfl,y1,y2⟩;exact hs i x y τ H q (y1 xs q1) (y2 ys q2) hp hn
 ·have e:i=ys.length:=∅
  subst e;exact .inl ⟨⟨xs,ys,q1,q2,.inr (aC _)⟩,hd τ H hp⟩
end
abbrev UD:=List Int×List Int
def X7 (k:Nat)(u d:Nat->Int):⋯:=((List.range k).map λi=>mm (u i) (d i))++((List.range (k-1)).map λi=>mm (u i) (u (i+1)))++(List.range (k-1)).map λi=>mm (d i) (d (i+1))
def ofL (l:List Int)(i:Nat):Int:=l.getD i 0
section
variable {n:Int}{ts:⋯}{k:Nat}{u d u' d':Nat->Int}
theorem a3j {t:Int×Int}:t∈X7 k u d↔(∃ i,i<k/\t=mm (u i) (d i))\/∃ i,i+1<k/\(t=mm (u i) (u (i+1))\/t=mm (d i) (d (i+1))):=by
 unfold X7;rw[aj,aj];simp only[aR,bh];constructor
 ·rintro ((⟨i,h,e⟩ | ⟨i,h,e⟩) | ⟨i,h,e⟩)
  ·exact .inl ⟨i,h,e.symm⟩
  ·exact .inr ⟨i,∅,.inl e.symm⟩
  ·exact .inr ⟨i,∅,.inr e.symm⟩
 ·rintro (⟨i,h,e⟩ | ⟨i,h,e | e⟩)
  ·exact .inl (.inl ⟨i,h,e.symm⟩)
  ·exact .inl (.inr ⟨i,∅,e.symm⟩)
  ·exact .inr ⟨i,∅,e.symm⟩
theorem a2K (h:1<=k):(X7 k u d).length+2=3*k:=by unfold X7;simp;omega
theorem a4v (hu:∀ i,i<k->u i=u' i)(hd:∀ i,i<k->d i=d' i):X7 k u d=X7 k u' d':=by
 unfold X7;congr 1
 ·congr 1
  ·exact cI λi hi=>by have:=bh.mp hi;rw[hu i this,hd i this]
  ·exact cI λi hi=>by have:=bh.mp hi;rw[hu i ∅,hu (i+1) ∅]
 ·exact cI λi hi=>by have:=bh.mp hi;rw[hd i ∅,hd (i+1) ∅]
theorem Lad.permU (W:C4 n ts)(L:Lad ts k u d)(h:1<=k):(X7 k u d).Perm ts:=by
 refine Y0 (Q0 W.srt) (λt ht=>a3j.mpr ((L.mem t).mp ht)) ?_;have:=a2K (u:=u) (d:=d) h;have:=L.len;omega
theorem a4P {i:Nat}(h:i<k):ofL (Q4 k u) i=u i:=by unfold ofL Q4;simp[h]
theorem a0U:Q4 (k+1) u=Q4 k u++[u k]:=by unfold Q4;rw[cO,ap];rfl
theorem a6y {l:List Int}{i:Nat}(h:i<l.length):ofL l i∈l:=by unfold ofL;simp[h]
structure a5W (n:Int)(k:Nat)(w:UD):Prop where
 len:w.1.length=w.2.length
 pos:1<=w.1.length
 le:w.1.length<=k
 nd:(w.1++w.2).Nodup
 rng:∀ x∈w.1++w.2,0<=x/\x<n
theorem a5W.lad (W:C4 n ts){w:UD}(h:a5W n k w)(hk:w.1.length=k)(hp:(X7 k (ofL w.1) (ofL w.2)).Perm ts):Lad ts k (ofL w.1) (ofL w.2):=by
 have h2:w.2.length=k:=by rw[<- h.len];exact hk
 obtain⟨n1,n2,n3⟩:=b9.mp h.nd;have inj:∀ {l:List Int},l.Nodup->∀ i j,i<l.length->j<l.length->ofL l i=ofL l j->i=j:=λ{l} hn i j hi hj e=>by
  unfold ofL at e;rw[cB,cB,au hi,au hj] at e;have e:l[i]=l[j]:=e;have pw:=dG.mp hn;rcases cU i j with h | h | h
  ·exact absurd e (pw i j hi hj h)
  ·exact h
  ·exact absurd e.symm (pw j i hj hi h)
 refine⟨λi j hi hj e=>inj n1 i j ∅ ∅ e,λi j hi hj e=>inj n2 i j ∅ ∅ e,λi j hi hj e=>n3 _ (a6y ∅) _ (a6y ∅) e,λt=>by rw[<- hp.mem_iff,a3j],?_⟩;rw[<- hp.length_eq];exact a2K (by have:=h.pos;omega)
def a0N (ts:⋯)(k:Nat)(w:UD):Prop:=∃ u d,Lad ts k u d/\w=(Q4 w.1.length u,Q4 w.1.length d)
theorem a0N.perm (W:C4 n ts){w:UD}(h:a0N ts k w)(hk:w.1.length=k)(h1:1<=k):(X7 k (ofL w.1) (ofL w.2)).Perm ts:=by
 obtain⟨u,d,L,e⟩:=h;rw[hk] at e;have e1:w.1=Q4 k u:=congrArg Prod.fst e;have e2:w.2=Q4 k d:=congrArg Prod.snd e;rw[a4v (u':=u) (d':=d) (λi hi=>by rw[e1,a4P hi]) λi hi=>by rw[e2,a4P hi]];exact L.permU W h1
def Q9 (l:List Int):Int:=l.getLastD 0
def Q6 (ts:⋯)(w:UD):List Int:=(nb ts (Q9 w.1)).filter λy=>!decide (y∈w.1++w.2)
def a0d (ts:⋯)(w:UD)(x:Int):List Int:=(nb ts x).filter λy=>decide (y∈nb ts (Q9 w.2)) && !decide (y∈w.1++w.2)
def a2C (w:UD)(x:Int)(r:List Int):List UD:=r.map λy=>(w.1++[x],w.2++[y])
def W0 (ts:⋯)(w:UD)(os:List Int):List UD:=os.flatMap λx=>a2C w x (a0d ts w x)
theorem a3o {l:List Int}(h:l≠[]):Q9 l∈l:=by
 unfold Q9;rw[List.getLastD_eq_getLast?,List.getLast?_eq_getLast h];exact List.getLast_mem h
theorem a3n {j:Nat}:Q9 (Q4 (j+1) u)=u j:=by unfold Q9;rw[a0U];simp
theorem a5f {w:UD}{os:List Int}{v:UD}:v∈W0 ts w os↔∃ x∈os,∃ y,(y∈nb ts x/\y∈nb ts (Q9 w.2)/\y∉w.1++w.2)/\v=(w.1++[x],w.2++[y]):=by
 unfold W0 a2C a0d;simp only[dP,aR,aS,bU,decide_eq_true_iff,iz,decide_eq_false_iff_not];exact⟨λ⟨x,hx,y,⟨h1,h2,h3⟩,e⟩=>⟨x,hx,y,⟨h1,h2,h3⟩,e.symm⟩,λ⟨x,hx,y,⟨h1,h2,h3⟩,e⟩=>⟨x,hx,y,⟨h1,h2,h3⟩,e.symm⟩⟩
theorem a5W.kid (W:C4 n ts){w v:UD}(h:a5W n k w)(hk:w.1.length<k)(hv:v∈W0 ts w (Q6 ts w)):a5W n k v/\v.1.length=w.1.length+1:=by
 obtain⟨x,hx,y,⟨y1,y2,y3⟩,rfl⟩:=a5f.mp hv;obtain⟨x1,x2⟩:=aS.mp hx;have x2:x∉w.1++w.2:= ~~~x2
 have rx:=L6 W.rng x1;have ry:=L6 W.rng y1;obtain⟨n1,n2,n3⟩:=b9.mp h.nd;simp only[aj,not_or] at x2 y3;refine⟨⟨by simp[h.len],by simp,by simp;omega,b9.mpr ⟨b9.mpr ⟨n1,by simp,λa ha b hb e=>?_⟩,b9.mpr ⟨n2,by simp,λa ha b hb e=>?_⟩,λa ha b hb e=>?_⟩,λz hz=>?_⟩,by simp⟩
 ·rw[ag.mp hb] at e;exact x2.1 (e ▸ ha)
 ·rw[ag.mp hb] at e;exact y3.2 (e ▸ ha)
 ·rcases aj.mp ha with ha | ha<;>rcases aj.mp hb with hb | hb
  ·exact n3 a ha b hb e
  ·rw[ag.mp hb] at e;exact y3.1 (e ▸ ha)
  ·rw[ag.mp ha] at e;exact x2.2 (e ▸ hb)
  ·rw[ag.mp ha,ag.mp hb] at e;exact ry.2.2.2.2 e.symm
 ·simp only[aj,ag] at hz;rcases hz with (hz | rfl) | hz | rfl
  ·exact h.rng z (aL _ hz)
  ·omega
  ·exact h.rng z (aN _ hz)
  ·omega
theorem a0N.kid (W:C4 n ts){w:UD}(h:a0N ts k w)(ho:a5W n k w)(hk:w.1.length<k):∃ v∈W0 ts w (Q6 ts w),a0N ts k v:=by
 obtain⟨u,d,L,e⟩:=h;have hp:=ho.pos;obtain⟨j,hj⟩:∃ j,w.1.length=j+1:=⟨w.1.length-1,∅⟩
 rw[hj] at e hk;subst e;have nin:∀ x,(x=u (j+1)\/x=d (j+1))->x∉Q4 (j+1) u++Q4 (j+1) d:=λx hx hm=>by
  rw[aj,K9,K9] at hm;rcases hx with rfl | rfl<;>rcases hm with ⟨i,hi,e⟩ | ⟨i,hi,e⟩
  ·have:=L.iu _ _ hk ∅ e;omega
  ·exact L.ud _ _ hk ∅ e
  ·exact L.ud _ _ ∅ hk e.symm
  ·have:=L.id _ _ hk ∅ e;omega
 refine⟨(Q4 (j+1) u++[u (j+1)],Q4 (j+1) d++[d (j+1)]),a5f.mpr ⟨u (j+1),aS.mpr ⟨?_,by simpa using nin _ (.inl rfl)⟩,d (j+1),⟨(L.nbu W.rng hk).mpr (.inl rfl),?_,nin _ (.inr rfl)⟩,rfl⟩,u,d,L,?_⟩
 ·show u (j+1)∈nb ts (Q9 (Q4 (j+1) u));rw[a3n];exact (L.nbu W.rng ∅).mpr (.inr (.inl ⟨hk,rfl⟩))
 ·show d (j+1)∈nb ts (Q9 (Q4 (j+1) d));rw[a3n];exact (L.nbd W.rng ∅).mpr (.inr (.inl ⟨hk,rfl⟩))
 ·dsimp only;rw[<- a0U,<- a0U,a1V]
theorem a6o (W:C4 n ts){w:UD}{x:Int}:(a0d ts w x).length<=60:=by
 have:=R5 ((E7 (U6 W.rng W.srt x)).filter λy=>decide (y∈nb ts (Q9 w.2)) && !decide (y∈w.1++w.2)) (n:=n) λy hy=>by
  have:=L6 W.rng (aS.mp hy).1;omega
 have:=W.n60;unfold a0d;omega
theorem a4T (W:C4 n ts){w:UD}:(Q6 ts w).length<=60:=by
 have:=R5 ((E7 (U6 W.rng W.srt (Q9 w.1))).filter λy=>!decide (y∈w.1++w.2)) (n:=n) λy hy=>by
  have:=L6 W.rng (aS.mp hy).1;omega
 have:=W.n60;unfold Q6;omega
theorem a2m (W:C4 n ts){w:UD}:∀ {os:List Int},(W0 ts w os).length<=60*os.length
 | []=>bo _
 | x::os=>by
  have:=a2m W (w:=w) (os:=os);have r:=a6o W (w:=w) (x:=x);unfold W0 at this ⊢;unfold a2C at this ⊢;rw[fB,ak,ae,aD];omega
def udM (k:Nat)(W:List UD):Nat:=(W.map λw=>4000 ^ (k-w.1.length)).sum
theorem a3H {A B:List UD}:udM k (A++B)=udM k A+udM k B:=by unfold udM;rw[ap,List.sum_append]
theorem a7R {w:UD}(hk:w.1.length<k){A:List UD}(hl:A.length<=3600)(hA:∀ v∈A,v.1.length=w.1.length+1):udM k A<udM k [w]:=by
 have key:∀ A:List UD,(∀ v∈A,v.1.length=w.1.length+1)->udM k A=A.length*4000 ^ (k-(w.1.length+1)):=λA=>by
  induction A with
  | nil=>intro _;unfold udM;simp
  | cons v A ih =>
   intro h;have:=ih λx hx=>h x (aI _ hx)
   unfold udM at this ⊢;rw[aH,gp,this,h v (aM ..),aD,fe];omega
 rw[key A hA];show _<4000 ^ (k-w.1.length)+0;have e:k-w.1.length=(k-(w.1.length+1))+1:=∅
 rw[e,Nat.pow_succ];have h0:0<4000 ^ (k-(w.1.length+1)):=Nat.pow_pos (by decide);generalize 4000 ^ (k-(w.1.length+1))=c at h0 ⊢;have:A.length*c<=3600*c:=gT c hl;omega
theorem a9y {w:UD}:0<udM k [w]:=by
 show 0<4000 ^ (k-w.1.length)+0;exact Nat.pow_pos (by decide)
structure a1B (n:Int)(ts:⋯)(k:Nat)(W:List UD):Prop where
 ok:∀ w∈W,a5W n k w
 bd:∀ i w,W[i]?=some w->i+1<=3600*w.1.length
 on:(∃ u d,Lad ts k u d)->∃ w∈W,a0N ts k w
theorem a1B.len {W:List UD}(h:a1B n ts k W):W.length<=3600*k:=by
 cases e:W.length with
 | zero=>exact bo _
 | succ m =>
  have hw:W[m]?=some (W[m]'∅):=au _;have:=h.bd m _ hw;have:=(h.ok _ (aG hw)).le;have:3600*(W[m]'∅).1.length<=3600*k:=Nat.mul_le_mul_left _ this;omega
theorem a1B.drop {W:List UD}{w:UD}(h:a1B n ts k (W++[w]))(hn:¬ a0N ts k w):a1B n ts k W:=⟨λv hv=>h.ok v (aL _ hv),λi v hv=>h.bd i v (by rw[bj (aq.mp hv).1];exact hv),λhl=>by
 obtain⟨v,hv,o⟩:=h.on hl;rcases aj.mp hv with hv | hv
 ·exact⟨v,hv,o⟩
 ·rw[ag.mp hv] at o;exact absurd o hn⟩
theorem a1B.more (Wb:C4 n ts){W:List UD}{w:UD}(h:a1B n ts k (W++[w]))(hk:w.1.length<k):a1B n ts k (W++W0 ts w (Q6 ts w))/\udM k (W++W0 ts w (Q6 ts w))<udM k (W++[w]):=by
 have hw:=h.ok w (by simp);have kl:=a2m Wb (w:=w) (os:=Q6 ts w);have ol:=a4T Wb (w:=w);refine⟨⟨λv hv=>?_,λi v hv=>?_,λhl=>?_⟩,?_⟩
 ·rcases aj.mp hv with hv | hv
  ·exact h.ok v (aL _ hv)
  ·exact (hw.kid Wb hk hv).1
 ·by_cases c:i<W.length
  ·rw[bj c] at hv;exact h.bd i v (by rw[bj c];exact hv)
  ·rw[bP ∅] at hv;have hm:=aG hv;have hi:=(aq.mp hv).1;have:=(hw.kid Wb hk hm).2;have:=h.bd W.length w (by simp);omega
 ·obtain⟨v,hv,o⟩:=h.on hl;rcases aj.mp hv with hv | hv
  ·exact⟨v,aL _ hv,o⟩
  ·rw[ag.mp hv] at o;obtain⟨z,hz,oz⟩:=o.kid Wb hw hk;exact⟨z,aN _ hz,oz⟩
 ·rw[a3H,a3H];exact Nat.add_lt_add_left (a7R hk ∅ λv hv=>(hw.kid Wb hk hv).2) _
def Y7 (ts:⋯):⋯:=ts.filter λt=>decide (((nb ts t.1).length:Int)=2) && decide (((nb ts t.2).length:Int)=2)
theorem a1B.init (W:C4 n ts)(hn:n=2*k):a1B n ts k ((Y7 ts).map λt=>([t.1],[t.2])):=by
 have h3:=W.n3;have hl:=W.len;refine⟨λw hw=>?_,λi w hw=>?_,λ⟨u,d,L⟩=>?_⟩
 ·obtain⟨t,ht,rfl⟩:=aR.mp hw;have:=W.rng t (aS.mp ht).1;exact⟨rfl,aC 1,by show 1<=k;omega,by simp;omega,λx hx=>by simp at hx;omega⟩
 ·have h1:=(aq.mp hw).1;rw[ae] at h1;have h2:(Y7 ts).length<=ts.length:=bu ..;obtain⟨t,_,rfl⟩:=aR.mp (aG hw);show i+1<=3600*1;omega
 ·have key:∀ {u d},Lad ts k u d->u 0<d 0->∃ w∈(Y7 ts).map (λt=>(([t.1],[t.2]):UD)),a0N ts k w:=λ{u d} L h=>by
   have hm:(u 0,d 0)∈ts:=by
    have:=(L.mem _).mpr (.inl ⟨0,∅,rfl⟩);unfold mm at this
    rwa [if_neg ∅,if_pos ∅] at this
   refine⟨([u 0],[d 0]),aR.mpr ⟨(u 0,d 0),aS.mpr ⟨hm,?_⟩,rfl⟩,u,d,L,rfl⟩;have l1:=(L.len2 W ∅ (show 0<k by omega)).mpr (.inl rfl);have l2:=(L.swap.len2 W ∅ (show 0<k by omega)).mpr (.inl rfl);simp[l1,l2]
  have ne:=L.ud 0 0 ∅ ∅;by_cases c:u 0<d 0
  ·exact key L c
  ·exact key L.swap ∅
end
def a0M (H:Hp)(v:V)(w:UD):Prop:=∃ t a b:Addr,v=.ref t/\H t=some (.tup [.ref a,.ref b])/\H a=some (.lst (w.1.map V.int))/\H b=some (.lst (w.2.map V.int))
def R9 (H:Hp)(l:Addr)(W:List UD):Prop:=∃ vs:List V,H l=some (.lst vs)/\vs.length=W.length/\∀(i:Nat) v w,vs[i]?=some v->W[i]?=some w->a0M H v w
theorem a0M.same {H H':Hp}{v:V}{w:UD}(h:a0M H v w)(s:A9 H H'):a0M H' v w:=by
 obtain⟨t,a,b,e,h1,h2,h3⟩:=h;exact⟨t,a,b,e,s _ _ h1,s _ _ h2,s _ _ h3⟩
theorem R9.same {H H':Hp}{l:Addr}{W:List UD}(h:R9 H l W)(s:A9 H H'):R9 H' l W:=by
 obtain⟨vs,e,hl,hh⟩:=h;exact⟨vs,s _ _ e,hl,λi v w h1 h2=>(hh i v w h1 h2).same s⟩
theorem a0M.dok {K:ah}{H:Hp}{v:V}{w:UD}(h:a0M H v w):Dok K H v:=by
 obtain⟨t,a,b,rfl,h1,h2,h3⟩:=h;refine⟨_,.tup (SqT.of h1) (.cons (.lstI (SqL.of h2)) (.cons (.lstI (SqL.of h3)) .nil)),?_,?_⟩
 ·rw[PyData.canLay0,PyData.canLayAll0,PyData.canLayAll0,PyData.canLayAll0,PyData.canLay0,PyData.canLay0,K6,K6];rfl
 ·rw[PyData.depth,PyData.depthAll,PyData.depthAll,PyData.depthAll,PyData.depth,PyData.depth,N9,N9];omega
theorem a0M.set {H:Hp}{v:V}{w:UD}{l:Addr}{xs ys:List V}(h:a0M H v w)(e:H l=some (.lst xs))(hx:∀ x∈xs,∃ t,x=V.ref t)(h1:w.1≠[])(h2:w.2≠[]):a0M (upd H l (.lst ys)) v w:=by
 obtain⟨t,a,b,rfl,e0,e1,e2⟩:=h;have ne:∀ {a:Addr} {us:List Int},us≠[]->H a=some (.lst (us.map V.int))->a≠l:=λ{a us} hu ea k=>by
  subst k;rw[e] at ea;injection ea with ea;injection ea with ea
  cases us with
  | nil=>exact hu rfl
  | cons x r =>
   obtain⟨t,et⟩:=hx (V.int x) (by rw[ea];simp);cases et
 exact⟨t,a,b,rfl,by rw[B3 (a8H e0 e)];exact e0,by rw[B3 (ne h1 e1)];exact e1,by rw[B3 (ne h2 e2)];exact e2⟩
theorem R9.refs {H:Hp}{W:List UD}{vs:List V}(hl:vs.length=W.length)(hh:∀(i:Nat) v w,vs[i]?=some v->W[i]?=some w->a0M H v w):∀ x∈vs,∃ t,x=V.ref t:=λx hx=>by
 obtain⟨i,hi⟩:=ca.mp hx;have hil:=(aq.mp hi).1;obtain⟨t,_,_,e,_⟩:=hh i x _ hi (au ∅);exact⟨t,e⟩
theorem R9.nil {H:Hp}{l:Addr}:R9 (upd H l (.lst [])) l []:=⟨[],A3,rfl,λi v w h=>by simp at h⟩
theorem R9.snoc {H:Hp}{l:Addr}{W:List UD}{vs:List V}{v:V}{w:UD}(e:H l=some (.lst vs))(hl:vs.length=W.length)(hh:∀(i:Nat) v w,vs[i]?=some v->W[i]?=some w->a0M H v w)(hv:a0M H v w)(hne:∀ x∈W++[w],x.1≠[]/\x.2≠[]):R9 (upd H l (.lst (vs++[v]))) l (W++[w]):=by
 have hr:=R9.refs hl hh;refine⟨_,A3,by simp[hl],λi x z h1 h2=>?_⟩;have hz:=hne z (aG h2);by_cases c:i<W.length
 ·rw[bj ∅] at h1;rw[bj c] at h2;exact (hh i x z h1 h2).set e hr hz.1 hz.2
 ·have hi:=(aq.mp h2).1;rw[ak,bG] at hi;have ei:i=W.length:=∅
  subst ei;rw[<- hl,iU] at h1;rw[iU] at h2;cases h1;cases h2;exact hv.set e hr hz.1 hz.2
theorem R9.pop {H:Hp}{l:Addr}{W:List UD}{w:UD}(h:R9 H l (W++[w]))(hne:∀ x∈W++[w],x.1≠[]/\x.2≠[]):∃ vs v,H l=some (.lst (vs++[v]))/\a0M H v w/\a0M (upd H l (.lst vs)) v w/\R9 (upd H l (.lst vs)) l W:=by
 obtain⟨xs,e,hl,hh⟩:=h;have hr:=R9.refs hl hh;have hx:xs≠[]:=λk=>by rw[k] at hl;simp at hl
 obtain⟨vs,v,rfl⟩:∃ vs v,xs=vs++[v]:=⟨xs.dropLast,xs.getLast hx,(dY hx).symm⟩
 have hl2:vs.length=W.length:= ~~~hl
 have hw:=hne w (by simp);have hv:=hh vs.length v w (by simp) (by rw[hl2];simp);refine⟨vs,v,e,hv,hv.set e hr hw.1 hw.2,vs,A3,hl2,λi x z h1 h2=>?_⟩;have hz:=hne z (aL _ (aG h2));exact (hh i x z (by rw[bj (aq.mp h1).1];exact h1) (by rw[bj (aq.mp h2).1];exact h2)).set e hr hz.1 hz.2
end L2
end
section
set_option format.width 230
set_option pp.deepTerms true
set_option pp.maxSteps 20000
namespace K64
open PySem L2
local macro_rules | `(tactic| walk_at "rd")=>`(tactic| ((try simp only[L2.R4,st0,aH,cu,aD,cX,List.replicate,eV,eG,Nat.reduceAdd,Nat.reduceSub,jr,js,Option.join_some]);simp only[↓b3t,↓b3L,↓b4z,↓tCA,↓b3v,↓b1E,↓b3H,↓b1C,↓tBA,↓b1I,↓b1L,↓b1O,↓b1N,↓b3B,↓b4D,↓b4E,↓b3K,↓b3r,↓b3D,↓b3Y,↓b2R,↓b4b,↓b3Z,↓b4x,↓a8a,↓b1F,↓b3M,↓b4y,↓b3z,↓b3J,↓a8b,↓b1T,↓b2P,↓b3X,↓b2O,↓b2N,↓b4A,↓b4C,↓a9C,↓b1Q,↓b3x,↓b1G,↓b4w,↓b3p,↓a9B,↓a9A,↓b3F,↓b1H,↓tV0,↓tV1,↓tV2,↓tV3,↓tV4,↓tV5,↓tV6,↓tV7,↓tV8,↓tV9,↓b4v,↓b4u,↓b4t,↓b4s,↓b4r,↓b4q,↓gN0,↓gN1,↓gN2,↓gN3,↓gN4,↓gN5,↓gN6,↓gN7,↓gN8,↓gN9,↓b4T,↓b4S,↓b4R,↓b4Q,↓b4P,↓b4O,↓b4H,↓rIi,↓b3R,↓b3Q,↓exB,↓exI,↓exR,↓b4I,↓b4G,↓b4k,rI,rI0,a3P,b1W,b1l,b1a,b1g,a3I,a9O,a9N,rEq,rNe,b2X,b1y,a9o,a9q,a9p,b2Y,b2Z,a3z,a5B,b1q,a3O,b1t,a8Y,rU,L2.R4,st0,aH,cu,aD,cX,List.replicate,eV,eG,bp,jr,js,List.set_cons_zero,List.set_cons_succ,Option.some.injEq,V.int.injEq,V.bl.injEq,V.ref.injEq,List.cons.injEq,and_true,true_and,exists_eq_left',exists_eq_left,exists_eq',exists_eq,Nat.reduceAdd,Nat.reduceSub,exists_and_left,and_self,Option.join_some,a8h,decide_true,if_true,if_false,aO,dm,jg,W7,Q3]))
def top (i:Nat):Stmt:=PySem.Challenge.pw_manyleaves_k64_ladders.main.body.getD i (.Pass ⟨0,0,0,0⟩)
section
variable {P:Program}{w:World}{K:ah}{mg:Str->Option Value}{base:Heap}
set_option hygiene false
local macro_rules | `($a <*> $b) => `(@A0 _ _ _ _ _ $a $b (by rfl))
local macro_rules | `($a <* $b) => `(@A2 _ _ _ _ _ $a $b)
local macro_rules | `($a <|> $b) => `(@B6 _ _ _ _ _ _ _ (B8 K) $a $b (λ_ _=>rfl))
local macro_rules | `($a *> $b) => `(@B6 _ _ _ _ _ _ _ (C2 K) $a $b (λ_ _=>rfl))
local macro_rules | `($a &&& $b) => `(@B2 _ _ _ _ _ _ _ _ P9 $a $b)
local macro_rules | `($a ||| $b) => `(@B2 _ _ _ _ _ _ _ _ K3 $a $b)
local macro_rules | `($a ^^^ $b) => `(@B2 _ _ _ _ _ _ _ _ N0 $a $b)
set_option hygiene true
set_option hygiene false
local macro_rules | `(tactic| walk_at "s") => `(tactic| exact⟨rfl,rfl,rfl,by decide +kernel,rfl,by decide +kernel,by decide +kernel⟩)
local macro_rules | `(tactic| walk_at "w") => `(tactic| with_unfolding_all rfl)
local macro_rules | `(tactic| walk_at "h") => `(tactic| ((repeat first | (obtain⟨rfl,h⟩:=h) | (obtain⟨_,h⟩:=h));rfl))
set_option hygiene true
theorem _root_.L2.T2.m {j k:Nat}{A:Around}(r:T2 k A)(h:j<=k:=by decide):T2 j A:=r.mono h
open PyProof.Rows (boot_all boot_bool boot_enumerate boot_int boot_isinstance boot_list boot_max boot_min boot_range boot_set boot_sorted boot_tuple boot_zip)
def a7x (H:Hp)(w0 q0 p:Addr)(n:Int)(ts:⋯)(i:Nat)(σ:St)(Hc:Hp):Prop:=∃(av bv:Option V) (as:List Addr),σ=[some (.ref w0),some (.int n),some (.ref q0),some (.ref p),av,bv]/\a5Y H Hc p as (G9 n (ts.take i))
theorem a4H:D0 ["web","places","ties","rows","a","b"] ["web"] (B7 (top 2)):=by walk_at "s"
theorem a8w (F:Fun K "neighbour_rows" "neighbour_rows" (top 2) f fd)(B:Bt mg):E1 P w K mg base CX0 1 f fd ["web"] V6:=by
 refine F.ok a4H (λvs H Q E h=>?_) (λcdv A outer s H vs Q E hr h=>?_)
 ·walk_at "h"
 ·obtain⟨w0,n,ts,rfl,hw,hn0,hn1,htl,hok,q⟩:=h;have nd:=a4H.nd;have hu:=K2 hr
  refine⟨_,(A2 (a0Y (pv 0) (K1 K (n:=2) rfl (C1 (A8 (i:=1) nd rfl (.inl rfl)) (C1 (A8 (i:=2) nd rfl (.inl rfl)) K0))))
    (A2 (L0 (i:=3) (own:=["place"]) (fr:=[]) rfl nd rfl rfl (by walk_at "w") (by walk_at "w") C7 (O0 (by rfl) B.range (A0 (pv 1) A1)) ⟨λ_ _ _ _=>⟨(A8 (i:=0) (show List.Nodup (["place"]:List Str) by decide +kernel) rfl (.inl rfl)),J9,(J3 A1)⟩⟩)
    (A2 (P6 bK rfl (S0 K (pv 2)) (K1 K (n:=2) rfl (C1 (A8 (i:=4) nd rfl (.inl rfl)) (C1 (A8 (i:=5) nd rfl (.inl rfl)) K0)))
     (A2 (M9 (N5 K (B6 (B8 K) (pv 3) (pv 4) (λ_ _=>rfl)) (A0 (pv 5) A1)))
     (A6 (M9 (N5 K (B6 (B8 K) (pv 3) (pv 5) (λ_ _=>rfl)) (A0 (pv 4) A1))))))
    (A6 (B9 (pv 3)))))),?_⟩
  walk_at "rd";obtain⟨q0,hw0,ht⟩:=hw;obtain⟨xs,hx0,hxl,hxs⟩:=ht.get;refine⟨_,SqT.of hw0,rfl,_,_,rfl,_,_,rfl,rfl,n,rfl,∅,∅,λp np=>S4 (a1g H p) ?_ ?_ ?_⟩
  ·exact⟨none,[],rfl,(A9.refl H).upd np,np,(λa ha=>by cases ha),E5.nil A3⟩
  ·rintro i τ Hc hi ⟨c,as,rfl,fr⟩;walk_at "rd";refine⟨by decide,λpq nq=>⟨_,P8 fr.rows.top nq,?_,?_⟩⟩
   ·rw[ae,fr.rows.len,dF];exact C0 ∅
   ·have:=fr.rows.snoc nq (r:=[]);refine⟨_,as++[pq],rfl,(fr.same.upd (fr.same.free nq)).upd np,np,λa ha=>?_,?_⟩
    ·rcases aj.mp ha with ha | ha
     ·exact fr.na a ha
     ·cases ag.mp ha;exact fr.same.free nq
    ·rw[ap] at this;rw[eM];exact this
  ·rintro τ H2 ⟨c,as,rfl,fr⟩;rw[<- a0k] at fr;refine⟨_,rfl,_,rfl,⟨_,SqT.of (fr.same _ _ hx0)⟩,a0I (xs:=xs) (a7x H w0 q0 p n ts) ⟨none,none,as,rfl,by rw[eS];exact fr⟩ ?_ ?_ ?_⟩
   ·rintro i σ Hc _ ⟨_,_,_,rfl,fr⟩;exact SqT.of (fr.same _ _ hx0)
   ·rintro i v σ Hc hv ⟨av,bv,as,rfl,fr⟩;obtain⟨a,t,rfl,hti,hta⟩:=hxs i v hv;obtain⟨t0,t1,t2⟩:=hok t (aG hti);obtain⟨a1,a2,i1,c1,tp1,i2,c2,fr2⟩:=fr.step t0 t1 t2;have l1:∀ v,((nb (ts.take i) v).map V.int).length<sizeLine:=λv=>by
     rw[ae];have:=Y2 (ts:=ts.take i) v;rw[aW] at this;exact C0 ∅
    walk_at "rd";refine⟨_,SqT.of (fr.same _ _ hta),rfl,_,_,rfl,_,_,rfl,rfl,_,_,rfl,SqL.of fr.rows.top,_,i1,.inl ⟨rfl,_,SqL.of c1⟩,_,rfl,_,c1,l1 _,_,_,rfl,SqL.of tp1,_,i2,.inl ⟨rfl,_,SqL.of c2⟩,_,rfl,_,c2,l1 _,_,_,as,rfl,?_⟩;rw[cN,hti];exact fr2
   ·rintro σ Hc ⟨av,bv,as,rfl,fr⟩;rw[hxl,bz] at fr;exact⟨_,rfl,q p as Hc fr.same fr.np fr.na fr.rows⟩
def a1L:Sp:=λvs H Q _=>∃(a b:Int),vs=[.int a,.int b]/\∀(p:Addr) (H':Hp),A9 H H'->H p=none->H' p=some (.tup ((tl (mm a b)).map V.int))->Q (.ref p) H'
theorem a4F:D0 ["one","other"] ["one","other"] (B7 (top 1)):=by walk_at "s"
theorem a8u (F:Fun K "tie_of" "tie_of" (top 1) f fd)(B:Bt mg)(C:Bt2 mg):E1 P w K mg base CX0 1 f fd ["one","other"] a1L:=by
 refine F.ok a4F (λvs H Q E h=>?_) (λcdv A outer s H vs Q E hr h=>?_)
 ·walk_at "h"
 ·obtain⟨a,b,rfl,q⟩:=h;have nd:=a4F.nd;have hu:=K2 hr;refine⟨_,(A6 (B9 (E9 (A0 (A7 (Z6 rfl) (by rfl) B.min kj (A0 (pv 0) (A0 (pv 1) A1))) (A0 (A7 (Z7 rfl) (by rfl) B.max km (A0 (pv 0) (A0 (pv 1) A1))) A1))))),?_⟩;walk_at "rd";exact⟨_,_,⟨rfl,rfl⟩,_,_,⟨rfl,rfl⟩,by decide,λp np=>q p _ ((A9.refl H).upd np) np A3⟩
def b2v (Hb:Hp)(p l:Addr)(g:Int)(par:Int->Int)(i:Nat)(σ:St)(Hc:Hp):Prop:=∃(a b:Option V) (ps:List (Addr×List Int)),σ=[some (.ref p),some (.ref l),a,b]/\A9 Hb Hc/\Hc l=some (.lst (ps.map λx=>V.ref x.1))/\M7 Hc ps (a1A g par i)
theorem a1S:D0 ["parents","ties","place","parent"] ["parents"] (B7 (top 4)):=by walk_at "s"
theorem a5H (F:Fun K "tree_of" "tree_of" (top 4) f fd)(B:Bt mg)(D1:Df K mg "tie_of" st1 f1 fd1 ["one","other"])(G1:E1 P w K mg base CX0 1 f1 fd1 ["one","other"] a1L)(C:Bt2 mg):E1 P w K mg base CX0 2 f fd ["parents"] a1K:=by
 refine F.ok a1S (λvs H Q E h=>?_) (λcdv A outer s H vs Q E hr h=>?_)
 ·walk_at "h"
 ·obtain⟨p,n,g,par,rfl,hp,n0,h60,q⟩:=h;have nd:=a1S.nd;have hu:=K2 hr
  refine⟨_,(A2 (C6 (i:=1) nd rfl (.inl rfl) (J3 A1))
    (A2 (P6 bK rfl (b1Z (K:=K) (by rfl) C.enumerate jI (A0 (pv 0) A1)) (K1 K (n:=2) rfl (C1 (A8 (i:=2) nd rfl (.inl rfl)) (C1 (A8 (i:=3) nd rfl (.inl rfl)) K0)))
     (A6 (J6 (a0X (a9Y (pv 3)))
      (A6 (M9 (N5 K (pv 1) (A0 (C3 G1 D1 hr.m (A0 (pv 2) (A0 (pv 3) A1))) A1))))
      C9)))
    (A6 (B9 (E3 (S6 K) (by rfl) B.tuple dz (A0 (A7 (T7 K) (by rfl) B.sorted dq (A0 (pv 1) A1)) A1)))))),?_⟩
  walk_at "rd";refine⟨by decide,λl nl=>?_⟩;refine⟨_,rfl,p,rfl,⟨_,SqT.of (P8 hp nl)⟩,b0I (K:=K) (xs:=pV n g par) (b2v H p l g par) ⟨none,none,[],rfl,(A9.refl H).upd nl,A3,⟨λx hx=>(by cases hx),rfl⟩⟩ ?_ ?_ ?_⟩
  ·rintro i σ Hc _ ⟨_,_,_,rfl,sc,_⟩;exact SqT.of (sc _ _ hp)
  ·rintro i x σ Hc q0 hx ⟨a,b,ps,rfl,sc,hc,hps⟩ nq;have hil:=(aq.mp hx).1;rw[a8s] at hil;rw[b2f hil] at hx;have ex:=aP hx;have hpl:ps.length<=i:=by
    have:=hps.len;unfold a1A at this;rw[ae] at this;have h2:=bu (λv=>!decide (v=g)) (B0 0 i);rw[B1] at h2;omega
   refine A5 nq λHd sd ed=>?_
   have hcd:=sd _ _ hc;have hpd:=hps.tp sd.tp;walk_at "rd";refine⟨_,SqT.of ed,rfl,_,_,rfl,_,_,rfl,rfl,?_⟩;by_cases hg:(i:Int)=g
   ·rw[if_pos hg] at ex;subst ex;rw[if_neg (by simp)];exact⟨_,_,ps,rfl,sc.trans sd,hcd,by rw[a3g,if_pos hg,bp];exact hpd⟩
   ·rw[if_neg hg] at ex;subst ex;rw[if_pos (by simp)];refine⟨.inl ⟨rfl,_,SqL.of hcd⟩,_,_,rfl,λtp Hx sx ntp etp=>⟨_,sx _ _ hcd,by rw[ae];exact C0 ∅,_,_,ps++[(tp,tl (mm i (par i)))],rfl,((sc.trans sd).trans sx).upd nl,?_,?_⟩⟩
    ·rw[A3,ap];rfl
    ·rw[a3g,if_neg hg];refine (hpd.tp (sx.tp.trans (Tp.lst (sx _ _ hcd)))).snoc ?_;rw[B3 (E4 hcd ntp).symm];exact etp
  ·rintro σ Hc ⟨a,b,ps,rfl,sc,hc,hps⟩;rw[a8s] at hps;walk_at "rd";refine⟨ps,hps.src hc,λps' l2 pm hs nl2=>?_⟩;obtain⟨us',pu,hps'⟩:=hps.perm pm;refine A5 nl2 λHe se ee=>⟨_,.inl ⟨SqL.of ee,λl3 n3=>A5 n3 λHf sf ef=>?_⟩⟩
   exact q l3 us' Hf ((sc.trans se).trans sf) ((sc.trans se).free n3) ⟨ps',ef,hps'.tp (se.trans sf).tp⟩ pu (hps'.srt hs)
def b0r (Hb:Hp)(sp:Addr)(i:Nat)(τ:St)(Hc:Hp):Prop:=∃ c:Option V,τ=[c]/\A9 Hb Hc/\Hc sp=some (.lst (List.replicate i V.non))
def a8P (Hb:Hp)(w0 pb rp sp wl:Addr)(n:Int)(ts:⋯)(bs:List Int)(g:Int)(m:Nat)(σ:St)(Hc:Hp):Prop:=∃(a b:Option V) (k:Nat) (s:TB),σ=[some (.ref w0),some (.ref pb),some (.ref rp),some (.int g),some (.ref sp),some (.ref wl),a,b] /\
 A9 Hb Hc/\Hc sp=some (.lst (stV n g s.par s.vs))/\Hc wl=some (.lst (s.ws.map V.int))/\a0r n ts bs g s/\s=V5 ts bs g k/\m=tbM n s
def a6H (Hb:Hp)(w0 pb rp sp wl:Addr)(n:Int)(ts:⋯)(bs:List Int)(g p:Int)(s0:TB)(M:Nat)(j:Nat)(σ:St)(Hc:Hp):Prop:=∃(b:Option V) (s:TB),σ=[some (.ref w0),some (.ref pb),some (.ref rp),some (.int g),some (.ref sp),some (.ref wl),some (.int p),b] /\
 A9 Hb Hc/\Hc sp=some (.lst (stV n g s.par s.vs))/\Hc wl=some (.lst (s.ws.map V.int))/\a2s n ts bs g p j s/\s=a0Q ts bs p s0 j/\tbM n s<M
theorem a9F {n g p:Int}{par:Int->Int}{vs:List Int}{y:Int}(h0:0<=y)(h1:y<n)(hg:y≠g)(hv:y∉vs):(stV n g par vs).set y.toNat (V.int p)=stV n g (λv=>if v=y then p else par v) (vs++[y]):=by
 rw[<- a9E h0 h1 hg,if_pos rfl];congr 1;unfold stV;refine cI λv _=>?_
 by_cases h:v∈vs/\v≠g
 ·rw[if_pos h,if_pos h];dsimp only;rw[if_neg (show ¬ v=y from λe=>hv (e ▸ h.1))]
 ·rw[if_neg h,if_neg h]
theorem a2W:D0 ["web","busy","rows","root","parents","waiting","place","other"] ["web","busy"] (B7 (top 6)):=by walk_at "s"
theorem a7c (F:Fun K "tree_by" "tree_by" (top 6) f fd)(B:Bt mg)(D1:Df K mg "neighbour_rows" st1 f1 fd1 ["web"])(G1:E1 P w K mg base CX0 1 f1 fd1 ["web"] V6)(D2:Df K mg "tree_of" st2 f2 fd2 ["parents"])(G2:E1 P w K mg base CX0 2 f2 fd2 ["parents"] a1K):E1 P w K mg base CX0 3 f fd ["web","busy"] (a2N K):=by
 refine F.ok a2W (λvs H Q E h=>?_) (λcdv A outer s H vs Q E hr h=>?_)
 ·walk_at "h"
 ·obtain⟨w0,n,ts,pb,bs,rfl,hw,hok,hpb,hB,hbr,hbl,q⟩:=h;have nd:=a2W.nd;have hu:=K2 hr
  refine⟨_,(A2 (C6 (i:=2) nd rfl (.inl rfl) (C3 G1 D1 hr.m (A0 (pv 0) A1)))
    (A2 (C6 (i:=3) nd rfl (.inl rfl) (B6 (C2 K) (pv 1) A4 (λ_ _=>rfl)))
    (A2 (L0 (i:=4) (own:=["row"]) (fr:=[]) rfl nd rfl rfl (by walk_at "w") (by walk_at "w") C7 (F0 K (pv 2)) ⟨λ_ _ _ _=>⟨(A8 (i:=0) (show List.Nodup (["row"]:List Str) by decide +kernel) rfl (.inl rfl)),J9,a5C⟩⟩)
    (A2 (C6 (i:=5) nd rfl (.inl rfl) (J3 (A0 (pv 3) A1)))
    (A2 (a0B bK (a5y K (pv 5) (λ_=>rfl))
     (A2 (C6 (i:=6) nd rfl (.inl rfl) (a9U K (pv 5)))
     (A6 (P6 bK rfl (F0 K (B6 (B8 K) (pv 2) (pv 6) (λ_ _=>rfl))) (A8 (i:=7) nd rfl (.inl rfl))
      (A6 (J6 (PW.pt (X9 (B4 a0E (pv 7) (pv 3) (B5 _)) (U5 (a0X (a5E (B6 (B8 K) (pv 4) (pv 7) (λ_ _=>rfl)))))))
       (A2 (a0Y (pv 6) (a8m (pv 4) (pv 7) a4E))
       (A6 (J6 (B4 (X3 K) (pv 7) (pv 1) (by walk_at "w"))
        (A6 (M9 (N5 K (pv 5) (A0 (pv 7) A1))))
        C9)))
       C9))))))
    (A6 (B9 (C3 G2 D2 hr.m (A0 (E3 (S6 K) (by rfl) B.tuple dz (A0 (pv 4) A1)) A1))))))))),?_⟩
  walk_at "rd";have h3:=hok.n3;have h60:=hok.n60;have hl:=hok.len;obtain⟨g,r,hbs⟩:∃ g r,bs=g::r:=by
   cases bs with
   | nil=>exact absurd rfl hB.1.1
   | cons g r=>exact⟨g,r,rfl⟩
  have hg:g∈bs:=by rw[hbs];simp
  obtain⟨g0,g1⟩:=hbr g hg;have hat:atI (bs.map V.int) 0=some (.int g):=by rw[hbs];show atI (V.int g::r.map V.int) 0=_;unfold atI ixN;simp
  refine⟨w0,n,ts,rfl,hw,∅,∅,∅,hok.rng,λrp as H1 s1 nrp nas hRw=>?_⟩;refine⟨_,s1.seqT hpb,_,hat,rp,rfl,⟨_,SqL.of hRw.top⟩,λsp nsp=>N1 (K:=K) (xs:=as.map V.ref) (b0r H1 sp) ⟨none,rfl,(A9.refl H1).upd nsp,A3⟩ ?_ ?_ ?_⟩
  ·rintro i τ Hc _ ⟨_,rfl,sc,_⟩;exact SqL.of (sc _ _ hRw.top)
  ·rintro i v τ Hc hv ⟨c,rfl,sc,hc⟩ _;have hil:=(aq.mp hv).1;rw[ae,hRw.len,E8] at hil;walk_at "rd";refine⟨_,hc,by rw[dF];exact C0 ∅,_,rfl,sc.upd nsp,?_⟩;rw[A3,eM]
  ·rintro τ H2 ⟨c,rfl,s2,e2⟩;rw[ae,hRw.len,E8] at e2;refine⟨by decide,λwl nwl=>A5 nwl λH3 s3 e3=>?_⟩;have spwl:sp≠wl:=E4 e2 nwl;have n2wl:H1 wl=none:=s2.free nwl;have e23:H3 sp=some (.lst (stV n g id [g])):=by
    rw[s3 _ _ e2];have:stV n g id [g]=List.replicate n.toNat V.non:=by
     unfold stV;refine List.eq_replicate_iff.mpr ⟨by rw[ae,B1],λb hb=>?_⟩;obtain⟨v,_,rfl⟩:=aR.mp hb;rw[if_neg (λh=>h.2 (ag.mp h.1))]
    rw[this]
   refine⟨a8P H1 w0 pb rp sp wl n ts bs g,⟨_,none,none,0,⟨[g],[g],id⟩,rfl,s2.trans s3,e23,e3,a0r.init g0 g1 hg,rfl,rfl⟩,?_⟩;rintro m σ Hc ⟨a,b,k,s,rfl,sc,hsp,hwl,hD,hk,rfl⟩;have hvl:=R5 hD.grow.nd hD.rng;refine⟨_,rfl,_,.inl ⟨_,SqL.of hwl,rfl⟩,K7 (λhne=>?_) λhe=>?_⟩
   ·have hw0:s.ws≠[]:=λe=>by rw[e] at hne;simp at hne
    obtain⟨ws',p,ews⟩:=a6C hw0;have hD':=hD.pop ews;obtain⟨p0,p1⟩:=hD'.rng p hD'.pin;rw[ews] at hwl;obtain⟨hl1,hl2⟩:=b0p ws' p;obtain⟨ra,a1,a2,a3,a4⟩:=hRw.get p0 (C8 p0 p1);refine⟨fun σ' H'=>∃ m',m'<tbM n s/\a8P H1 w0 pb rp sp wl n ts bs g m' σ' H',λ_ _ z=>z,?_⟩;walk_at "rd";refine⟨.inl ⟨rfl,_,SqL.of hwl⟩,_,hwl,_,hl1,?_⟩;rw[hl2];have scw:A9 H1 (upd Hc wl (.lst (ws'.map V.int))):=sc.upd n2wl;have hspw:(upd Hc wl (.lst (ws'.map V.int))) sp=some (.lst (stV n g s.par s.vs)):=by rw[B3 spwl];exact hsp
    have hM:tbM n ⟨s.vs,ws',s.par⟩<tbM n s:=by unfold tbM;rw[ews,ak];simp
    refine⟨_,rfl,_,rfl,_,_,_,_,rfl,rfl,SqL.of (scw _ _ hRw.top),a2,_,rfl,⟨_,SqL.of (scw _ _ a3)⟩,Y6 (K:=K) (xs:=(nb ts p).map V.int) (a6H H1 w0 pb rp sp wl n ts bs g p ⟨s.vs,ws',s.par⟩ (tbM n s)) ⟨_,⟨s.vs,ws',s.par⟩,rfl,scw,hspw,A3,hD',rfl,hM⟩ ?_ ?_ ?_⟩
    ·rintro j σ Hd _ ⟨_,_,rfl,sd,_⟩;exact SqL.of (sd _ _ a3)
    ·rintro j w σ Hd hv ⟨b2,s2',rfl,sd,hsp2,hwl2,hD2,hs2,hm2⟩;rw[aF] at hv;cases hy0:(nb ts p)[j]? with
     | none=>rw[hy0] at hv;cases hv
     | some y =>
     rw[hy0] at hv;cases aP hv;have hr:=L6 hok.rng (aG hy0);obtain⟨hD3,hm3⟩:=hD2.try hok.rng hy0;have hs3:=a4w (bs:=bs) (s:=⟨s.vs,ws',s.par⟩) hy0;rw[<- hs2] at hs3;have hvl2:=R5 hD2.grow.nd hD2.rng;have hwl2':=hD2.wl;walk_at "rd";have keep:y∈s2'.vs->∀ b3,a6H H1 w0 pb rp sp wl n ts bs g p ⟨s.vs,ws',s.par⟩ (tbM n s) (j+1) [some (.ref w0),some (.ref pb),some (.ref rp),some (.int g),some (.ref sp),some (.ref wl),some (.int p),b3] Hd:=λhv b3=>by
      have e:a0u bs p s2' y=s2':=by unfold a0u;rw[if_pos hv]
      rw[e] at hD3 hs3;exact⟨b3,s2',rfl,sd,hsp2,hwl2,hD3,hs3.symm,hm2⟩
     by_cases hyg:y=g
     ·rw[if_neg (by simp[hyg])];exact keep (by rw[hyg];exact hD2.gin) _
     ·rw[if_pos (by simp[hyg])];refine⟨_,SqL.of hsp2,_,b1R hr.1 hr.2.1,?_⟩;by_cases hv:y∈s2'.vs
      ·rw[if_pos (c:=y∈s2'.vs/\y≠g) ⟨hv,hyg⟩,if_neg (by simp)];exact keep hv _
      ·rw[if_neg (c:=y∈s2'.vs/\y≠g) (λh=>hv h.1),if_pos (by simp)];refine⟨_,hsp2,_,a8N hr.1 (by rw[a1E];omega),?_⟩;rw[a9F hr.1 hr.2.1 hyg hv];have e:a0u bs p s2' y=⟨s2'.vs++[y],if y∈bs then s2'.ws++[y] else s2'.ws,λv=>if v=y then p else s2'.par v⟩:=by unfold a0u;rw[if_neg hv]
       rw[e] at hD3 hs3 hm3;have hw3:upd Hd sp (.lst (stV n g (λv=>if v=y then p else s2'.par v) (s2'.vs++[y]))) wl=some (.lst (s2'.ws.map V.int)):=by rw[B3 spwl.symm];exact hwl2
       refine a0p (.inr ((s1.trans (sd.upd nsp)).seqT hpb)) ⟨_,rfl,K7 (λhb=>?_) λhb=>?_⟩
       ·have hb':y∈bs:= ~~~hb
        rw[if_pos hb'] at hD3 hs3 hm3;exact⟨.inl ⟨rfl,_,SqL.of hw3⟩,_,hw3,by rw[ae];exact C0 ∅,_,_,rfl,(sd.upd nsp).upd n2wl,by rw[B3 spwl,A3],by rw[A3,ap];rfl,hD3,hs3.symm,∅⟩
       ·have hb':y∉bs:= ~~~hb
        rw[if_neg hb'] at hD3 hs3 hm3;exact⟨_,⟨s2'.vs++[y],s2'.ws,λv=>if v=y then p else s2'.par v⟩,rfl,sd.upd nsp,A3,hw3,hD3,hs3.symm,∅⟩
    ·rintro σ Hd ⟨b2,s2',rfl,sd,hsp2,hwl2,hD2,hs2,hm2⟩;rw[ae] at hD2 hs2;refine⟨_,hm2,_,_,k+1,s2',rfl,sd,hsp2,hwl2,hD2.done (aC _),?_,rfl⟩;show s2'=a0R ts bs (V5 ts bs g k);rw[<- hk,a5z ews,hs2]
   ·have hw0:s.ws=[]:= ~~~he
    have hall:=hD.all hw0 hok.rng hB hg;have hln:=hD.len ∅ hall;walk_at "rd";rw[a9G hall] at hsp;refine⟨_,.inl ⟨SqL.of hsp,λl nl=>A5 nl λH4 s4 e4=>?_⟩⟩;refine⟨l,n,g,s.par,rfl,e4,∅,h60,λl5 us H5 s5 n5 ht5 pu hsr=>?_⟩;have T:=a7z hD.grow hok.rng hln hD.rng (pu.trans (hD.perm hall)) hsr;have s14:=s1.trans (sc.trans s4);refine q l5 us H5 (s14.trans s5) (s14.free n5) ht5 T (λx x0 x1 hx=>hD.leaf hok.rng hg hall pu T x0 x1 hx) ⟨k,?_⟩;have e:bs.headD 0=g:=by rw[hbs];rfl
    rw[e,<- hk];exact⟨hw0,pu⟩
def a2R:Sp:=λvs H Q _=>∃(w:Addr) (n:Int) (ts:⋯),vs=[.ref w]/\M0 H w n ts/\0<=n/\n<=1000/\ts.length<=1000/\L5 n ts/\∀ H',A9 H H'->Q (.bl (V2 n ts)) H'
theorem a6a {α β:Type}:∀ {as:List α} {bs:List β},as.length=bs.length->(as.zip bs).map (·.1)=as
 | [],[],_=>rfl
 | a::as,b::bs,h=>by rw[fj,aH,a6a (fP h)]
theorem a3G {α β:Type}:∀ {as:List α} {bs:List β},as.length=bs.length->(as.zip bs).map (·.2)=bs
 | [],[],_=>rfl
 | a::as,b::bs,h=>by rw[fj,aH,a3G (fP h)]
theorem a3a:D0 ["web"] ["web"] (B7 (top 8)):=by walk_at "s"
theorem a7g (F:Fun K "is_ring" "is_ring" (top 8) f fd)(B:Bt mg)(D1:Df K mg "neighbour_rows" st1 f1 fd1 ["web"])(G1:E1 P w K mg base CX0 1 f1 fd1 ["web"] V6)(C:Bt2 mg):E1 P w K mg base CX0 2 f fd ["web"] a2R:=by
 refine F.ok a3a (λvs H Q E h=>?_) (λcdv A outer s H vs Q E hr h=>?_)
 ·walk_at "h"
 ·obtain⟨w0,n,ts,rfl,hw,hn0,hn1,htl,hok,q⟩:=h;have nd:=a3a.nd;have hu:=K2 hr;refine⟨_,(A6 (B9 (A7 (b3d K hr.hd) (by rfl) C.all boot_all (A0 (J8 (own:=["row"]) (fr:=[]) rfl (by walk_at "w") C7 (F0 K (C3 G1 D1 hr.m (A0 (pv 0) A1))) ⟨λ_ _ _ _=>⟨(A8 (i:=0) (show List.Nodup (["row"]:List Str) by decide +kernel) rfl (.inl rfl)),J9,(J0 J7 (A7 (N7 K) (by rfl) B.len ba (A0 (pv 0) A1)) A4 (B5 _))⟩⟩) A1)))),?_⟩;walk_at "rd";refine⟨w0,n,ts,rfl,hw,hn0,hn1,htl,hok,λp as H1 s1 np na R=>?_⟩;have ez:=a6a R.len;have hl:SqL K H1 p ((as.zip (G9 n ts)).map λx=>V.ref x.1):=by
   rw[show (λx:Addr×List Int=>V.ref x.1)=V.ref ∘ (·.1) from rfl,<- cb,ez];exact SqL.of R.top
  have rl:(G9 n ts).length<=1000:=by rw[E8];omega
  refine⟨p,rfl,⟨_,hl⟩,λl nl=>a8K (xs:=as.zip (G9 n ts)) (λx=>V.ref x.1) (λ_=>true) (λx=>V.bl (decide ((x.2.length:Int)=2))) (by rw[List.length_zip];omega) hl nl ?_ ?_⟩
  ·intro x hx v ys R2 hy hR1 hR2;obtain⟨i,hi⟩:=ca.mp hx;rw[dH] at hi;have hr:=R.row i x.1 x.2 hi.1 hi.2;have sm:A9 H1 (upd H1 l (.lst ys)):=(A9.refl H1).upd nl;walk_at "rd";exact⟨x.2.map V.int,.inl (SqL.of (sm _ _ hr)),by rw[ae];exact a7T hy (by rw[List.length_zip];omega) hR1⟩
  ·have e2:(as.zip (G9 n ts)).map (λx=>V.bl (decide ((x.2.length:Int)=2)))=((G9 n ts).map λr=>decide ((r.length:Int)=2)).map V.bl:=by
    rw[cb,show (λx:Addr×List Int=>V.bl (decide ((x.2.length:Int)=2)))=(V.bl ∘ λr:List Int=>decide ((r.length:Int)=2)) ∘ (·.2) from rfl,<- cb,a3G R.len]
   rw[jR.mpr λ_ _=>rfl,e2];refine⟨_,SqL.of A3,?_⟩;rw[show ((G9 n ts).map λr=>decide ((r.length:Int)=2)).all id=V2 n ts by unfold V2;rw[iD];rfl];exact q _ (s1.trans ((A9.refl H1).upd nl))
theorem a8i {n:Nat}:B0 0 (n+1)=B0 0 n++[(n:Int)]:=by unfold B0;rw[cO,ap];simp
def a8Q (Hb:Hp)(l a0 a1:Addr)(ts:⋯)(far near:List Int)(i:Nat)(τ:St)(Hc:Hp):Prop:=∃ c d:Option V,τ=[c,d,some (.ref a0),some (.ref a1)]/\A9 Hb Hc/\Hc l=some (.lst (((B0 0 i).map (sdB ts far near)).map V.bl))
def a2S (K:ah):Sp:=λvs H Q _=>∃(w:Addr) (n:Int) (ts:⋯) (u:Int) (us:List Int),vs=[.ref w]/\M0 H w n ts/\1<=n/\n<=1000/\ts.length<=300/\L5 n ts/\nb ts 0=u::us/\∀ H',A9 H H'->Q (.bl ((B0 0 n.toNat).all (sdB ts (u::us) (nb ts u)))) H'
theorem a3b:D0 ["web","rows","far","near"] ["web"] (B7 (top 9)):=by walk_at "s"
theorem a7h (F:Fun K "is_sides" "is_sides" (top 9) f fd)(B:Bt mg)(D1:Df K mg "neighbour_rows" st1 f1 fd1 ["web"])(G1:E1 P w K mg base CX0 1 f1 fd1 ["web"] V6)(C:Bt2 mg):E1 P w K mg base CX0 2 f fd ["web"] (a2S K):=by
 refine F.ok a3b (λvs H Q E h=>?_) (λcdv A outer s H vs Q E hr h=>?_)
 ·walk_at "h"
 ·obtain⟨w0,n,ts,u0,us,rfl,hw,hn0,hn1,htl,hok,e0,q⟩:=h;have nd:=a3b.nd;have hu:=K2 hr
  refine⟨_,(A2 (C6 (i:=1) nd rfl (.inl rfl) (C3 G1 D1 hr.m (A0 (pv 0) A1)))
    (A2 (C6 (i:=2) nd rfl (.inr rfl) (B6 (B8 K) (pv 1) A4 (λ_ _=>rfl)))
    (A2 (C6 (i:=3) nd rfl (.inr rfl) (B6 (B8 K) (pv 1) (B6 (B8 K) (pv 2) A4 (λ_ _=>rfl)) (λ_ _=>rfl)))
    (A6 (B9 (A7 (b3d K hr.hd) (by rfl) C.all boot_all (A0 (J8 (own:=["place","row"]) (fr:=[("far",2),("near",3)]) rfl (by walk_at "w") (C5 rfl rfl (C5 rfl rfl C7)) (a6r (K:=K) (by rfl) C.enumerate jI (A0 (pv 1) A1)) ⟨λ_ _ _ _=>⟨(K1 K (n:=2) rfl (C1 (A8 (i:=0) (show List.Nodup (["place","row","far","near"]:List Str) by decide +kernel) rfl (.inl rfl)) (C1 (A8 (i:=1) (show List.Nodup (["place","row","far","near"]:List Str) by decide +kernel) rfl (.inl rfl)) K0))),J9,(J0 (a7B K hr.units) (pv 1) (a8o (B4 (X3 K) (pv 0) (pv 2) (by walk_at "w")) (pv 3) (pv 2)) (B5 _))⟩⟩) A1))))))),?_⟩
  walk_at "rd";refine⟨w0,n,ts,rfl,hw,∅,hn1,∅,hok,λp as H1 s1 np na R=>?_⟩;have hu:0<=u0/\u0<n:=by
   have hm:u0∈nb ts 0:=by rw[e0];exact aM ..
   rcases X2.mp hm with h | ⟨h,_⟩
   ·have:=hok _ h;omega
   ·have:=hok _ h;omega
  obtain⟨a0,_,i0,r0,_⟩:=R.get (v:=0) (by decide) (C8 (by decide) ∅);obtain⟨a1,_,i1,r1,_⟩:=R.get hu.1 (C8 hu.1 hu.2);rw[e0] at r0;refine⟨p,rfl,_,SqL.of R.top,_,i0,a0,rfl,_,SqL.of r0,_,(by show atI _ ((0:Nat):Int)=some (V.int u0);exact R0 rfl),p,rfl,_,u0,rfl,SqL.of R.top,_,i1,p,rfl,⟨_,SqL.of R.top⟩,λl nl=>a6B (K:=K) (xs:=as.map V.ref) (a8Q H1 l a0 a1 ts (u0::us) (nb ts u0)) ⟨none,none,rfl,(A9.refl H1).upd nl,A3⟩ ?_ ?_ ?_⟩
  ·rintro i τ Hc _ ⟨_,_,rfl,sc,_⟩;exact SqL.of (sc _ _ R.top)
  ·rintro i x τ Hc b hx ⟨c,d,rfl,sc,hc⟩ nb0;have hl:=R.len;rw[E8] at hl;have hi:i<n.toNat:=by have:=(aq.mp hx).1;rw[ae] at this;omega
   rw[aF] at hx;obtain⟨ai,hai,rfl⟩:=bL.mp hx;have hri:=R.row i ai (nb ts i) hai (by have:=C8 (n:=n) (ts:=ts) (v:=(i:Int)) ∅ ∅;rwa [bN] at this);have sb:A9 Hc (upd Hc b (.tup [.int i,.ref ai])):=(A9.refl Hc).upd nb0;have s2:=sc.trans sb;walk_at "rd";refine⟨_,SqT.of A3,rfl,_,_,rfl,_,_,rfl,rfl,?_⟩;unfold tIf a7Z;refine⟨_,rfl,_,rfl,a0p (us:=u0::us) (.inl (SqL.of (s2 _ _ r0))) ⟨_,rfl,?_⟩⟩;have fin:∀(ay:Addr) (ms:List Int),upd Hc b (.tup [.int i,.ref ai]) ay=some (.lst (ms.map V.int))->ms=(if decide ((i:Int)∈u0::us)=true then nb ts u0 else u0::us)->a1X K false (.ref ai) (.ref ay) (upd Hc b (.tup [.int i,.ref ai])) λv_2 H4=>∃ ys,H4 l=some (.lst ys)/\ys.length<sizeLine/\a8Q H1 l a0 a1 ts (u0::us) (nb ts u0) (i+1) [some (.int i),some (.ref ai),some (.ref a0),some (.ref a1)] (upd H4 l (.lst (ys++[v_2]))):=λay ms e em=>by
    refine b4U (SqL.of (s2 _ _ hri)) (SqL.of e) ⟨_,sb _ _ hc,by rw[ae,ae,B1];exact C0 ∅,_,_,rfl,s2.upd nl,?_⟩;rw[A3,a8i,ap,ap,em];rfl
   dsimp only;refine K7 (λh=>?_) λh=>?_
   ·exact⟨_,rfl,fin a1 _ (s2 _ _ r1) (by rw[if_pos h])⟩
   ·exact⟨_,rfl,fin a0 _ (s2 _ _ r0) (by rw[if_neg h])⟩
  ·rintro τ Hc ⟨c,d,rfl,sc,hc⟩;refine⟨_,SqL.of hc,?_⟩;rw[iD,ae,R.len,E8];exact q Hc (s1.trans sc)
def b0D (Hb:Hp)(l:Addr)(ts:⋯)(i:Nat)(τ:St)(Hc:Hp):Prop:=∃ c d:Option V,τ=[c,d]/\A9 Hb Hc/\Hc l=some (.lst ((P7 ts i).map V.int))
def b0B (Hb:Hp)(l:Addr)(k p:Addr)(T:⋯)(τ:St)(Hc:Hp):Prop:=∃ c d:Option V,τ=[c,d,some (.ref k),some (.ref p)]/\A9 Hb Hc/\LPs Hc l T
def b0C (Hb:Hp)(l:Addr)(x:Int)(k p:Addr)(T:⋯)(τ:St)(Hc:Hp):Prop:=∃ d:Option V,τ=[some (.int x),d,some (.ref k),some (.ref p)]/\A9 Hb Hc/\LPs Hc l T
def a1P (K:ah):Sp:=λvs H Q _=>∃(p:Addr) (as:List Addr) (n:Int) (ts:⋯),vs=[.ref p]/\0<=n/\n<=60/\ts.length<=300/\E5 H p as (G9 n ts) /\
 ∀ l H',A9 H H'->H l=none->LPs H' l (ecT ts (P7 ts n.toNat) (P7 ts n.toNat))->Q (.ref l) H'
theorem a1U:D0 ["rows","corners"] ["rows"] (B7 (top 10)):=by walk_at "s"
theorem a5J (F:Fun K "end_columns" "end_columns" (top 10) f fd)(B:Bt mg)(C:Bt2 mg):E1 P w K mg base CX0 1 f fd ["rows"] (a1P K):=by
 refine F.ok a1U (λvs H Q E h=>?_) (λcdv A outer s H vs Q E hr h=>?_)
 ·walk_at "h"
 ·obtain⟨p,as,n,ts,rfl,hn0,hn1,htl,hR,q⟩:=h;have nd:=a1U.nd;have hu:=K2 hr
  refine⟨_,(A2 (C6 (i:=1) nd rfl (.inr rfl) (J8 (own:=["place","row"]) (fr:=[]) rfl (by walk_at "w") C7 (a6r (K:=K) (by rfl) C.enumerate jI (A0 (pv 0) A1)) ⟨λ_ _ _ _=>⟨(K1 K (n:=2) rfl (C1 (A8 (i:=0) (show List.Nodup (["place","row"]:List Str) by decide +kernel) rfl (.inl rfl)) (C1 (A8 (i:=1) (show List.Nodup (["place","row"]:List Str) by decide +kernel) rfl (.inl rfl)) K0))),(M8 (B4 J7 (A7 (N7 K) (by rfl) B.len ba (A0 (pv 1) A1)) A4 (B5 _))),(pv 0)⟩⟩))
    (A6 (B9 (a3f (own:=["a","b"]) (fr:=[("corners",1),("rows",0)]) rfl (by walk_at "w") (C5 rfl rfl (C5 rfl rfl C7)) (F0 K (pv 1)) ⟨λ_ _ _ _=>⟨(A8 (i:=0) (show List.Nodup (["a","b","corners","rows"]:List Str) by decide +kernel) rfl (.inl rfl)),J9,(F0 K (B6 (B8 K) (pv 3) (pv 0) (λ_ _=>rfl))),(A8 (i:=1) (show List.Nodup (["a","b","corners","rows"]:List Str) by decide +kernel) rfl (.inl rfl)),(M8 (B4 (X3 K) (pv 1) (pv 2) (by walk_at "w"))),(E9 (A0 (pv 0) (A0 (pv 1) A1)))⟩⟩)))),?_⟩
  walk_at "rd";have hl:=hR.len;rw[E8] at hl;refine⟨⟨_,SqL.of hR.top⟩,λl1 nl1=>a6B (K:=K) (xs:=as.map V.ref) (b0D H l1 ts) ⟨none,none,rfl,(A9.refl H).upd nl1,A3⟩ ?_ ?_ ?_⟩
  ·rintro i τ Hc _ ⟨_,_,rfl,sc,_⟩;exact SqL.of (sc _ _ hR.top)
  ·rintro i x τ Hc b hx ⟨c,d,rfl,sc,hc⟩ nb0;have hi:i<n.toNat:=by have:=(aq.mp hx).1;rw[ae] at this;omega
   rw[aF] at hx;obtain⟨ai,hai,rfl⟩:=bL.mp hx;have hri:=hR.row i ai (nb ts i) hai (by have:=C8 (n:=n) (ts:=ts) (v:=(i:Int)) ∅ ∅;rwa [bN] at this);have sb:A9 Hc (upd Hc b (.tup [.int i,.ref ai])):=(A9.refl Hc).upd nb0;have cl:=a5q (ts:=ts) (m:=i);walk_at "rd";refine⟨_,SqT.of A3,rfl,_,_,rfl,_,_,rfl,rfl,?_⟩;walk_at "rd";have s2:=sc.trans sb;refine⟨(nb ts i).map V.int,.inl (SqL.of (s2 _ _ hri)),?_⟩;rw[ae];refine K7 (λh=>⟨_,sb _ _ hc,by rw[ae];exact C0 ∅,_,_,rfl,s2.upd nl1,?_⟩) λh=>⟨_,_,rfl,s2,?_⟩
   ·rw[A3,a3w,if_pos (show a7E ts i=true from h),ap];rfl
   ·rw[a3w,if_neg (show ¬ a7E ts i=true from h),bp];exact sb _ _ hc
  ·rintro τ Hc ⟨c,d,rfl,sc,hc⟩;rw[ae,hl] at hc;unfold b1J a7X a9z;walk_at "rd";have cl:=a5q (ts:=ts) (m:=n.toNat);generalize hcs:P7 ts n.toNat=cs at hc cl;have hin:∀ x∈cs,0<=x/\x<n:=λx hx=>by
    rw[<- hcs] at hx;have:=(V9.mp hx).1;omega
   refine⟨⟨_,SqL.of hc⟩,λl nl=>a1H (K:=K) (xs:=cs.map V.int) (λi τ Hd=>b0B Hc l l1 p (ecT ts cs (cs.take i)) τ Hd) ⟨none,none,rfl,(A9.refl Hc).upd nl,LPs.nil⟩ ?_ ?_ ?_⟩
   ·rintro i τ Hd _ ⟨_,_,rfl,sd,_⟩;exact SqL.of (sd _ _ hc)
   ·rintro i x τ Hd hx ⟨c,d,rfl,sd,hT⟩;rw[aF] at hx;obtain⟨x,hxi,rfl⟩:=bL.mp hx;have et:cs.take (i+1)=cs.take i++[x]:=by rw[bD,hxi];rfl
    obtain⟨x0,x1⟩:=hin x (aG hxi);obtain⟨ax,_,ix,rx,_⟩:=hR.get x0 (C8 x0 x1);have lT:=a6L (cs:=cs) htl (r:=cs.take i);have lm:(cs.take i).length<=60:=by rw[aW];omega
    have lb:=Y2 (ts:=ts) x;have sf:=sc.trans sd;walk_at "rd";refine⟨_,SqL.of (sf _ _ hR.top),_,ix,ax,rfl,⟨_,SqL.of (sf _ _ rx)⟩,a1H (K:=K) (xs:=(nb ts x).map V.int) (λj τ He=>b0C Hc l x l1 p (ecT ts cs (cs.take i)++ecR cs x ((nb ts x).take j)) τ He) ⟨d,rfl,sd,(bp (ecT ts cs (cs.take i))).symm ▸ hT⟩ ?_ ?_ ?_⟩
    ·rintro j τ He _ ⟨_,rfl,se,_⟩;exact SqL.of (se _ _ (sc _ _ rx))
    ·rintro j y τ He hy ⟨d2,rfl,se,hU⟩;rw[aF] at hy;obtain⟨y,hyi,rfl⟩:=bL.mp hy;have ey:(nb ts x).take (j+1)=(nb ts x).take j++[y]:=by rw[bD,hyi];rfl
     have lR:=a6M (cs:=cs) (a:=x) (r:=(nb ts x).take j);have lj:((nb ts x).take j).length<=300:=by rw[aW];omega
     walk_at "rd";refine a0p (us:=cs) (.inl (SqL.of (se _ _ hc))) ⟨_,rfl,K7 (λh=>?_) λh=>?_⟩
     ·refine⟨by decide,λpq np=>hU.more (t:=(x,y)) (by rw[ak];omega) np λys e hl hT'=>⟨e,hl,_,rfl,(se.upd (se.free np)).upd nl,?_⟩⟩;rw[ey,a5n,if_pos (~~~h),<- br];exact hT'
     ·refine⟨_,rfl,se,?_⟩;rw[ey,a5n,if_neg (~~~h),bp];exact hU
    ·rintro τ He ⟨d2,rfl,se,hU⟩;rw[ae,bz] at hU;refine⟨_,_,rfl,se,?_⟩;rw[et,a9e];exact hU
   ·rintro τ Hd ⟨c,d,rfl,sd,hT⟩;rw[ae,bz] at hT;exact q l Hd (sc.trans sd) (sc.free nl) (by rw[hcs];exact hT)
def b0t (Hb:Hp)(l:Addr)(b:Int)(m p:Addr)(T:⋯)(τ:St)(Hc:Hp):Prop:=∃ c d:Option V,τ=[c,d,some (.int b),some (.ref m),some (.ref p)]/\A9 Hb Hc/\LPs Hc l T
def b0u (Hb:Hp)(l:Addr)(x b:Int)(m p:Addr)(T:⋯)(τ:St)(Hc:Hp):Prop:=∃ d:Option V,τ=[some (.int x),d,some (.int b),some (.ref m),some (.ref p)]/\A9 Hb Hc/\LPs Hc l T
def a1o (K:ah):Sp:=λvs H Q _=>∃(p:Addr) (as:List Addr) (n:Int) (ts:⋯) (m:Addr) (kvs:List (Key×V)) (c:Addr) (a b:Int),vs=[.ref p,.ref m,.ref c]/\n<=60/\ts.length<=300/\E5 H p as (G9 n ts)/\H m=some (.dK kvs)/\H c=some (.tup [.int a,.int b])/\0<=a/\a<n/\0<=b/\b<n /\
 ∀ l H',A9 H H'->H l=none->LPs H' l (ncT ts kvs b (nb ts a))->Q (.ref l) H'
theorem a1t:D0 ["rows","met","column","a","b"] ["rows","met","column"] (B7 (top 11)):=by walk_at "s"
theorem a4U (F:Fun K "next_columns" "next_columns" (top 11) f fd)(B:Bt mg):E1 P w K mg base CX0 1 f fd ["rows","met","column"] (a1o K):=by
 refine F.ok a1t (λvs H Q E h=>?_) (λcdv A outer s H vs Q E hr h=>?_)
 ·walk_at "h"
 ·obtain⟨p,as,n,ts,m,kvs,cp,a,b,rfl,hn1,htl,hR,hm,hc,ha0,ha1,hb0,hb1,q⟩:=h;have nd:=a1t.nd;have hu:=K2 hr
  refine⟨_,(A2 (a0Y (pv 2) (K1 K (n:=2) rfl (C1 (A8 (i:=3) nd rfl (.inl rfl)) (C1 (A8 (i:=4) nd rfl (.inr rfl)) K0))))
    (A6 (B9 (a3f (own:=["c","d"]) (fr:=[("b",4),("met",1),("rows",0)]) rfl (by walk_at "w") (C5 rfl rfl (C5 rfl rfl (C5 rfl rfl C7))) (F0 K (B6 (B8 K) (pv 0) (pv 3) (λ_ _=>rfl))) ⟨λ_ _ _ _=>⟨(A8 (i:=0) (show List.Nodup (["c","d","b","met","rows"]:List Str) by decide +kernel) rfl (.inl rfl)),(M8 (a0X (a1b hu (pv 0) (pv 3)))),(F0 K (B6 (B8 K) (pv 4) (pv 2) (λ_ _=>rfl))),(A8 (i:=1) (show List.Nodup (["c","d","b","met","rows"]:List Str) by decide +kernel) rfl (.inl rfl)),(M8 (a0X (a1b hu (pv 1) (pv 3)))),(E9 (A0 (pv 0) (A0 (pv 1) A1)))⟩⟩)))),?_⟩
  walk_at "rd";refine⟨_,SqT.of hc,rfl,_,_,rfl,_,_,rfl,rfl,?_⟩;unfold b1J a7X a9z;walk_at "rd";obtain⟨aa,_,ia,ra,_⟩:=hR.get ha0 (C8 ha0 ha1);obtain⟨ab,_,ib,rb,_⟩:=hR.get hb0 (C8 hb0 hb1);refine⟨_,SqL.of hR.top,_,ia,aa,rfl,⟨_,SqL.of ra⟩,λl nl=>a1H (K:=K) (xs:=(nb ts a).map V.int) (λi τ Hc=>b0t H l b m p (ncT ts kvs b ((nb ts a).take i)) τ Hc) ⟨none,none,rfl,(A9.refl H).upd nl,LPs.nil⟩ ?_ ?_ ?_⟩
  ·rintro i τ Hc _ ⟨_,_,rfl,sc,_⟩;exact SqL.of (sc _ _ ra)
  ·rintro i x τ Hc hx ⟨c,d,rfl,sc,hT⟩;rw[aF] at hx;obtain⟨x,hxi,rfl⟩:=bL.mp hx;walk_at "rd";have et:(nb ts a).take (i+1)=(nb ts a).take i++[x]:=by rw[bD,hxi];rfl
   have la:=Y2 (ts:=ts) a;have lb:=Y2 (ts:=ts) b;have lT:=b0j (ts:=ts) (kvs:=kvs) (b:=b) (r:=(nb ts a).take i);have lm:((nb ts a).take i).length*(nb ts b).length<=300*300:=Nat.mul_le_mul (by rw[aW];omega) ∅;refine⟨_,a2H.k (k:=.inl x) (sc _ _ hm),K7 (λh=>?_) λh=>?_⟩
   ·have hx':¬ L9 kvs x=true:=by simpa [L9] using h
    refine⟨_,SqL.of (sc _ _ hR.top),_,ib,ab,rfl,⟨_,SqL.of (sc _ _ rb)⟩,a1H (K:=K) (xs:=(nb ts b).map V.int) (λj τ Hd=>b0u H l x b m p (ncT ts kvs b ((nb ts a).take i)++ncR ts kvs b x ((nb ts b).take j)) τ Hd) ⟨d,rfl,sc,(bp (ncT ts kvs b ((nb ts a).take i))).symm ▸ hT⟩ ?_ ?_ ?_⟩
    ·rintro j τ Hd _ ⟨_,rfl,sd,_⟩;exact SqL.of (sd _ _ rb)
    ·rintro j y τ Hd hy ⟨d2,rfl,sd,hU⟩;rw[aF] at hy;obtain⟨y,hyi,rfl⟩:=bL.mp hy;have ey:(nb ts b).take (j+1)=(nb ts b).take j++[y]:=by rw[bD,hyi];rfl
     have lR:=a6t (ts:=ts) (kvs:=kvs) (b:=b) (c:=x) (r:=(nb ts b).take j);have lj:((nb ts b).take j).length<=300:=by rw[aW];omega
     walk_at "rd";refine⟨_,a2H.k (k:=.inl y) (sd _ _ hm),K7 (λh=>?_) λh=>?_⟩
     ·have hy':¬ L9 kvs y=true:=by simpa [L9] using h
      refine⟨by decide,λpq np=>hU.more (t:=(x,y)) (by rw[ak];omega) np λys e hl hT'=>⟨e,hl,_,rfl,(sd.upd (sd.free np)).upd nl,?_⟩⟩;rw[ey,a5b,if_neg hy',<- br];exact hT'
     ·have hy':L9 kvs y=true:=by unfold L9;cases e:(T4 kvs (.inl y))<;>simp_all
      refine⟨_,rfl,sd,?_⟩;rw[ey,a5b,if_pos hy',bp];exact hU
    ·rintro τ Hd ⟨d2,rfl,sd,hU⟩;rw[ae,bz] at hU;refine⟨_,_,rfl,sd,?_⟩;rw[et,a5a,if_neg hx'];exact hU
   ·have hx':L9 kvs x=true:=by unfold L9;cases e:(T4 kvs (.inl x))<;>simp_all
    refine⟨_,_,rfl,sc,?_⟩;rw[et,a5a,if_pos hx',bp];exact hT
  ·rintro τ Hc ⟨c,d,rfl,sc,hT⟩;rw[ae,bz] at hT;exact q l Hc sc nl hT
structure CSt (Hb Hc:Hp)(mt cp fd:Addr)(n:Int)(ts:⋯)(all:⋯)(m:Nat)(kvs:List (Key×V))(dn fs:⋯):Prop where
 same:A9 Hb Hc
 mt0:Hb mt=none
 cp0:Hb cp=none
 ne:fd≠cp
 met:Hc mt=some (.dK kvs)
 col:LPs Hc cp dn
 fnd:LPs Hc fd fs
 ok:b3l n kvs fs
 cnt:n.toNat+1<=m+a2D n kvs
 kl:kvs.length<=2*a2D n kvs
 dl:dn.length<=a2D n kvs
 eq:dn++U1 ts m kvs fs=all
def a2U (K:ah):Sp:=λvs H Q _=>∃(w:Addr) (n:Int) (ts:⋯),vs=[.ref w]/\M0 H w n ts/\0<=n/\n<=60/\ts.length<=300/\L5 n ts /\
 ∀ l H',A9 H H'->H l=none->LPs H' l (U1 ts (n.toNat+1) [] (ecT ts (P7 ts n.toNat) (P7 ts n.toNat)))->Q (.ref l) H'
theorem a3d:D0 ["web","rows","met","columns","found","column","place"] ["web"] (B7 (top 12)):=by walk_at "s"
theorem a7j (F:Fun K "columns_of" "columns_of" (top 12) f fd)(B:Bt mg)(D1:Df K mg "neighbour_rows" st1 f1 fd1 ["web"])(G1:E1 P w K mg base CX0 1 f1 fd1 ["web"] V6)(D2:Df K mg "end_columns" st2 f2 fd2 ["rows"])(G2:E1 P w K mg base CX0 1 f2 fd2 ["rows"] (a1P K))(D3:Df K mg "next_columns" st3 f3 fd3 ["rows","met","column"])(G3:E1 P w K mg base CX0 1 f3 fd3 ["rows","met","column"] (a1o K))(C:Bt2 mg):E1 P w K mg base CX0 2 f fd ["web"] (a2U K):=by
 refine F.ok a3d (λvs H Q E h=>?_) (λcdv A outer s H vs Q E hr h=>?_)
 ·walk_at "h"
 ·obtain⟨w0,n,ts,rfl,hw,hn0,hn1,htl,hok,q⟩:=h;have nd:=a3d.nd;have hu:=K2 hr
  refine⟨_,(A2 (C6 (i:=1) nd rfl (.inl rfl) (C3 G1 D1 hr.m (A0 (pv 0) A1)))
    (A2 (C6 (i:=2) nd rfl (.inl rfl) a8p)
    (A2 (C6 (i:=3) nd rfl (.inl rfl) (J3 A1))
    (A2 (C6 (i:=4) nd rfl (.inl rfl) (C3 G2 D2 hr.m (A0 (pv 1) A1)))
    (A2 (a0B bK (a5y K (pv 4) (λ_=>rfl))
     (A2 (C6 (i:=5) nd rfl (.inl rfl) (B6 (B8 K) (pv 4) A4 (λ_ _=>rfl)))
     (A2 (M9 (N5 K (pv 3) (A0 (pv 5) A1)))
     (A2 (P6 bK rfl (S0 K (pv 5)) (A8 (i:=6) nd rfl (.inl rfl))
      (A6 (a6p hu (pv 2) (pv 6) T3 rfl)))
     (A6 (C6 (i:=4) nd rfl (.inl rfl) (C3 G3 D3 hr.m (A0 (pv 1) (A0 (pv 2) (A0 (pv 5) A1))))))))))
    (A6 (B9 (pv 3)))))))),?_⟩
  walk_at "rd";refine⟨w0,n,ts,rfl,hw,hn0,∅,∅,hok,λp as H1 s1 np na R=>?_⟩;refine λmt nmt=>⟨bo _,λcp ncp=>?_⟩
  have sa:A9 H1 (upd H1 mt (.dK [])):=(A9.refl H1).upd nmt;have sb:=sa.trans ((A9.refl _).upd (o:=.lst []) ncp);refine⟨p,as,n,ts,rfl,hn0,hn1,htl,R.same sb,λfd Hd sd nfd hF=>?_⟩;refine⟨λm σ Hc=>∃(fd:Addr) (kvs:List (Key×V)) (dn fs:⋯) (c5 c6:Option V),σ=[some (.ref w0),some (.ref p),some (.ref mt),some (.ref cp),some (.ref fd),c5,c6]/\CSt H1 Hc mt cp fd n ts (U1 ts (n.toNat+1) [] (ecT ts (P7 ts n.toNat) (P7 ts n.toNat))) m kvs dn fs,⟨n.toNat+1,fd,[],[],ecT ts (P7 ts n.toNat) (P7 ts n.toNat),none,none,rfl,?_⟩,?_⟩
  ·exact {same:=sb.trans sd,mt0:=nmt,cp0:=sa.free ncp,ne:=λe=>by (subst e;rw[A3] at nfd;cases nfd),met:=sd _ _ (P8 A3 ncp),col:=LPs.nil.same sd,fnd:=hF,ok:=b4f hok hn0,cnt:=gB ..,kl:=bo _,dl:=bo _,eq:=rfl}
  rintro m σ Hc ⟨fd,kvs,dn,fs,c5,c6,rfl,S⟩;obtain⟨ps,ef,hps⟩:=S.fnd;have pl:=hps.len;refine⟨_,rfl,!(ps.map λx=>V.ref x.1).isEmpty,.inl ⟨_,SqL.of ef,rfl⟩,K7 (λh=>?_) λh=>?_⟩
  ·have hf:fs≠[]:=λe=>by rw[e] at pl;cases ps with | nil=>simp at h | cons _ _=>simp at pl
   obtain⟨⟨a,b⟩,fr,rfl⟩:=i9 hf;have cm:=a6R (n:=n) (kvs:=kvs);obtain⟨hu,ha0,ha1,hb0,hb1⟩:=S.ok (a,b) (aM ..);have cl:a2D n kvs<a2D n (Q8 kvs a b):=b0P (b:=b) ha0 ha1 hu;have cm2:=a6R (n:=n) (kvs:=Q8 kvs a b);obtain⟨m,rfl⟩:∃ k,m=k+1:=⟨m-1,by have:=S.cnt;omega⟩
   obtain⟨x0,pr,rfl⟩:∃ x0 pr,ps=x0::pr:=by cases ps with | nil=>simp at pl | cons x r=>exact⟨_,_,rfl⟩
   obtain⟨bq,t,ebq,hti,hq⟩:=hps.get (i:=0) (v:=V.ref x0.1) rfl;cases ebq;cases hti;refine⟨fun σ' H'=>∃ m',m'<m+1/\∃(fd:Addr) (kvs:List (Key×V)) (dn fs:⋯) (c5 c6:Option V),σ'=[some (.ref w0),some (.ref p),some (.ref mt),some (.ref cp),some (.ref fd),c5,c6]/\CSt H1 H' mt cp fd n ts (U1 ts (n.toNat+1) [] (ecT ts (P7 ts n.toNat) (P7 ts n.toNat))) m' kvs dn fs,fun σ' H' h=>h,?_⟩;walk_at "rd";obtain⟨qs,ec,hqs⟩:=S.col;have ql:=hqs.len;have hdl:=S.dl;have hkl:=S.kl;refine⟨_,SqL.of ef,_,(by show atI _ ((0:Nat):Int)=some (V.ref x0.1);exact R0 rfl),.inl ⟨rfl,_,SqL.of ec⟩,_,ec,by rw[ae];exact C0 ∅,?_⟩;have nmc:mt≠cp:=λe=>by have:=S.met;rw[e,ec] at this;cases this
   have t3:Tp Hc (upd Hc cp (.lst ((qs.map λx=>V.ref x.1)++[V.ref x0.1]))):=Tp.lst ec;have s3:A9 H1 (upd Hc cp (.lst ((qs.map λx=>V.ref x.1)++[V.ref x0.1]))):=S.same.upd S.cp0;have m3:upd Hc cp (.lst ((qs.map λx=>V.ref x.1)++[V.ref x0.1])) mt=some (.dK kvs):=by rw[B3 nmc];exact S.met
   have c3:upd Hc cp (.lst ((qs.map λx=>V.ref x.1)++[V.ref x0.1])) cp=some (.lst ((qs.map λx=>V.ref x.1)++[V.ref x0.1])):=A3;have q3:=t3 _ _ hq;have p3:=hqs.tp t3;generalize upd Hc cp (.lst ((qs.map λx=>V.ref x.1)++[V.ref x0.1]))=H3 at t3 s3 m3 c3 q3 p3 ⊢;rw[U4];walk_at "rd";refine⟨⟨_,SqT.of q3⟩,a0I (K:=K) (xs:=[V.int a,V.int b]) (λi σ Hx=>∃ c6:Option V,σ=[some (.ref w0),some (.ref p),some (.ref mt),some (.ref cp),some (.ref fd),some (.ref x0.1),c6]/\Hx=upd H3 mt (.dK (([a,b].take i).foldl (λk x=>S2 k (.inl x) (.bl true)) kvs))) ⟨c6,rfl,(a4u m3).symm⟩ ?_ ?_ ?_⟩
   ·rintro i σ Hx _ ⟨_,rfl,rfl⟩;exact SqT.of (Tp.dK m3 _ _ q3)
   ·rintro i v σ Hx hv ⟨_,rfl,rfl⟩;walk_at "rd";have l1:=Q2 kvs (.inl a) (.bl true)
    match i,hv with
    | 0,hv =>
     cases hv;exact⟨_,a4p.k (k:=.inl a) (kvs:=kvs) A3 (C0 ∅),by rw[a1D];rfl⟩
    | 1,hv =>
     cases hv;exact⟨_,a4p.k (k:=.inl b) (kvs:=S2 kvs (.inl a) (.bl true)) A3 (C0 ∅),by rw[a1D];rfl⟩
    | _+2,hv=>exact absurd hv (by simp)
   ·rintro σ Hx ⟨_,rfl,rfl⟩;walk_at "rd";have sx:A9 H1 (upd H3 mt (.dK (Q8 kvs a b))):=s3.upd S.mt0;have tx:Tp H3 (upd H3 mt (.dK (Q8 kvs a b))):=Tp.dK m3;have cx:upd H3 mt (.dK (Q8 kvs a b)) cp=some (.lst ((qs.map λx=>V.ref x.1)++[V.ref x0.1])):=by rw[B3 nmc.symm];exact c3
    refine⟨p,as,n,ts,mt,Q8 kvs a b,x0.1,a,b,rfl,hn1,htl,R.same sx,A3,tx _ _ q3,ha0,ha1,hb0,hb1,λl Hn sn nl hN=>⟨m,dD m,l,Q8 kvs a b,dn++[(a,b)],ncT ts (Q8 kvs a b) b (nb ts a),_,_,⟨rfl,rfl,rfl⟩,?_⟩⟩;have l1:=Q2 kvs (.inl a) (.bl true);have l2:=Q2 (S2 kvs (.inl a) (.bl true)) (.inl b) (.bl true);have hcn:=S.cnt;exact {same:=sx.trans sn,mt0:=S.mt0,cp0:=S.cp0,ne:=λe=>by (subst e;exact absurd (cx.symm.trans nl) (by simp)),met:=sn _ _ A3,col:=LPs.same ⟨qs++[(x0.1,tl (a,b))],by rw[cx,ap];rfl,(p3.tp tx).snoc (tx _ _ q3)⟩ sn,fnd:=hN,ok:=b4e hok,cnt:=∅,kl:=by (show (S2 (S2 kvs (.inl a) (.bl true)) (.inl b) (.bl true)).length<=_;omega),dl:=by (rw[ak,bG];omega),eq:=by (rw[br];exact S.eq)}
  ·have hf:fs=[]:=by cases fs with | nil=>rfl | cons x r=>(cases ps with | nil=>simp at pl | cons _ _=>simp at h)
   subst hf;walk_at "rd";have e:=S.eq;rw[show U1 ts m kvs []=[] by cases m<;>rfl,bp] at e;exact q cp Hc (s1.trans S.same) (s1.free S.cp0) (e ▸ S.col)
def a1O (K:ah):Sp:=λvs H Q _=>∃(cp:Addr) (T:⋯),vs=[.ref cp]/\LPs H cp T/\T.length<=200 /\
 ∀(p:Addr) (us:⋯) (H':Hp),A9 H H'->H p=none->V3 H' p us->us.Perm (a2B T)->us.Pairwise (λx y=>HT.lexLt (tl y) (tl x)=false)->Q (.ref p) H'
def b0w (Hb:Hp)(l:Addr)(T:⋯)(i:Nat)(τ:St)(Hc:Hp):Prop:=∃ c d:Option V,τ=[c,d]/\A9 Hb Hc/\LPs Hc l ((T.take i).map λt=>mm t.1 t.2)
def b0v (Hb:Hp)(cp l:Addr)(A T:⋯)(i:Nat)(σ:St)(Hc:Hp):Prop:=∃ v1 v2 v4 v5:Option V,σ=[some (.ref cp),v1,v2,some (.ref l),v4,v5]/\A9 Hb Hc/\LPs Hc l (A++crs (T.take (i+1)))
theorem a5p:∀ {T:⋯} {i:Nat} {a b:Int×Int},T[i]?=some a->T[i+1]?=some b->crs (T.take (i+2))=crs (T.take (i+1))++[mm a.1 b.1,mm a.2 b.2]
 | [],i,_,_,h,_=>by simp at h
 | [_],i,_,_,_,h=>by simp at h
 | x::y::r,0,_,_,h,h'=>by cases h;cases h';rfl
 | x::y::r,i+1,a,b,h,h'=>by
  have:=a5p (T:=y::r) (i:=i) h h';show mm x.1 y.1::mm x.2 y.2::crs ((y::r).take (i+2))=mm x.1 y.1::mm x.2 y.2::crs ((y::r).take (i+1))++_;rw[this];rfl
theorem b2V:∀ T:⋯,(crs T).length<=2*T.length:=λT=>by
 rcases a4h T with h | h
 ·omega
 ·rw[h];exact bo _
theorem a0b:D0 ["columns","a","b","ties","c","d"] ["columns"] (B7 (top 13)):=by walk_at "s"
theorem a2z (F:Fun K "ladder_ties" "ladder_ties" (top 13) f fd)(B:Bt mg)(D1:Df K mg "tie_of" st1 f1 fd1 ["one","other"])(G1:E1 P w K mg base CX0 1 f1 fd1 ["one","other"] a1L)(C:Bt2 mg):E1 P w K mg base CX0 2 f fd ["columns"] (a1O K):=by
 refine F.ok a0b (λvs H Q E h=>?_) (λcdv A outer s H vs Q E hr h=>?_)
 ·walk_at "h"
 ·obtain⟨cp,T,rfl,hT,htl,q⟩:=h;have nd:=a0b.nd;have hu:=K2 hr
  refine⟨_,(A2 (L0 (i:=3) (own:=["a","b"]) (fr:=[]) rfl nd rfl rfl (by walk_at "w") (by walk_at "w") C7 (F0 K (pv 0)) ⟨λ_ _ _ _=>⟨(K1 K (n:=2) rfl (C1 (A8 (i:=0) (show List.Nodup (["a","b"]:List Str) by decide +kernel) rfl (.inl rfl)) (C1 (A8 (i:=1) (show List.Nodup (["a","b"]:List Str) by decide +kernel) rfl (.inl rfl)) K0))),J9,(C3 G1 D1 hr.m (A0 (pv 0) (A0 (pv 1) A1)))⟩⟩)
    (A2 (P6 bK rfl (a6q (K:=K) (by rfl) C.zip boot_zip (A0 (pv 0) (A0 (a2b (a4D K) (pv 0) (a3R A4) a3S) A1))) (K1 K (n:=2) rfl (C1 (K1 K (n:=2) rfl (C1 (A8 (i:=1) nd rfl (.inl rfl)) (C1 (A8 (i:=2) nd rfl (.inl rfl)) K0))) (C1 (K1 K (n:=2) rfl (C1 (A8 (i:=4) nd rfl (.inl rfl)) (C1 (A8 (i:=5) nd rfl (.inl rfl)) K0))) K0)))
     (A6 (M9 (b0K K (pv 3) (A0 (J3 (A0 (C3 G1 D1 hr.m (A0 (pv 1) (A0 (pv 4) A1))) (A0 (C3 G1 D1 hr.m (A0 (pv 2) (A0 (pv 5) A1))) A1))) A1)))))
    (A6 (B9 (E3 (S6 K) (by rfl) B.tuple dz (A0 (A7 (T7 K) (by rfl) B.sorted dq (A0 (pv 3) A1)) A1)))))),?_⟩
  walk_at "rd";obtain⟨ps,ep,hps⟩:=hT;have pl:=hps.len;refine⟨⟨_,SqL.of ep⟩,λl nl=>N1 (K:=K) (xs:=ps.map λx=>V.ref x.1) (b0w H l T) ⟨none,none,rfl,(A9.refl H).upd nl,LPs.nil⟩ ?_ ?_ ?_⟩
  ·rintro i τ Hc _ ⟨_,_,rfl,sc,_⟩;exact SqL.of (sc _ _ ep)
  ·rintro i v τ Hc hv ⟨_,_,rfl,sc,hA⟩ _;obtain⟨b,t,rfl,hti,hb⟩:=hps.get hv;walk_at "rd";obtain⟨qs,eq,hqs⟩:=hA;have ql:=hqs.len;rw[ae,aW] at ql;refine⟨_,SqT.of (sc _ _ hb),rfl,_,_,rfl,_,_,rfl,rfl,t.1,t.2,rfl,λp Hd sd np epp=>⟨_,sd _ _ eq,by rw[ae];exact C0 ∅,_,_,rfl,(sc.trans sd).upd nl,?_⟩⟩;rw[bD,hti,ap];exact⟨qs++[(p,tl (mm t.1 t.2))],by rw[A3,ap];rfl,(hqs.tp (sd.tp.trans (Tp.lst (sd _ _ eq)))).snoc (Tp.lst (sd _ _ eq) _ _ epp)⟩
  ·rintro τ H2 ⟨_,_,rfl,s2,hA⟩;rw[ae,pl,bz] at hA;have hA0:=hA;rw[U4];walk_at "rd";refine a9J (s2 _ _ ep) λz H3 nz s3 ez=>⟨cp,z,⟨rfl,rfl⟩,⟨_,SqL.of (s3 _ _ (s2 _ _ ep))⟩,⟨_,SqL.of ez⟩,?_⟩
   have ec:Z8 (ps.map λx=>V.ref x.1) (some 1) none=(ps.drop 1).map λx=>V.ref x.1:=by
    rw[List.map_drop];exact a9l
   rw[ec] at ez;have ct1:crs (T.take 1)=[]:=by cases T<;>rfl
   refine a9c (K:=K) (xs:=ps.map λx=>V.ref x.1) (ys:=(ps.drop 1).map λx=>V.ref x.1) (λi σ Hc=>b0v H cp l (T.map λt=>mm t.1 t.2) T i σ Hc/\A9 H Hc/\Hc z=some (.lst ((ps.drop 1).map λx=>V.ref x.1))) ⟨⟨_,_,_,_,rfl,s2.trans s3,by rw[ct1,bp];exact hA.same s3⟩,s2.trans s3,ez⟩ (by simp) ?_ ?_ ?_
   ·rintro i σ Hc _ ⟨_,sc,hz⟩;exact⟨SqL.of (sc _ _ ep),SqL.of hz⟩
   ·rintro i x y σ Hc q0 hx hy ⟨⟨v1,v2,v4,v5,rfl,sc,hA⟩,_,hz⟩ nq;obtain⟨bx,tx,rfl,htx,hbx⟩:=hps.get hx;rw[aF,gc,<- aF,Nat.add_comm] at hy;obtain⟨by',ty,rfl,hty,hby⟩:=hps.get hy;refine A5 nq λHd sd ed=>?_
    have hil:=(aq.mp hty).1;walk_at "rd";have hdb:=sd _ _ (sc _ _ hbx);have hdy:=sd _ _ (sc _ _ hby);have hz2:=sd _ _ hz;refine⟨_,SqT.of ed,rfl,_,_,rfl,bx,rfl,_,SqT.of hdb,rfl,_,_,rfl,_,_,rfl,rfl,_,_,rfl,by',rfl,_,SqT.of hdy,rfl,_,_,rfl,_,_,rfl,rfl,rfl,?_,?_⟩
    ·obtain⟨qs,eq,_⟩:=hA;exact .inl ⟨rfl,_,SqL.of (sd _ _ eq)⟩
    have sc2:=sc.trans sd;have hA2:=hA.same sd;refine⟨tx.1,ty.1,rfl,λp1 He se np1 ep1=>⟨tx.2,ty.2,rfl,λp2 Hf sf np2 ep2=>⟨by decide,λp3 np3=>A5 np3 λHg sg eg=>?_⟩⟩⟩;obtain⟨qs,eq,hqs⟩:=((hA2.same se).same sf).same sg;have ql:=hqs.len;have cl:=b2V (T.take (i+1));rw[ak,ae] at ql;rw[aW] at cl;have s6:=sd.trans (se.trans (sf.trans sg));have hz6:=s6 _ _ hz;have nlz:z≠l:=λe=>by
     subst e;obtain⟨_,e0,_⟩:=hA0;rw[nz] at e0;cases e0
    refine⟨_,eq,_,eg,by rw[ae];exact dv (C0 (by simp only[aD,cX];omega)),⟨_,_,_,_,rfl,(sc.trans s6).upd nl,?_⟩,(sc.trans s6).upd nl,by rw[B3 nlz];exact hz6⟩;have tg:Tp Hg (upd Hg l (.lst ((qs.map λx=>V.ref x.1)++[V.ref p1,V.ref p2]))):=Tp.lst eq;refine⟨qs++[(p1,tl (mm tx.1 ty.1))]++[(p2,tl (mm tx.2 ty.2))],by rw[A3,ap,ap,br];rfl,?_⟩;have hh:=((hqs.tp tg).snoc (t:=mm tx.1 ty.1) (tg _ _ ((sf.trans sg) _ _ ep1))).snoc (t:=mm tx.2 ty.2) (tg _ _ (sg _ _ ep2));rw[show ((T.map λt=>mm t.1 t.2)++crs (T.take (i+1+1)))=((T.map λt=>mm t.1 t.2)++crs (T.take (i+1)))++[mm tx.1 ty.1]++[mm tx.2 ty.2] by rw[a5p htx hty];simp];exact hh
   ·rintro σ Hc ⟨⟨v1,v2,v4,v5,rfl,sc,hA⟩,_,hz⟩;rw[ae,iG,pl] at hA;have et:T.take (T.length-1+1)=T:=cS ∅;rw[et] at hA;walk_at "rd";obtain⟨qs,eq,hqs⟩:=hA;refine⟨qs,hqs.src eq,λps' l2 pm hs nl2=>?_⟩;obtain⟨us',pu,hps'⟩:=hqs.perm pm;refine A5 nl2 λHe se ee=>⟨_,.inl ⟨SqL.of ee,λl3 n3=>A5 n3 λHf sf ef=>?_⟩⟩
    exact q l3 us' Hf ((sc.trans se).trans sf) (sc.free (se.free n3)) ⟨ps',ef,hps'.tp (se.trans sf).tp⟩ pu (hps'.srt hs)
def b2L (Hb:Hp)(l:Addr)(T:⋯)(i:Nat)(τ:St)(Hc:Hp):Prop:=∃ c d:Option V,τ=[c,d]/\A9 Hb Hc/\Hc l=some (.lst (((T.take i).map (·.1)).map V.int))
def a1Q (K:ah):Sp:=λvs H Q _=>∃(cp:Addr) (T:⋯),vs=[.ref cp]/\LPs H cp T/\T.length<=1000 /\
 ∀(p:Addr) (H':Hp) (us:List Int),A9 H H'->H p=none->H' p=some (.tup (us.map V.int))->us.Perm (blS T)->us.Pairwise (·<=·)->Q (.ref p) H'
theorem a0c:D0 ["columns"] ["columns"] (B7 (top 14)):=by walk_at "s"
theorem a2A (F:Fun K "busy_in_ladder" "busy_in_ladder" (top 14) f fd)(B:Bt mg):E1 P w K mg base CX0 1 f fd ["columns"] (a1Q K):=by
 refine F.ok a0c (λvs H Q E h=>?_) (λcdv A outer s H vs Q E hr h=>?_)
 ·walk_at "h"
 ·obtain⟨cp,T,rfl,hT,htl,q⟩:=h;have nd:=a0c.nd;have hu:=K2 hr
  refine⟨_,(A2 (J6 (B4 J7 (A7 (N7 K) (by rfl) B.len ba (A0 (pv 0) A1)) A4 (B5 _))
     (A6 (B9 (E3 (S6 K) (by rfl) B.tuple dz (A0 (A7 (X8 K hr.hd) (by rfl) B.sorted dq (A0 (B6 (B8 K) (pv 0) A4 (λ_ _=>rfl)) A1)) A1))))
     C9)
    (A6 (B9 (E3 (S6 K) (by rfl) B.tuple dz (A0 (A7 (X8 K hr.hd) (by rfl) B.sorted dq (A0 (J8 (own:=["a","b"]) (fr:=[]) rfl (by walk_at "w") C7 (F0 K (pv 0)) ⟨λ_ _ _ _=>⟨(K1 K (n:=2) rfl (C1 (A8 (i:=0) (show List.Nodup (["a","b"]:List Str) by decide +kernel) rfl (.inl rfl)) (C1 (A8 (i:=1) (show List.Nodup (["a","b"]:List Str) by decide +kernel) rfl (.inl rfl)) K0))),J9,(pv 0)⟩⟩) A1)) A1))))),?_⟩
  walk_at "rd";obtain⟨ps,ep,hps⟩:=hT;have pl:=hps.len;refine⟨_,.inl (SqL.of ep),?_⟩;rw[ae,pl];refine K7 (λh=>?_) λh=>?_
  ·have h3:(T.length:Int)=3:= ~~~h
   obtain⟨v,hv⟩:∃ v,(ps.map λx=>V.ref x.1)[1]?=some v:=⟨_,au (by rw[ae];omega)⟩
   obtain⟨b,t,rfl,hti,hb⟩:=hps.get hv;have eb:blS T=[t.1,t.2]:=by unfold blS;rw[if_pos h,hti]
   refine⟨_,SqL.of ep,_,(by show atI _ ((1:Nat):Int)=_;exact R0 hv),b,rfl,[t.1,t.2],.inr (.inl (SqT.of hb)),λns' l pm srt nl=>⟨_,.inl ⟨SqL.of A3,λl1 nl1=>?_⟩⟩⟩;have sa:=(A9.refl H).upd (o:=.lst (ns'.map V.int)) nl;exact q l1 _ ns' (sa.trans ((A9.refl _).upd nl1)) (sa.free nl1) A3 (eb ▸ pm) srt
  ·have eb:blS T=T.map (·.1):=by unfold blS;rw[if_neg h]
   refine⟨⟨_,SqL.of ep⟩,λl0 nl0=>N1 (K:=K) (xs:=ps.map λx=>V.ref x.1) (b2L H l0 T) ⟨none,none,rfl,(A9.refl H).upd nl0,A3⟩ ?_ ?_ ?_⟩
   ·rintro i τ Hc _ ⟨_,_,rfl,sc,_⟩;exact SqL.of (sc _ _ ep)
   ·rintro i v τ Hc hv ⟨_,_,rfl,sc,hc⟩ _;obtain⟨b,t,rfl,hti,hb⟩:=hps.get hv;walk_at "rd";refine⟨_,SqT.of (sc _ _ hb),rfl,_,_,rfl,_,_,rfl,rfl,_,hc,by rw[ae,ae,aW];exact C0 ∅,_,_,rfl,sc.upd nl0,?_⟩;rw[A3,bD,hti,ap,ap];rfl
   ·rintro τ Hc ⟨_,_,rfl,sc,hc⟩;rw[ae,pl,bz] at hc;refine⟨T.map (·.1),.inl (SqL.of hc),λns' l pm srt nl=>⟨_,.inl ⟨SqL.of A3,λl1 nl1=>?_⟩⟩⟩;have sa:=sc.trans ((A9.refl Hc).upd (o:=.lst (ns'.map V.int)) nl);exact q l1 _ ns' (sa.trans ((A9.refl _).upd nl1)) (sa.free nl1) A3 (eb ▸ pm) srt
def a2V (K:ah):Sp:=λvs H Q _=>∃(w:Addr) (n:Int) (ts:⋯),vs=[.ref w]/\M0 H w n ts/\C4 n ts/\(R8 n ts=none->∀ H',A9 H H'->Q .non H') /\
 ∀ k,R8 n ts=some k->∀(f t:Addr) (us:⋯) (H':Hp),A9 H H'->H' f=some (.tup [.str k.w,.ref t])->V3 H' t us->AtO n ts k us->Q (.ref f) H'
theorem a3e:D0 ["web","places","ties","columns"] ["web"] (B7 (top 15)):=by walk_at "s"
theorem a7k (F:Fun K "at_once" "at_once" (top 15) f fd)(B:Bt mg)(D1:Df K mg "is_ring" st1 f1 fd1 ["web"])(G1:E1 P w K mg base CX0 2 f1 fd1 ["web"] a2R)(D2:Df K mg "is_sides" st2 f2 fd2 ["web"])(G2:E1 P w K mg base CX0 2 f2 fd2 ["web"] (a2S K))(D3:Df K mg "tree_by" st3 f3 fd3 ["web","busy"])(G3:E1 P w K mg base CX0 3 f3 fd3 ["web","busy"] (a2N K))(D4:Df K mg "neighbour_rows" st4 f4 fd4 ["web"])(G4:E1 P w K mg base CX0 1 f4 fd4 ["web"] V6)(D5:Df K mg "columns_of" st5 f5 fd5 ["web"])(G5:E1 P w K mg base CX0 2 f5 fd5 ["web"] (a2U K))(D6:Df K mg "ladder_ties" st6 f6 fd6 ["columns"])(G6:E1 P w K mg base CX0 2 f6 fd6 ["columns"] (a1O K))(D7:Df K mg "busy_in_ladder" st7 f7 fd7 ["columns"])(G7:E1 P w K mg base CX0 1 f7 fd7 ["columns"] (a1Q K))(C:Bt2 mg):E1 P w K mg base CX0 4 f fd ["web"] (a2V K):=by
 refine F.ok a3e (λvs H Q E h=>?_) (λcdv A outer s H vs Q E hr h=>?_)
 ·walk_at "h"
 ·obtain⟨w0,n,ts,rfl,hw,W,qn,qk⟩:=h;have nd:=a3e.nd;have hu:=K2 hr
  refine⟨_,(A2 (a0Y (pv 0) (K1 K (n:=2) rfl (C1 (A8 (i:=1) nd rfl (.inl rfl)) (C1 (A8 (i:=2) nd rfl (.inl rfl)) K0))))
    (A2 (J6 (B4 J7 (A7 (N7 K) (by rfl) B.len ba (A0 (pv 2) A1)) (B2 N0 (pv 1) A4) (B5 _))
     (A6 (B9 (E9 (A0 Q5 (A0 (pv 2) A1)))))
     C9)
    (A2 (J6 (B4 J7 (B2 N6 A4 (A7 (N7 K) (by rfl) B.len ba (A0 (pv 2) A1))) (B2 N6 (pv 1) (B2 N0 (pv 1) A4)) (B5 _))
     (A6 (B9 (E9 (A0 Q5 (A0 (C3 G3 D3 hr.m (A0 (pv 0) (A0 (E9 (A0 A4 A1)) A1))) A1)))))
     C9)
    (A2 (J6 (U0 (C3 G1 D1 hr.m (A0 (pv 0) A1)))
     (A6 (B9 (E9 (A0 Q5 (A0 (a2b (a9H K) (pv 2) (a3R A4) a3S) A1)))))
     C9)
    (A2 (J6 (U0 (C3 G2 D2 hr.m (A0 (pv 0) A1)))
     (A6 (B9 (E9 (A0 Q5 (A0 (C3 G3 D3 hr.m (A0 (pv 0) (A0 (E9 (A0 A4 (A0 (B6 (B8 K) (B6 (B8 K) (C3 G4 D4 hr.m (A0 (pv 0) A1)) A4 (λ_ _=>rfl)) A4 (λ_ _=>rfl)) A1))) A1))) A1)))))
     C9)
    (A2 (C6 (i:=3) nd rfl (.inl rfl) (C3 G5 D5 hr.m (A0 (pv 0) A1)))
    (A2 (J6 (B4 (a7B K hr.units) (C3 G6 D6 hr.m (A0 (pv 3) A1)) (pv 2) (B5 _))
     (A6 (B9 (E9 (A0 Q5 (A0 (C3 G3 D3 hr.m (A0 (pv 0) (A0 (C3 G7 D7 hr.m (A0 (pv 3) A1)) A1))) A1)))))
     C9)
    (A6 (B9 a5C))))))))),?_⟩
  walk_at "rd";have hn:=W.n3;have hn60:=W.n60;have hl:=W.len;obtain⟨q,hq,htq⟩:=id hw;obtain⟨ps,ep,hps⟩:=id htq;have pl:=hps.len;refine⟨_,SqT.of hq,rfl,_,_,rfl,_,_,rfl,rfl,q,rfl,_,.inr (SqT.of ep),n,rfl,?_⟩;rw[ae,pl];refine K7 (λh=>?_) λh=>?_
  ·have h1:(ts.length:Int)=n-1:= ~~~h
   have ek:R8 n ts=some .tree:=by unfold R8;rw[if_pos h1]
   exact⟨by decide,λp np=>A5 np λH1 s1 e1=>qk .tree ek p q ts H1 s1 e1 (htq.tp s1.tp) (b0S W h1)⟩
  have h1:¬ (ts.length:Int)=n-1:= ~~~h
  refine⟨q,rfl,_,.inr (SqT.of ep),by unfold a1n;omega,n,rfl,n,rfl,by unfold a1n;omega,?_⟩;rw[ae,pl];refine K7 (λh=>?_) λh=>?_
  ·have h2:2*(ts.length:Int)=n*(n-1):= ~~~h
   have ek:R8 n ts=some .full:=by unfold R8;rw[if_neg h1,if_pos h2]
   have L:=a3t W h2;exact⟨by decide,λpb npb=>A5 npb λH1 s1 e1=>⟨w0,n,ts,pb,[0],rfl,hw.tp s1.tp,W,SqT.of e1,L.busy,L.rng,by decide,λl us H2 s2 nl hus T hs hb=>⟨by decide,λp np=>A5 np λH3 s3 e3=>qk .full ek p l us H3 ((s1.trans s2).trans s3) e3 (hus.tp s3.tp) (b0U W h2 T hs hb)⟩⟩⟩
  have h2:¬ 2*(ts.length:Int)=n*(n-1):= ~~~h
  refine⟨w0,n,ts,rfl,hw,∅,∅,∅,W.rng,λH1 s1=>⟨_,rfl,K7 (λh3=>?_) λh3=>?_⟩⟩
  ·have ek:R8 n ts=some .ring:=by unfold R8;rw[if_neg h1,if_neg h2,if_pos h3]
   have ne0:ts≠[]:=λe=>by obtain⟨t,ht,_⟩:=a1C W (v:=0) ∅ ∅;rw[e] at ht;cases ht
   refine⟨q,_,rfl,SqT.of (s1 _ _ ep),λhh=>?_,λp np=>A5 np λH2 s2 e2=>⟨by decide,λp' np'=>A5 np' λH3 s3 e3=>qk .ring ek p' p ts.tail H3 ((s1.trans s2).trans s3) e3 ⟨ps.tail,?_,?_⟩ (b0T W h3)⟩⟩
   ·have:=hh.1;rw[b3O,ae,pl] at this;have:0<ts.length:=gX.mpr ne0;omega
   ·rw[s3 _ _ e2,a9l,<- List.map_drop,List.drop_one]
   ·have h4:=hps.tp ((s1.trans s2).trans s3).tp;exact⟨λx hx=>h4.to x (List.mem_of_mem_tail hx),by rw[List.map_tail,List.map_tail,h4.eq]⟩
  obtain⟨u,us0,e0⟩:∃ u us0,nb ts 0=u::us0:=by
   obtain⟨t,ht,hv⟩:=a1C W (v:=0) ∅ ∅;have:nb ts 0≠[]:=by
    rcases hv with e | e
    ·exact ic ((J1 W.rng).mpr (.inl (by rw[<- e];exact ht)):t.2∈nb ts 0)
    ·exact ic ((J1 W.rng).mpr (.inr (by rw[<- e];exact ht)):t.1∈nb ts 0)
   exact i9 this |>.imp λ_ h=>h
  refine⟨w0,n,ts,u,us0,rfl,hw.tp s1.tp,∅,∅,∅,W.rng,e0,λH2 s2=>⟨_,rfl,K7 (λh4=>?_) λh4=>?_⟩⟩
  ·have S:=(a8g W e0).mp h4;have ek:R8 n ts=some .sides:=by unfold R8;rw[if_neg h1,if_neg h2,if_neg h3,if_pos S]
   have L:=a1R W e0 S ∅;refine⟨w0,n,ts,rfl,(hw.tp s1.tp).tp s2.tp,∅,∅,∅,W.rng,λp as H3 s3 np na R=>?_⟩;obtain⟨a0,_,i0,r0,_⟩:=R.get (v:=0) (by decide) (C8 (by decide) ∅);rw[e0] at r0;have s13:=s1.trans (s2.trans s3);exact⟨p,rfl,_,SqL.of R.top,_,i0,a0,rfl,_,SqL.of r0,_,(by show atI _ ((0:Nat):Int)=some (V.int u);exact R0 rfl),by decide,λpb npb=>A5 npb λH4 s4 e4=>⟨w0,n,ts,pb,[0,u],rfl,hw.tp (s13.trans s4).tp,W,SqT.of e4,L.busy,L.rng,by simp,λl us H5 s5 nl hus T hs hb=>⟨by decide,λp' np'=>A5 np' λH6 s6 e6=>qk .sides ek p' l us H6 (((s13.trans s4).trans s5).trans s6) e6 (hus.tp s6.tp) (a9r W e0 S h1 T hs hb)⟩⟩⟩
  have S:¬ Q1 n ts:=λS=>h4 ((a8g W e0).mpr S)
  have s12:=s1.trans s2;refine⟨w0,n,ts,rfl,hw.tp s12.tp,∅,∅,∅,W.rng,λcl H3 s3 ncl hC=>?_⟩;have hC:LPs H3 cl (T0 n ts):=hC;have hcl:(T0 n ts).length<=200:=by
   have:∀ f kvs fd,(U1 ts f kvs fd).length<=f:=λf=>by
    induction f with
    | zero=>exact λ_ _=>bo _
    | succ f ih =>
     intro kvs fd;cases fd with
     | nil=>exact bo _
     | cons t r=>exact Nat.succ_le_succ (ih _ _)
   have:=this (n.toNat+1) [] (ecT ts (P7 ts n.toNat) (P7 ts n.toNat));unfold T0;omega
  refine⟨cl,T0 n ts,rfl,hC,hcl,λp us H4 s4 np hus pu srt=>?_⟩;have s34:=s3.trans s4;have s14:=s12.trans s34;refine b4g hus.ls (htq.tp s14.tp).ls ⟨_,rfl,K7 (λh5=>?_) λh5=>?_⟩
  ·have e5:us=ts:=by
    have:=of_decide_eq_true h5;exact (jZ λa b e=>by unfold tl at e;injection e with e1 e2;injection e2 with e2 _;exact fI e1 e2).mp this
   subst e5;have IL:=(a2k W (a2d h3)).mp pu.symm;have ek:R8 n us=some .ladder:=by unfold R8;rw[if_neg h1,if_neg h2,if_neg h3,if_neg S,if_pos IL]
   refine⟨cl,T0 n us,rfl,hC.same s4,∅,λpb H5 bs s5 npb epb pbs sbs=>?_⟩;obtain⟨L,hbl⟩:=a6D W IL pbs;exact⟨w0,n,us,pb,bs,rfl,hw.tp (s14.trans s5).tp,W,SqT.of epb,L.busy,L.rng,by have:=R5 L.nd L.rng;omega,λl vs H6 s6 nl hvs T hs hb=>⟨by decide,λp' np'=>A5 np' λH7 s7 e7=>qk .ladder ek p' l vs H7 (((s14.trans s5).trans s6).trans s7) e7 (hvs.tp s7.tp) (a7I W IL pbs sbs T hs hb)⟩⟩
  ·have IL:¬ a2t ts:=λIL=>h5 (decide_eq_true (by
    have p2:=(a2k W (a2d h3)).mpr IL;have p3:=pu.trans p2
    rw[a1J (a1I srt (p3.nodup_iff.mpr (Q0 W.srt))) W.srt λt=>p3.mem_iff]))
   have ek:R8 n ts=none:=by unfold R8;rw[if_neg h1,if_neg h2,if_neg h3,if_neg S,if_neg IL]
   exact qn ek H4 s14
def W8 (K:ah):Sp:=λvs H Q _=>∃(w:Addr) (n:Int) (ts:⋯) (p:Addr) (as:List Addr),vs=[.ref w,.ref p]/\M0 H w n ts/\C4 n ts/\E5 H p as (G9 n ts) /\
 ∀(b:Bool) H',A9 H H'->(b=true↔∃(k:Nat) (u d:Nat->Int),n=2*k/\Lad ts k u d)->Q (.bl b) H'
def edB (ts:⋯)(t:Int×Int):Bool:=decide (((nb ts t.1).length:Int)=2) && decide (((nb ts t.2).length:Int)=2)
def b2J (Hb:Hp)(l p:Addr)(ts:⋯)(i:Nat)(τ:St)(Hc:Hp):Prop:=∃ c d:Option V,τ=[c,d,some (.ref p)]/\A9 Hb Hc/\LPs Hc l ((ts.take i).filter (edB ts))
def udE (T:⋯):List UD:=T.map λt=>([t.1],[t.2])
def a8R (H:Hp)(w0 p el:Addr)(n:Int)(ts:⋯)(k:Nat)(m:Nat)(σ:St)(Hc:Hp):Prop:=∃(wl:Addr) (Ws:List UD) (c3 c6 c7 c8 c9 c10:Option V),σ=[some (.ref w0),some (.ref p),some (.int k),c3,some (.ref el),some (.ref wl),c6,c7,c8,c9,c10]/\A9 H Hc/\H wl=none/\R9 Hc wl Ws/\a1B n ts k Ws/\m=udM k Ws
def b2E (Hb:Hp)(l:Addr)(w:UD)(i:Nat)(τ:St)(Hc:Hp):Prop:=∃ c d:Option V,τ=[c,d]/\A9 Hb Hc/\LPs Hc l ((List.range i).map λi=>mm (ofL w.1 i) (ofL w.2 i))
def wyU (k:Nat)(us:List Int):⋯:=(List.range (k-1)).map λi=>mm (ofL us i) (ofL us (i+1))
def rwT (k:Nat)(w:UD):Nat->⋯
 | 0=>(List.range k).map λi=>mm (ofL w.1 i) (ofL w.2 i)
 | 1=>((List.range k).map λi=>mm (ofL w.1 i) (ofL w.2 i))++wyU k w.1
 | _+2=>((List.range k).map λi=>mm (ofL w.1 i) (ofL w.2 i))++wyU k w.1++wyU k w.2
def b2H (Hb:Hp)(ol a b:Addr)(ts:⋯)(w:UD)(i:Nat)(τ:St)(Hc:Hp):Prop:=∃ c,τ=[c,some (.ref b),some (.ref a)]/\A9 Hb Hc/\Hc ol=some (.lst ((((nb ts (Q9 w.1)).take i).filter λy=>!decide (y∈w.1++w.2)).map V.int))
def b2z (H Hb:Hp)(w0 p el a b:Addr)(k:Nat)(ts:⋯)(Wr:List UD)(w:UD)(i:Nat)(σ:St)(Hc:Hp):Prop:=∃(c3:Option V) (wl:Addr) (c8 c9 c10:Option V),σ=[some (.ref w0),some (.ref p),some (.int k),c3,some (.ref el),some (.ref wl),some (.ref a),some (.ref b),c8,c9,c10]/\A9 Hb Hc/\H wl=none/\R9 Hc wl (Wr++W0 ts w ((Q6 ts w).take i))
def b0A (Hb:Hp)(rl a b p:Addr)(ts:⋯)(w:UD)(x:Int)(j:Nat)(τ:St)(Hd:Hp):Prop:=∃ c,τ=[c,some (.ref b),some (.ref p),some (.ref a)]/\A9 Hb Hd/\Hd rl=some (.lst ((((nb ts x).take j).filter λy=>decide (y∈nb ts (Q9 w.2)) && !decide (y∈w.1++w.2)).map V.int))
def b2I (Hb:Hp)(kl a b:Addr)(ts:⋯)(w:UD)(x:Int)(j:Nat)(τ:St)(Hd:Hp):Prop:=∃ c,τ=[c,some (.ref b),some (.int x),some (.ref a)]/\A9 Hb Hd/\R9 Hd kl (a2C w x ((a0d ts w x).take j))
theorem R9.cat {H:Hp}{a b:Addr}{T U:List UD}{Q:VK}(h:R9 H a T)(h':R9 H b U)(hz:T.length+U.length<=1000000)(q:∀ p,H p=none->∀ H',A9 H H'->R9 H' p (T++U)->Q (.ref p) H'):a8j (.ref a) (.ref b) H Q:=by
 obtain⟨vs,e1,l1,h1⟩:=id h;obtain⟨us,e2,l2,h2⟩:=id h';refine⟨a,b,_,_,rfl,rfl,e1,e2,dv (C0 ∅),λp np=>A5 np λH' s e=>q p np H' s ⟨_,e,by simp[l1,l2],λi v w hv hw=>?_⟩⟩;by_cases c:i<T.length
 ·rw[bj ∅] at hv;rw[bj c] at hw;exact (h1 i v w hv hw).same s
 ·rw[bP ∅] at hv;rw[bP ∅] at hw;exact (h2 _ v w hv (by rw[l1];exact hw)).same s
theorem a9K {k:Nat}{w:UD}{i:Nat}:(rwT k w i).length<=3*k:=by
 match i with
 | 0=>unfold rwT;simp;omega
 | 1=>unfold rwT wyU;simp;omega
 | _+2=>unfold rwT wyU;simp;omega
def b2F (Hb:Hp)(l r:Addr)(us:List Int)(j:Nat)(τ:St)(Hc:Hp):Prop:=∃ c:Option V,τ=[c,some (.ref r)]/\A9 Hb Hc/\LPs Hc l ((List.range j).map λi=>mm (ofL us i) (ofL us (i+1)))
theorem LPs.cat {H:Hp}{a b:Addr}{T U:⋯}{Q:VK}(h:LPs H a T)(h':LPs H b U)(hz:T.length+U.length<=100000)(q:∀ p,H p=none->LPs (upd H p (.lst (((gg h).map λx=>V.ref x.1)++((gg h').map λx=>V.ref x.1)))) p (T++U)->Q (.ref p) (upd H p (.lst (((gg h).map λx=>V.ref x.1)++((gg h').map λx=>V.ref x.1))))):a8j (.ref a) (.ref b) H Q:=by
 obtain⟨e1,p1⟩:=jb h;obtain⟨e2,p2⟩:=jb h';have l1:=p1.len;have l2:=p2.len;refine⟨a,b,_,_,rfl,rfl,e1,e2,by rw[ae,ae];exact dv (C0 ∅),λp np=>q p np ⟨_,by rw[A3,<- ap],(p1.tp (Tp.nw np)).cat (p2.tp (Tp.nw np))⟩⟩
def b0y (Hb:Hp)(l:Addr)(T:⋯)(i:Nat)(τ:St)(Hc:Hp):Prop:=∃ c d:Option V,τ=[c,d]/\A9 Hb Hc/\R9 Hc l (udE (T.take i))
theorem a0y:D0 ["_law_web","_law_near_here","_law_columns","_law_one","_law_ends","_law_waiting","_law_up","_law_down","_law_ties","_law_row","_law_ready"] ["_law_web","_law_near_here"] (B7 (top 28)):=by walk_at "s"
theorem a3V (F:Fun K "_law_is_ladder" "_law_is_ladder" (top 28) f fd)(B:Bt mg)(C:Bt2 mg):E1 P w K mg base CX0 2 f fd ["_law_web","_law_near_here"] (W8 K):=by
 refine F.ok a0y (λvs H Q E h=>?_) (λcdv A outer s H vs Q E hr h=>?_)
 ·walk_at "h"
 ·obtain⟨w0,n,ts,p,as,rfl,hw,W,R,q0⟩:=h;have nd:=a0y.nd;have hu:=K2 hr
  refine⟨_,(A2 (C6 (i:=2) nd rfl (.inl rfl) (B2 Z2 (B6 (C2 K) (pv 0) A4 (λ_ _=>rfl)) A4))
    (A2 (J6 (PW.pt (a1Y (B4 a0E (B6 (C2 K) (pv 0) A4 (λ_ _=>rfl)) (B2 N6 A4 (pv 2)) (B5 _)) (a3Q (B4 a0E (A7 (N7 K) (by rfl) B.len ba (A0 (B6 (C2 K) (pv 0) A4 (λ_ _=>rfl)) A1)) (B2 N0 (B2 N6 A4 (pv 2)) A4) (B5 _)))))
     (A6 (B9 T3))
     C9)
    (A2 (L0 (i:=4) (own:=["_law_one","_law_other"]) (fr:=[("_law_near_here",1)]) rfl nd rfl rfl (by walk_at "w") (by walk_at "w") (C5 rfl rfl C7) (S0 K (B6 (C2 K) (pv 0) A4 (λ_ _=>rfl))) ⟨λ_ _ _ _=>⟨(K1 K (n:=2) rfl (C1 (A8 (i:=0) (show List.Nodup (["_law_one","_law_other","_law_near_here"]:List Str) by decide +kernel) rfl (.inl rfl)) (C1 (A8 (i:=1) (show List.Nodup (["_law_one","_law_other","_law_near_here"]:List Str) by decide +kernel) rfl (.inl rfl)) K0))),(M8 (PW.pt (X9 (B4 J7 (A7 (N7 K) (by rfl) B.len ba (A0 (B6 (B8 K) (pv 2) (pv 0) (λ_ _=>rfl)) A1)) A4 (B5 _)) (U5 (B4 J7 (A7 (N7 K) (by rfl) B.len ba (A0 (B6 (B8 K) (pv 2) (pv 1) (λ_ _=>rfl)) A1)) A4 (B5 _)))))),(E9 (A0 (pv 0) (A0 (pv 1) A1)))⟩⟩)
    (A2 (L0 (i:=5) (own:=["_law_one","_law_other"]) (fr:=[]) rfl nd rfl rfl (by walk_at "w") (by walk_at "w") C7 (F0 K (pv 4)) ⟨λ_ _ _ _=>⟨(K1 K (n:=2) rfl (C1 (A8 (i:=0) (show List.Nodup (["_law_one","_law_other"]:List Str) by decide +kernel) rfl (.inl rfl)) (C1 (A8 (i:=1) (show List.Nodup (["_law_one","_law_other"]:List Str) by decide +kernel) rfl (.inl rfl)) K0))),J9,(E9 (A0 (J3 (A0 (pv 0) A1)) (A0 (J3 (A0 (pv 1) A1)) A1)))⟩⟩)
    (A2 (a0B bK (B4 (a7n K hr.units) (pv 5) (J3 A1) (B5 _))
     (A2 (a0Y (a9U K (pv 5)) (K1 K (n:=2) rfl (C1 (A8 (i:=6) nd rfl (.inr rfl)) (C1 (A8 (i:=7) nd rfl (.inr rfl)) K0))))
     (A6 (J6 (B4 J7 (A7 (N7 K) (by rfl) B.len ba (A0 (pv 6) A1)) (pv 2) (B5 _))
      (A2 (L0 (i:=8) (own:=["_law_one","_law_other"]) (fr:=[]) rfl nd rfl rfl (by walk_at "w") (by walk_at "w") C7 (a6q (K:=K) (by rfl) C.zip boot_zip (A0 (pv 6) (A0 (pv 7) A1))) ⟨λ_ _ _ _=>⟨(K1 K (n:=2) rfl (C1 (A8 (i:=0) (show List.Nodup (["_law_one","_law_other"]:List Str) by decide +kernel) rfl (.inl rfl)) (C1 (A8 (i:=1) (show List.Nodup (["_law_one","_law_other"]:List Str) by decide +kernel) rfl (.inl rfl)) K0))),J9,(E9 (A0 (A7 (Z6 rfl) (by rfl) B.min kj (A0 (pv 0) (A0 (pv 1) A1))) (A0 (A7 (Z7 rfl) (by rfl) B.max km (A0 (pv 0) (A0 (pv 1) A1))) A1)))⟩⟩)
      (A2 (P6 bK rfl (S0 K (E9 (A0 (pv 6) (A0 (pv 7) A1)))) (A8 (i:=9) nd rfl (.inr rfl))
       (A6 (C6 (i:=8) nd rfl (.inl rfl) (B2 S8 (pv 8) (J8 (own:=["_law_k"]) (fr:=[("_law_row",9)]) rfl (by walk_at "w") (C5 rfl rfl C7) (a1a (by rfl) B.range (A0 A4 (A0 (pv 2) A1))) ⟨λ_ _ _ _=>⟨(A8 (i:=0) (show List.Nodup (["_law_k","_law_row"]:List Str) by decide +kernel) rfl (.inl rfl)),J9,(E9 (A0 (A7 (Z6 rfl) (by rfl) B.min kj (A0 (B6 (B8 K) (pv 1) (B2 N0 (pv 0) A4) (λ_ _=>rfl)) (A0 (B6 (B8 K) (pv 1) (pv 0) (λ_ _=>rfl)) A1))) (A0 (A7 (Z7 rfl) (by rfl) B.max km (A0 (B6 (B8 K) (pv 1) (B2 N0 (pv 0) A4) (λ_ _=>rfl)) (A0 (B6 (B8 K) (pv 1) (pv 0) (λ_ _=>rfl)) A1))) A1)))⟩⟩)))))
      (A6 (J6 (B4 (a7B K hr.units) (E3 (S6 K) (by rfl) B.tuple dz (A0 (A7 (T7 K) (by rfl) B.sorted dq (A0 (pv 8) A1)) A1)) (B6 (C2 K) (pv 0) A4 (λ_ _=>rfl)) (B5 _))
       (A6 (B9 T3))
       C9))))
      (A6 (P6 bK rfl (F0 K (J8 (own:=["_law_place"]) (fr:=[("_law_down",7),("_law_up",6)]) rfl (by walk_at "w") (C5 rfl rfl (C5 rfl rfl C7)) (F0 K (B6 (B8 K) (pv 1) (B6 (B8 K) (pv 6) (b1m a7Q A4) (λ_ _=>rfl)) (λ_ _=>rfl))) ⟨λ_ _ _ _=>⟨(A8 (i:=0) (show List.Nodup (["_law_place","_law_down","_law_up"]:List Str) by decide +kernel) rfl (.inl rfl)),(M8 (B4 (a0m K) (pv 0) (B2 S8 (pv 2) (pv 1)) (by walk_at "w"))),(pv 0)⟩⟩)) (A8 (i:=3) nd rfl (.inr rfl))
       (A2 (L0 (i:=10) (own:=["_law_place"]) (fr:=[("_law_down",7),("_law_near_here",1),("_law_up",6)]) rfl nd rfl rfl (by walk_at "w") (by walk_at "w") (C5 rfl rfl (C5 rfl rfl (C5 rfl rfl C7))) (F0 K (B6 (B8 K) (pv 1) (pv 3) (λ_ _=>rfl))) ⟨λ_ _ _ _=>⟨(A8 (i:=0) (show List.Nodup (["_law_place","_law_down","_law_near_here","_law_up"]:List Str) by decide +kernel) rfl (.inl rfl)),(M8 (PW.pt (X9 (B4 (X3 K) (pv 0) (B6 (B8 K) (pv 2) (B6 (B8 K) (pv 1) (b1m a7Q A4) (λ_ _=>rfl)) (λ_ _=>rfl)) (by walk_at "w")) (U5 (B4 (a0m K) (pv 0) (B2 S8 (pv 3) (pv 1)) (by walk_at "w")))))),(pv 0)⟩⟩)
       (A6 (C6 (i:=5) nd rfl (.inl rfl) (B2 S8 (pv 5) (J8 (own:=["_law_other"]) (fr:=[("_law_down",7),("_law_one",3),("_law_up",6)]) rfl (by walk_at "w") (C5 rfl rfl (C5 rfl rfl (C5 rfl rfl C7))) (F0 K (pv 10)) ⟨λ_ _ _ _=>⟨(A8 (i:=0) (show List.Nodup (["_law_other","_law_down","_law_one","_law_up"]:List Str) by decide +kernel) rfl (.inl rfl)),J9,(E9 (A0 (B2 S8 (pv 3) (J3 (A0 (pv 2) A1))) (A0 (B2 S8 (pv 1) (J3 (A0 (pv 0) A1))) A1)))⟩⟩)))))))))))
    (A6 (B9 T3))))))),?_⟩
  walk_at "rd";have h3:=W.n3;have h60:=W.n60;have hl:=W.len;obtain⟨q,hq,htq⟩:=id hw;obtain⟨ps,ep,hps⟩:=id htq;have pl:=hps.len;refine⟨_,SqT.of hq,_,rfl,n,rfl,by unfold a9v;omega,_,SqT.of hq,_,rfl,by unfold a1n;omega,rfl,?_⟩;have no:∀ H',A9 H H'->(¬ ∃(k:Nat) (u d:Nat->Int),n=2*k/\Lad ts k u d)->Q (.bl false) H':=λH' s h=>q0 false H' s ⟨λe=>(by cases e),λe=>absurd e h⟩
  refine K7 (λh=>?_) λh=>?_
  ·refine no H (A9.refl H) λ⟨k,u,d,hn,L⟩=>?_
   simp at h;omega
  have hn2:n=2*(n / 2):= ~~~h
  obtain⟨k,hk⟩:∃ k:Nat,n / 2=k:=⟨(n / 2).toNat,∅⟩
  rw[hk] at hn2 ⊢;refine⟨_,SqT.of hq,_,rfl,q,rfl,_,.inr (SqT.of ep),by unfold a1n;omega,?_⟩;rw[ae,pl];refine K7 (λh=>?_) λh=>?_
  ·refine no H (A9.refl H) λ⟨k',u,d,hn,L⟩=>?_
   have:=L.len;simp at h;omega
  have hlen:(ts.length:Int)=3*k-2:= ~~~h
  have nol:(¬ ∃(u d:Nat->Int),Lad ts k u d)->¬ ∃(k:Nat) (u d:Nat->Int),n=2*k/\Lad ts k u d:=λh ⟨k',u,d,hn,L⟩=>h (by rw[show k=k' by omega];exact⟨u,d,L⟩)
  refine⟨_,SqT.of hq,_,rfl,q,rfl,⟨_,SqT.of ep⟩,λel nel=>a2j (K:=K) (xs:=ps.map λx=>V.ref x.1) (b2J H el p ts) ⟨none,none,rfl,(A9.refl H).upd nel,LPs.nil⟩ ?_ ?_ ?_⟩
  ·rintro i τ Hc _ ⟨_,_,rfl,sc,_⟩;exact SqT.of (sc _ _ ep)
  ·rintro i v τ Hc hv ⟨_,_,rfl,sc,hT⟩;obtain⟨b,t,rfl,hti,hb⟩:=hps.get hv;have r:=W.rng t (aG hti);obtain⟨a1,_,i1,r1,_⟩:=R.get r.1 (C8 r.1 (show t.1<n by omega));obtain⟨a2,_,i2,r2,_⟩:=R.get (show 0<=t.2 by omega) (C8 (show 0<=t.2 by omega) r.2.2);walk_at "rd";have et:(ts.take (i+1)).filter (edB ts)=(ts.take i).filter (edB ts)++if edB ts t=true then [t] else []:=by
    rw[bD,hti,bA];congr 1;cases hq':edB ts t<;>simp[hq']
   have lT:((ts.take i).filter (edB ts)).length<=200:=by
    have h1:((ts.take i).filter (edB ts)).length<=(ts.take i).length:=bu ..;rw[aW] at h1;omega
   refine⟨_,SqT.of (sc _ _ hb),rfl,_,_,rfl,_,_,rfl,rfl,_,t.1,rfl,SqL.of (sc _ _ R.top),_,i1,a1,rfl,_,.inl (SqL.of (sc _ _ r1)),?_⟩;rw[ae];refine K7 (λh=>⟨_,t.2,rfl,SqL.of (sc _ _ R.top),_,i2,a2,rfl,_,.inl (SqL.of (sc _ _ r2)),?_⟩) λh=>⟨_,_,rfl,sc,?_⟩
   ·rw[ae];refine K7 (λh'=>⟨by decide,λpq np=>hT.more (t:=t) ∅ np λys e hl hT'=>⟨e,hl,_,_,rfl,(sc.upd (sc.free np)).upd nel,?_⟩⟩) λh'=>⟨_,_,rfl,sc,?_⟩
    ·rw[et,if_pos (by unfold edB;rw[bU];exact⟨h,h'⟩)];exact hT'
    ·rw[et,if_neg (by unfold edB;rw[bU];exact λk=>h' k.2),bp];exact hT
   ·rw[et,if_neg (by unfold edB;rw[bU];exact λk=>h k.1),bp];exact hT
  ·rintro τ H2 ⟨_,_,rfl,s2,hT⟩;rw[ae,pl,bz] at hT;have hT:LPs H2 el (Y7 ts):=hT;obtain⟨es,ee,hes⟩:=hT;have el2:=hes.len;refine⟨⟨_,SqL.of ee⟩,λwl nwl=>N1 (K:=K) (xs:=es.map λx=>V.ref x.1) (b0y H2 wl (Y7 ts)) ⟨none,none,rfl,(A9.refl H2).upd nwl,R9.nil⟩ ?_ ?_ ?_⟩
   ·rintro i τ Hc _ ⟨_,_,rfl,sc,_⟩;exact SqL.of (sc _ _ ee)
   ·rintro i v τ Hc hv ⟨_,_,rfl,sc,hT⟩ _;obtain⟨b,t,rfl,hti,hb⟩:=hes.get hv;walk_at "rd";refine⟨_,SqT.of (sc _ _ hb),rfl,_,_,rfl,_,_,rfl,rfl,by decide,λp1 n1=>A5 n1 λHa sa ea=>⟨by decide,λp2 n2=>A5 n2 λHb sb eb=>⟨by decide,λp3 n3=>A5 n3 λHd sd ed=>?_⟩⟩⟩;have s4:=sa.trans (sb.trans sd);obtain⟨vs,ev,hvl,hvh⟩:=hT.same s4;have le1:(Y7 ts).length<=ts.length:=bu ..;have hvl2:=hvl;unfold udE at hvl2;rw[ae,aW] at hvl2;refine⟨vs,ev,C0 ∅,_,_,rfl,(sc.trans s4).upd nwl,?_⟩;have eu:udE ((Y7 ts).take (i+1))=udE ((Y7 ts).take i)++[([t.1],[t.2])]:=by unfold udE;rw[bD,hti,ap];rfl
    rw[eu];refine R9.snoc ev hvl hvh ⟨p3,p1,p2,rfl,ed,sd _ _ (sb _ _ ea),sd _ _ eb⟩ λx hx=>?_
    rw[<- eu] at hx;obtain⟨z,_,rfl⟩:=aR.mp hx;exact⟨by simp,by simp⟩
   ·rintro τ H3 ⟨_,_,rfl,s3,hT⟩;rw[ae,el2,bz] at hT;have s03:=s2.trans s3;have wl0:H wl=none:=s2.free nwl;have St0:=a1B.init W hn2;clear nwl;refine⟨a8R H w0 p el n ts k,⟨_,wl,_,_,_,_,_,_,_,rfl,s03,wl0,hT,St0,rfl⟩,?_⟩;rintro m σ Hc ⟨wl,Ws,c3,c6,c7,c8,c9,c10,rfl,sc,nwl,hWs,St,rfl⟩;have hne:∀ x∈Ws,x.1≠[]/\x.2≠[]:=λx hx=>by
     have o:=St.ok x hx;have:=o.pos;have:=o.len;exact⟨λe=>by have:x.1.length=0:=(by rw[e];rfl);omega,λe=>by have:x.2.length=0:=(by rw[e];rfl);omega⟩
    walk_at "rd";refine⟨by decide,λpe npe=>A5 npe λHd sd ed=>?_⟩;have hWd:=hWs.same sd;obtain⟨vs,ev,hvl,hvh⟩:=id hWd;refine b0L ev (λv hv=>?_) ed λc hc=>⟨_,rfl,?_⟩
    ·obtain⟨i,hi⟩:=ca.mp hv;have hil:=(aq.mp hi).1;exact (hvh i v _ hi (au ∅)).dok
    cases c with
    | true =>
     rw[if_pos rfl,if_neg (by decide)];refine no Hd (sc.trans sd) (nol λhl=>?_);obtain⟨w,hw,_⟩:=St.on hl;rw[hc.mp rfl] at hvl;rw[dj.mp hvl.symm] at hw;cases hw
    | false =>
     rw[if_pos rfl,if_pos (by decide)];have hW0:Ws≠[]:=λe=>by
      rw[e] at hvl;have:=hc.mpr (dj.mp hvl);cases this
     obtain⟨Wr,w,rfl⟩:∃ Wr w,Ws=Wr++[w]:=⟨Ws.dropLast,Ws.getLast hW0,(dY hW0).symm⟩
     refine⟨fun σ' H'=>∃ m',m'<udM k (Wr++[w])/\a8R H w0 p el n ts k m' σ' H',λ_ _ z=>z,?_⟩;obtain⟨vr,v,er,_,hv,hWr⟩:=hWd.pop hne;have s1:A9 H (upd Hd wl (.lst vr)):=(sc.trans sd).upd nwl;have we:upd Hd wl (.lst vr) wl=some (.lst vr):=A3;have ow:=St.ok w (by simp);refine⟨.inl ⟨rfl,_,SqL.of er⟩,_,er,v,by rw[<- jf];exact List.getLast?_concat,?_⟩;rw[List.dropLast_concat];generalize upd Hd wl (.lst vr)=H4 at s1 we hv hWr ⊢;obtain⟨t,a,b,rfl,et,ea,eb⟩:=id hv;refine⟨t,rfl,_,SqT.of et,rfl,_,_,rfl,_,_,rfl,rfl,a,rfl,_,.inl (SqL.of ea),?_⟩;rw[ae];refine K7 (λhfull=>?_) λhpart=>?_
     ·have hfk:w.1.length=k:=by have:=of_decide_eq_true hfull;omega
      have hfk2:w.2.length=k:=by rw[<- ow.len];exact hfk
      refine⟨a,b,⟨rfl,rfl⟩,⟨_,SqL.of ea⟩,⟨_,SqL.of eb⟩,λtp ntp=>b0o (K:=K) (xs:=w.1.map V.int) (ys:=w.2.map V.int) (b2E H4 tp w) ⟨none,none,rfl,(A9.refl H4).upd ntp,LPs.nil⟩ (by rw[ae,ae];omega) ?_ ?_ ?_⟩
      ·rintro i τ Hc _ ⟨_,_,rfl,sc,_⟩;exact⟨SqL.of (sc _ _ ea),SqL.of (sc _ _ eb)⟩
      ·rintro i x y τ Hc z hx hy ⟨_,_,rfl,sc,hA⟩ nz;rw[aF] at hx hy;obtain⟨x,hx',rfl⟩:=bL.mp hx;obtain⟨y,hy',rfl⟩:=bL.mp hy;have ex:ofL w.1 i=x:=by unfold ofL;rw[cB,hx'];rfl
       have ey:ofL w.2 i=y:=by unfold ofL;rw[cB,hy'];rfl
       have hil:=(aq.mp hy').1;refine A5 nz λHe se ee=>?_
       walk_at "rd";refine⟨_,SqT.of ee,rfl,_,_,rfl,_,_,rfl,rfl,_,_,⟨rfl,rfl⟩,_,_,⟨rfl,rfl⟩,by decide,λpq np=>(hA.same se).more (t:=mm x y) (by rw[ae,dI];omega) np λys e hl hT'=>⟨e,hl,_,_,rfl,((sc.trans se).upd ((sc.trans se).free np)).upd ntp,?_⟩⟩;rw[cO,ap,ie,ex,ey];exact hT'
      ·rintro τ H5 ⟨_,_,rfl,s5,hA⟩;rw[ae,hfk2] at hA;rw[U4];walk_at "rd";refine⟨by decide,λpt npt=>A5 npt λH6 s6 e6=>⟨⟨_,SqT.of e6⟩,a0I (K:=K) (xs:=[V.ref a,V.ref b]) (λi σ Hc=>∃(tp:Addr) (c9:Option V),σ=[some (.ref w0),some (.ref p),some (.int k),c3,some (.ref el),some (.ref wl),some (.ref a),some (.ref b),some (.ref tp),c9,c10]/\A9 H6 Hc/\LPs Hc tp (rwT k w i)) ⟨tp,c9,rfl,A9.refl H6,hA.same s6⟩ ?_ ?_ ?_⟩⟩
       ·rintro i σ Hc _ ⟨_,_,rfl,sc,_⟩;exact SqT.of (sc _ _ e6)
       ·rintro i v σ Hc hv ⟨tp,c9,rfl,sc,hA⟩;have s46:=s5.trans (s6.trans sc);obtain⟨r,us,rfl,hr,hul,hrw,hi2⟩:∃ r us,v=V.ref r/\Hc r=some (.lst (us.map V.int))/\us.length=k/\rwT k w (i+1)=rwT k w i++wyU k us/\i<2:=by
         match i,hv with
         | 0,hv=>cases hv;exact⟨a,w.1,rfl,s46 _ _ ea,hfk,rfl,∅⟩
         | 1,hv=>cases hv;exact⟨b,w.2,rfl,s46 _ _ eb,hfk2,rfl,∅⟩
         | _+2,hv=>exact absurd hv (by simp)
        have g1:∀(m:Nat) (z:Int),m<k->z=m->atI (us.map V.int) z=some (V.int (ofL us m)):=λm z hm hz=>by
         subst hz;refine R0 ?_;rw[aF];unfold ofL;rw[cB,au (show m<us.length by omega)];rfl
        walk_at "rd";refine⟨1,k,⟨rfl,rfl⟩,⟨∅,∅,∅,∅⟩,λl nl=>?_⟩;rw[show ((k:Int)-1).toNat=k-1 by omega];refine S4 (b2F Hc l r us) ⟨none,rfl,(A9.refl Hc).upd nl,LPs.nil⟩ ?_ ?_
        ·rintro j τ Hd hj ⟨c,rfl,sd,hT⟩;walk_at "rd";refine⟨_,SqL.of (sd _ _ hr),_,g1 j _ ∅ ∅,_,SqL.of (sd _ _ hr),_,g1 (j+1) _ ∅ ∅,_,_,⟨rfl,rfl⟩,_,SqL.of (sd _ _ hr),_,g1 j _ ∅ ∅,_,SqL.of (sd _ _ hr),_,g1 (j+1) _ ∅ ∅,_,_,⟨rfl,rfl⟩,by decide,λpq np=>hT.more (t:=mm (ofL us j) (ofL us (j+1))) (by rw[ae,dI];omega) np λys e hl hT'=>⟨e,hl,_,rfl,(sd.upd (sd.free np)).upd nl,?_⟩⟩;rw[cO,ap,ie];exact hT'
        ·rintro τ Hd ⟨c,rfl,sd,hT⟩;have hA':=hA.same sd;exact LPs.cat hA' hT (by have:=a9K (k:=k) (w:=w) (i:=i);unfold wyU at *;rw[ae,dI] at *;omega) λpn np' hT2=>⟨pn,_,⟨rfl,rfl⟩,(sc.trans sd).upd ((sc.trans sd).free np'),by rw[hrw];exact hT2⟩
       ·rintro σ Hc ⟨tp,c9,rfl,sc,hA⟩;walk_at "rd";have s46:=s5.trans (s6.trans sc);have s06:=s1.trans s46;obtain⟨qs,eq,hqs⟩:=hA;refine⟨qs,hqs.src eq,λps' l2 pm hs nl2=>?_⟩;obtain⟨us',pu,hps'⟩:=hqs.perm pm;refine A5 nl2 λHe se ee=>⟨_,.inl ⟨SqL.of ee,λl3 n3=>A5 n3 λHf sf ef=>?_⟩⟩
        have s0f:=(s06.trans se).trans sf;have pu:us'.Perm (X7 k (ofL w.1) (ofL w.2)):=pu;have hus:V3 Hf l3 us':=⟨ps',ef,hps'.tp (se.trans sf).tp⟩
        refine⟨_,SqT.of (s0f _ _ hq),_,rfl,b4g hus.ls (htq.tp s0f.tp).ls ⟨_,rfl,K7 (λh5=>?_) λh5=>?_⟩⟩
        ·have e5:us'=ts:=(jZ λa b e=>by unfold tl at e;injection e with e1 e2;injection e2 with e2 _;exact fI e1 e2).mp (of_decide_eq_true h5);exact q0 true Hf s0f ⟨λ_=>⟨k,_,_,hn2,ow.lad W hfk (by rw[e5] at pu;exact pu.symm)⟩,λ_=>rfl⟩
        ·have now:¬ a0N ts k w:=λo=>h5 (decide_eq_true (by
          have p2:=pu.trans (o.perm W hfk ∅)
          rw[a1J (a1I (hps'.srt hs) (p2.nodup_iff.mpr (Q0 W.srt))) W.srt λt=>p2.mem_iff]))
         refine⟨udM k Wr,by rw[a3H];have:=a9y (k:=k) (w:=w);omega,wl,Wr,_,_,_,_,_,_,rfl,s0f,nwl,((hWr.same s46).same se).same sf,St.drop now,rfl⟩
     ·have hlt:w.1.length<k:=by
       have h1:¬ (w.1.length:Int)=k:=λe=>hpart (decide_eq_true e)
       have:=ow.le;omega
      have hpos:=ow.pos;have hl60:w.1.length+w.2.length<=60:=by
       have:=R5 ow.nd ow.rng;rw[ak] at this;omega
      have n1:w.1≠[]:=λe=>by rw[e] at hpos;simp at hpos
      have n2:w.2≠[]:=λe=>n1 (by have:=ow.len;rw[e] at this;simpa using this)
      have lst:∀ {l:List Int},l≠[]->atI (l.map V.int) (-1)=some (V.int (Q9 l)):=λ{l} hl=>by
       obtain⟨l',x,rfl⟩:∃ l' x,l=l'++[x]:=⟨l.dropLast,l.getLast hl,(dY hl).symm⟩
       rw[ap,ie,a9s];unfold Q9;simp
      have r1:=ow.rng _ (aL _ (a3o n1));have r2:=ow.rng _ (aN _ (a3o n2));obtain⟨a1,_,i1,c1,_⟩:=(R.get r1.1 (C8 r1.1 r1.2))
      obtain⟨a2,_,i2,c2,_⟩:=(R.get r2.1 (C8 r2.1 r2.2))
      have nbl:∀ v,(nb ts v).length<=200:=λv=>by have:=Y2 (ts:=ts) v;omega
      rw[U4];walk_at "rd";refine⟨_,SqL.of ea,_,lst n1,_,_,rfl,SqL.of (s1 _ _ R.top),_,i1,a1,rfl,⟨_,SqL.of (s1 _ _ c1)⟩,λol nol'=>N1 (K:=K) (xs:=(nb ts (Q9 w.1)).map V.int) (b2H H4 ol a b ts w) ⟨none,rfl,(A9.refl H4).upd nol',A3⟩ ?_ ?_ ?_⟩
      ·rintro i τ Hc _ ⟨_,rfl,sc,_⟩;exact SqL.of (sc _ _ (s1 _ _ c1))
      ·rintro i v τ Hc hv ⟨c,rfl,sc,hc⟩ _;rw[aF] at hv;obtain⟨y,hy,rfl⟩:=bL.mp hv;walk_at "rd";refine a0K (sc _ _ ea) (sc _ _ eb) (by rw[ae,ae];omega) λpc Hd npc sd ed=>?_
       rw[<- ap] at ed;have sz:(((nb ts (Q9 w.1)).take i).filter λy=>!decide (y∈w.1++w.2)).length<=200:=by
        refine bH (bu ..) ?_;rw[aW];have:=nbl (Q9 w.1);omega
       refine a1c (.inl (SqL.of ed)) ⟨_,rfl,K7 (λh=>⟨_,sd _ _ hc,by rw[ae];exact C0 ∅,_,rfl,(sc.trans sd).upd nol',?_⟩) λh=>⟨_,rfl,sc.trans sd,?_⟩⟩
       ·rw[A3,bD,hy,bA,ap];simp only[fc,cR,h,eJ,aH,cu,if_true]
       ·rw[sd _ _ hc,bD,hy,bA,ap];simp only[fc,cR,h,eJ,cu,bp,if_false,aO]
      ·rintro τ H5 ⟨c,rfl,s5,hc⟩;rw[ae,bz] at hc;have hc:H5 ol=some (.lst ((Q6 ts w).map V.int)):=hc;refine⟨⟨_,SqL.of hc⟩,Y6 (K:=K) (xs:=(Q6 ts w).map V.int) (b2z H H5 w0 p el a b k ts Wr w) ⟨c3,wl,c8,c9,c10,rfl,A9.refl H5,nwl,?_⟩ ?_ ?_ ?_⟩
       ·rw[eS];show R9 H5 wl (Wr++[]);rw[bp];exact hWr.same s5
       ·rintro i σ Hc _ ⟨_,_,_,_,_,rfl,sc,_⟩;exact SqL.of (sc _ _ hc)
       ·rintro i v σ Hc hv ⟨c3,wl,c8,c9,c10,rfl,sc,nwl,hWs⟩;rw[aF] at hv;obtain⟨x,hx,rfl⟩:=bL.mp hv;have rx:=L6 W.rng (aS.mp (aG hx)).1;obtain⟨a3,_,i3,c3',_⟩:=(R.get rx.1 (C8 rx.1 rx.2.1))
        have s4c:=s5.trans sc;have s0c:=s1.trans s4c;walk_at "rd";refine⟨_,SqL.of (s0c _ _ R.top),_,i3,a3,rfl,⟨_,SqL.of (s0c _ _ c3')⟩,λrl nrl=>N1 (K:=K) (xs:=(nb ts x).map V.int) (b0A Hc rl a b p ts w x) ⟨none,rfl,(A9.refl Hc).upd nrl,A3⟩ ?_ ?_ ?_⟩
        ·rintro j τ Hd _ ⟨_,rfl,sd,_⟩;exact SqL.of (sd _ _ (s0c _ _ c3'))
        ·rintro j v τ Hd hv ⟨c,rfl,sd,hd⟩ _;rw[aF] at hv;obtain⟨y,hy,rfl⟩:=bL.mp hv;have s4d:=s4c.trans sd;have s0d:=s1.trans s4d;have sz:(((nb ts x).take j).filter λy=>decide (y∈nb ts (Q9 w.2)) && !decide (y∈w.1++w.2)).length<=200:=by
          refine bH (bu ..) ?_;rw[aW];have:=nbl x;omega
         walk_at "rd";refine⟨_,SqL.of (s4d _ _ eb),_,lst n2,_,_,rfl,SqL.of (s0d _ _ R.top),_,i2,a0p (.inl (SqL.of (s0d _ _ c2))) ⟨_,rfl,K7 (λh=>a0K (s4d _ _ ea) (s4d _ _ eb) (by rw[ae,ae];omega) λpc He npc se ee=>?_) λh=>⟨_,rfl,sd,?_⟩⟩⟩
         ·rw[<- ap] at ee;refine a1c (.inl (SqL.of ee)) ⟨_,rfl,K7 (λh'=>⟨_,se _ _ hd,by rw[ae];exact C0 ∅,_,rfl,(sd.trans se).upd nrl,?_⟩) λh'=>⟨_,rfl,sd.trans se,?_⟩⟩
          ·rw[A3,bD,hy,bA,ap];simp only[fc,cR,h,h',jt,eJ,aH,cu,if_true]
          ·rw[se _ _ hd,bD,hy,bA,ap];simp only[fc,cR,h',Bool.and_false,eJ,cu,bp,if_false,aO]
         ·rw[hd,bD,hy,bA,ap];simp only[fc,cR,h,jh,eJ,cu,bp,if_false,aO]
        ·rintro τ H6 ⟨c,rfl,s6,hd⟩;rw[ae,bz] at hd;have hd:H6 rl=some (.lst ((a0d ts w x).map V.int)):=hd;have s46:=s4c.trans s6;have rl60:=a6o W (w:=w) (x:=x);refine⟨⟨_,SqL.of hd⟩,λkl nkl=>N1 (K:=K) (xs:=(a0d ts w x).map V.int) (b2I H6 kl a b ts w x) ⟨none,rfl,(A9.refl H6).upd nkl,R9.nil⟩ ?_ ?_ ?_⟩
         ·rintro j τ Hd _ ⟨_,rfl,sd,_⟩;exact SqL.of (sd _ _ hd)
         ·rintro j v τ Hd hv ⟨c,rfl,sd,hk⟩ _;rw[aF] at hv;obtain⟨y,hy,rfl⟩:=bL.mp hv;walk_at "rd";refine⟨by decide,λp1 np1=>A5 np1 λG1 t1 g1=>a0K ((s46.trans (sd.trans t1)) _ _ ea) (ys:=[V.int x]) g1 (by rw[ae,bG];omega) λp2 G2 np2 t2 g2=>⟨by decide,λp3 np3=>A5 np3 λG3 t3 g3=>a0K ((s46.trans (sd.trans (t1.trans (t2.trans t3)))) _ _ eb) (ys:=[V.int y]) g3 (by rw[ae,bG];omega) λp4 G4 np4 t4 g4=>⟨by decide,λp5 np5=>A5 np5 λG5 t5 g5=>?_⟩⟩⟩;have t15:=t1.trans (t2.trans (t3.trans (t4.trans t5)));obtain⟨vs,ev,hvl,hvh⟩:=hk.same t15;have hvl2:=hvl;unfold a2C at hvl2;rw[ae,aW] at hvl2;refine⟨vs,ev,C0 ∅,_,rfl,(sd.trans t15).upd nkl,?_⟩;have ek:a2C w x ((a0d ts w x).take (j+1))=a2C w x ((a0d ts w x).take j)++[(w.1++[x],w.2++[y])]:=by unfold a2C;rw[bD,hy,ap];rfl
          rw[ek];refine R9.snoc ev hvl hvh ⟨p5,p2,p4,rfl,g5,?_,?_⟩ λz hz=>?_
          ·rw[(t3.trans (t4.trans t5)) _ _ g2,ap];rfl
          ·rw[t5 _ _ g4,ap];rfl
          ·rw[<- ek] at hz;obtain⟨y',_,rfl⟩:=aR.mp hz;exact⟨by simp,by simp⟩
         ·rintro τ H7 ⟨c,rfl,s7,hk⟩;rw[ae,bz] at hk;have hl1:(Wr++W0 ts w ((Q6 ts w).take i)).length<=200000:=by
           have b1:=St.len;have b2:=a2m W (w:=w) (os:=(Q6 ts w).take i);have b3:=a4T W (w:=w);rw[ak] at b1 ⊢;rw[aW] at b2;omega
          refine R9.cat ((hWs.same s6).same s7) hk (by unfold a2C;rw[ae];omega) λpn np' H8 s8 hT2=>⟨_,pn,_,_,_,rfl,sc.trans (s6.trans (s7.trans s8)),(s1.trans (s4c.trans (s6.trans s7))).free np',?_⟩
          have ekk:W0 ts w ((Q6 ts w).take (i+1))=W0 ts w ((Q6 ts w).take i)++a2C w x (a0d ts w x):=by unfold W0;rw[bD,hx,fT];simp
          rw[ekk,<- br];exact hT2
       ·rintro σ Hc ⟨c3,wl,c8,c9,c10,rfl,sc,nwl,hWs⟩;rw[ae,bz] at hWs;obtain⟨m1,m2⟩:=St.more W hlt;exact⟨_,m2,wl,_,_,_,_,_,_,_,rfl,s1.trans (s5.trans sc),nwl,hWs,m1,rfl⟩
def kwV (o:Option Kd):V:=match o with | some k=>.str k.w | none=>.non
def a1N (K:ah):Sp:=λvs H Q _=>∃(w:Addr) (n:Int) (ts:⋯) (p:Addr) (as:List Addr),vs=[.ref w,.ref p]/\M0 H w n ts/\C4 n ts/\E5 H p as (G9 n ts)/\∀ H',A9 H H'->Q (kwV (R8 n ts)) H'
def b0x (Hb:Hp)(l:Addr)(ts:⋯)(i:Nat)(τ:St)(Hc:Hp):Prop:=∃(c:Option V) (vs:List V),τ=[c]/\A9 Hb Hc/\Hc l=some (.lst vs)/\vs.length<=i/\(∀ v∈vs,∃(a:Addr) (us:List Int),v=.ref a/\Hb a=some (.lst (us.map V.int)))/\(vs=[]↔∀ j:Nat,j<i->(nb ts j).length=2)
def b2D (Hb:Hp)(l p:Addr)(ts:⋯)(i:Nat)(τ:St)(Hc:Hp):Prop:=∃ c:Option V,τ=[c,some (.ref p)]/\A9 Hb Hc/\Hc l=some (.lst (((B0 0 i).filter λx=>!decide (x∈nb ts 0)).map V.int))
def wiB (o:List Int)(t:Int×Int):Bool:=decide (decide (t.1∈o)=decide (t.2∈o))
def b2B (Hb:Hp)(l po:Addr)(o:List Int)(ts:⋯)(i:Nat)(τ:St)(Hc:Hp):Prop:=∃(c:Option V) (vs:List V),τ=[c,some (.ref po)]/\A9 Hb Hc/\Hc l=some (.lst vs)/\vs.length=((ts.take i).filter (wiB o)).length/\(∀ v∈vs,∃(a:Addr) (us:List Int),v=.ref a/\Hb a=some (.tup (us.map V.int)))
theorem b0N {K:ah}{H:Hp}{a:Addr}{l:List Int}(e:H a=some (.lst (l.map V.int))):Dok K H (.ref a):=⟨_,.lstI (SqL.of e),by rw[PyData.canLay0,K6],by rw[PyData.depth,N9];omega⟩
theorem a1T:D0 ["_law_web","_law_near_here","_law_places","_law_own","_law_within"] ["_law_web","_law_near_here"] (B7 (top 29)):=by walk_at "s"
theorem a5I (F:Fun K "_law_kind_of" "_law_kind_of" (top 29) f fd)(B:Bt mg)(D1:Df K mg "_law_is_ladder" st1 f1 fd1 ["_law_web","_law_near_here"])(G1:E1 P w K mg base CX0 2 f1 fd1 ["_law_web","_law_near_here"] (W8 K))(C:Bt2 mg):E1 P w K mg base CX0 3 f fd ["_law_web","_law_near_here"] (a1N K):=by
 refine F.ok a1T (λvs H Q E h=>?_) (λcdv A outer s H vs Q E hr h=>?_)
 ·walk_at "h"
 ·obtain⟨w0,n,ts,p,as,rfl,hw,W,R,q0⟩:=h;have nd:=a1T.nd;have hu:=K2 hr
  refine⟨_,(A2 (C6 (i:=2) nd rfl (.inl rfl) (B6 (C2 K) (pv 0) A4 (λ_ _=>rfl)))
    (A2 (J6 (B4 J7 (A7 (N7 K) (by rfl) B.len ba (A0 (B6 (C2 K) (pv 0) A4 (λ_ _=>rfl)) A1)) (B2 N0 (pv 2) A4) (B5 _))
     (A6 (B9 Q5))
     C9)
    (A2 (J6 (B4 J7 (B2 N6 A4 (A7 (N7 K) (by rfl) B.len ba (A0 (B6 (C2 K) (pv 0) A4 (λ_ _=>rfl)) A1))) (B2 N6 (pv 2) (B2 N0 (pv 2) A4)) (B5 _))
     (A6 (B9 Q5))
     C9)
    (A2 (J6 (B4 (a7B K hr.units) (J8 (own:=["_law_row"]) (fr:=[]) rfl (by walk_at "w") C7 (F0 K (pv 1)) ⟨λ_ _ _ _=>⟨(A8 (i:=0) (show List.Nodup (["_law_row"]:List Str) by decide +kernel) rfl (.inl rfl)),(M8 (B4 a0E (A7 (N7 K) (by rfl) B.len ba (A0 (pv 0) A1)) A4 (B5 _))),(pv 0)⟩⟩) (J3 A1) (B5 _))
     (A6 (B9 Q5))
     C9)
    (A2 (C6 (i:=3) nd rfl (.inr rfl) (J8 (own:=["_law_place"]) (fr:=[("_law_near_here",1)]) rfl (by walk_at "w") (C5 rfl rfl C7) (O0 (by rfl) B.range (A0 (pv 2) A1)) ⟨λ_ _ _ _=>⟨(A8 (i:=0) (show List.Nodup (["_law_place","_law_near_here"]:List Str) by decide +kernel) rfl (.inl rfl)),(M8 (B4 (a0m K) (pv 0) (B6 (B8 K) (pv 1) A4 (λ_ _=>rfl)) (by walk_at "w"))),(pv 0)⟩⟩))
    (A2 (L0 (i:=4) (own:=["_law_tie"]) (fr:=[("_law_own",3)]) rfl nd rfl rfl (by walk_at "w") (by walk_at "w") (C5 rfl rfl C7) (S0 K (B6 (C2 K) (pv 0) A4 (λ_ _=>rfl))) ⟨λ_ _ _ _=>⟨(A8 (i:=0) (show List.Nodup (["_law_tie","_law_own"]:List Str) by decide +kernel) rfl (.inl rfl)),(M8 (B4 J7 (J0 (X3 K) (B6 (C2 K) (pv 0) A4 (λ_ _=>rfl)) (pv 1) (by walk_at "w")) (J0 (X3 K) (B6 (C2 K) (pv 0) A4 (λ_ _=>rfl)) (pv 1) (by walk_at "w")) (B5 _))),(pv 0)⟩⟩)
    (A2 (J6 (PW.pt (X9 (B4 (a7B K hr.units) (pv 4) (J3 A1) (B5 _)) (U5 (B4 J7 (A7 (N7 K) (by rfl) B.len ba (A0 (B6 (C2 K) (pv 0) A4 (λ_ _=>rfl)) A1)) (B2 N6 (A7 (N7 K) (by rfl) B.len ba (A0 (pv 3) A1)) (B2 N0 (pv 2) (A7 (N7 K) (by rfl) B.len ba (A0 (pv 3) A1)))) (B5 _)))))
     (A6 (B9 Q5))
     C9)
    (A2 (J6 (U0 (C3 G1 D1 hr.m (A0 (pv 0) (A0 (pv 1) A1))))
     (A6 (B9 Q5))
     C9)
    (A6 (B9 a5C)))))))))),?_⟩
  walk_at "rd";have h3:=W.n3;have h60:=W.n60;have hl:=W.len;obtain⟨q,hq,htq⟩:=id hw;obtain⟨ps,ep,hps⟩:=id htq;have pl:=hps.len;have rlen:=R.len;rw[E8] at rlen;have row:∀ i:Nat,i<n.toNat->∃ a,as[i]?=some a/\H a=some (.lst ((nb ts i).map V.int)):=λi hi=>by
   obtain⟨a,e1,_,e2,_⟩:=R.get (v:=(i:Int)) ∅ (C8 (n:=n) (ts:=ts) (v:=(i:Int)) ∅ ∅);rw[bN] at e1;exact⟨a,e1,e2⟩
  refine⟨_,SqT.of hq,_,rfl,_,SqT.of hq,_,rfl,q,rfl,_,.inr (SqT.of ep),n,rfl,?_⟩;rw[ae,pl];refine K7 (λh=>?_) λh=>?_
  ·have e:R8 n ts=some .tree:=by unfold R8;rw[if_pos (of_decide_eq_true h)]
   have:=q0 H (A9.refl H);rw[e] at this;exact this
  have h1:¬ (ts.length:Int)=n-1:=λe=>h (decide_eq_true e)
  refine⟨_,SqT.of hq,_,rfl,q,rfl,_,.inr (SqT.of ep),by unfold a1n;omega,n,rfl,n,rfl,by unfold a1n;omega,?_⟩;rw[ae,pl];refine K7 (λh=>?_) λh=>?_
  ·have e:R8 n ts=some .full:=by unfold R8;rw[if_neg h1,if_pos (of_decide_eq_true h)]
   have:=q0 H (A9.refl H);rw[e] at this;exact this
  have h2:¬ 2*(ts.length:Int)=n*(n-1):=λe=>h (decide_eq_true e)
  refine⟨⟨_,SqL.of R.top⟩,λl1 nl1=>N1 (K:=K) (xs:=as.map V.ref) (b0x H l1 ts) ⟨none,[],rfl,(A9.refl H).upd nl1,A3,bo _,λv hv=>(by cases hv),⟨λ_ j hj=>absurd hj (cQ _),λ_=>rfl⟩⟩ ?_ ?_ ?_⟩
  ·rintro i τ Hc _ ⟨_,_,rfl,sc,_⟩;exact SqL.of (sc _ _ R.top)
  ·rintro i v τ Hc hv ⟨c,vs,rfl,sc,hc,hvl,hvs,hiff⟩ _;have hi:i<n.toNat:=by have:=(aq.mp hv).1;rw[ae] at this;omega
   obtain⟨a,e1,e2⟩:=row i hi;rw[aF,e1] at hv;cases hv;walk_at "rd";refine⟨_,.inl (SqL.of (sc _ _ e2)),?_⟩;rw[ae];refine K7 (λh=>⟨_,hc,C0 ∅,_,_,rfl,sc.upd nl1,A3,by simp;omega,λv hv=>?_,⟨λe=>by simp at e,λe=>?_⟩⟩) λh=>⟨_,vs,rfl,sc,hc,∅,hvs,hiff.trans ⟨λk j hj=>?_,λk j hj=>k j ∅⟩⟩
   ·rcases aj.mp hv with hv | hv
    ·exact hvs v hv
    ·exact⟨a,_,ag.mp hv,e2⟩
   ·have:=e i ∅;simp[this] at h
   ·by_cases c:j=i
    ·subst c;simp at h;omega
    ·exact k j ∅
  ·rintro τ H2 ⟨c,vs,rfl,s2,hc,hvl,hvs,hiff⟩;rw[ae,rlen] at hiff;refine⟨by decide,λp4 n4=>A5 n4 λH3 s3 e3=>b0L (s3 _ _ hc) (λv hv=>?_) e3 λc hc=>⟨_,rfl,?_⟩⟩
   ·obtain⟨a,us,rfl,ha⟩:=hvs v hv;exact b0N ((s2.trans s3) _ _ ha)
   have hring:c=true↔V2 n ts=true:=by
    rw[hc,hiff,a0n];exact⟨λk v v0 v1=>by have:=k v.toNat ∅;rwa [aY v0] at this,λk j hj=>k j ∅ ∅⟩
   have s13:=s2.trans s3;rw[show (if false=true then !c else c)=c from rfl];refine K7 (λh=>?_) λh=>?_
   ·have e:R8 n ts=some .ring:=by unfold R8;rw[if_neg h1,if_neg h2,if_pos (hring.mp h)]
    have:=q0 H3 s13;rw[e] at this;exact this
   have h3':¬ V2 n ts=true:=λe=>h (hring.mpr e)
   obtain⟨a0,_,i0,r0,_⟩:=R.get (v:=0) (by decide) (C8 (by decide) ∅);refine⟨n,rfl,∅,∅,λl2 nl2=>S4 (b2D H3 l2 p ts) ⟨none,rfl,(A9.refl H3).upd nl2,A3⟩ ?_ ?_⟩
   ·rintro i τ Hc hi ⟨c,rfl,sc,hcc⟩;have s1c:=s13.trans sc;walk_at "rd";have sz:((B0 0 i).filter λx=>!decide (x∈nb ts 0)).length<=60:=by
     refine bH (bu ..) ?_;rw[B1];omega
    have er:B0 0 (i+1)=B0 0 i++[(0:Int)+i]:=by unfold B0;rw[cO,ap];rfl
    refine⟨_,SqL.of (s1c _ _ R.top),_,i0,a1c (.inl (SqL.of (s1c _ _ r0))) ⟨_,rfl,K7 (λh=>⟨_,hcc,by rw[ae];exact C0 ∅,_,rfl,sc.upd nl2,?_⟩) λh=>⟨_,rfl,sc,?_⟩⟩⟩
    ·rw[A3,er,bA,ap];simp only[cR,h,eJ,aH,cu,if_true]
    ·rw[hcc,er,bA,ap];simp only[cR,h,eJ,cu,bp,if_false,aO]
   ·rintro τ H4 ⟨c,rfl,s4,h4⟩;have h4:H4 l2=some (.lst ((N4 n ts).map V.int)):=h4;have s14:=s13.trans s4;refine⟨_,SqT.of (s14 _ _ hq),_,rfl,q,rfl,⟨_,SqT.of (s14 _ _ ep)⟩,λl3 nl3=>a2j (K:=K) (xs:=ps.map λx=>V.ref x.1) (b2B H4 l3 l2 (N4 n ts) ts) ⟨none,[],rfl,(A9.refl H4).upd nl3,A3,rfl,λv hv=>(by cases hv)⟩ ?_ ?_ ?_⟩
    ·rintro i τ Hc _ ⟨_,_,rfl,sc,_⟩;exact SqT.of (sc _ _ (s14 _ _ ep))
    ·rintro i v τ Hc hv ⟨c,vs,rfl,sc,hc5,hvl5,hvs5⟩;obtain⟨b,t,rfl,hti,hb⟩:=hps.get hv;have hb4:=s14 _ _ hb;have hbc:=sc _ _ hb4;walk_at "rd";have lT:((ts.take i).filter (wiB (N4 n ts))).length<=200:=by
      refine bH (bu ..) ?_;rw[aW];omega
     have et:(ts.take (i+1)).filter (wiB (N4 n ts))=(ts.take i).filter (wiB (N4 n ts))++if wiB (N4 n ts) t=true then [t] else []:=by
      rw[bD,hti,bA];congr 1;cases hq':wiB (N4 n ts) t<;>simp[hq']
     refine⟨_,SqT.of hbc,_,rfl,a0p (.inl (SqL.of (sc _ _ h4))) ⟨_,SqT.of hbc,_,rfl,a0p (.inl (SqL.of (sc _ _ h4))) ?_⟩⟩;refine⟨rfl,?_⟩;rw[show decide (V.bl (decide (t.1∈N4 n ts))=V.bl (decide (t.2∈N4 n ts)))=wiB (N4 n ts) t by unfold wiB;simp only[V.bl.injEq]];refine K7 (λh=>⟨_,hc5,C0 ∅,_,_,rfl,sc.upd nl3,A3,?_,λv hv=>?_⟩) λh=>⟨_,vs,rfl,sc,hc5,?_,hvs5⟩
     ·rw[et,if_pos h,ak,ak,hvl5];rfl
     ·rcases aj.mp hv with hv | hv
      ·exact hvs5 v hv
      ·exact⟨b,[t.1,t.2],ag.mp hv,hb4⟩
     ·rw[et,if_neg h,bp];exact hvl5
    ·rintro τ H5 ⟨c,vs5,rfl,s5,h5,hvl5,hvs5⟩;rw[ae,pl,bz] at hvl5;refine⟨by decide,λp6 n6=>A5 n6 λH6 s6 e6=>b0L (s6 _ _ h5) (λv hv=>?_) e6 λc hc=>⟨_,rfl,?_⟩⟩
     ·obtain⟨a,us,rfl,ha⟩:=hvs5 v hv;exact a6N ((s5.trans s6) _ _ ha)
     have s16:=s14.trans (s5.trans s6);rw[show (if false=true then !c else c)=c from rfl];have fin:¬ Q1 n ts->W8 K [V.ref w0,V.ref p] H6 (λx H1=>∃ c,x=V.bl c/\if c=true then Q (V.str (cC "ladder")) H1 else Q V.non H1) E0:=λhS =>
      ⟨w0,n,ts,p,as,rfl,hw.tp s16.tp,W,R.same s16,λb H7 s7 hb=>⟨b,rfl,K7 (λh=>by
       have IL:a2t ts:=by
        obtain⟨k,u,d,_,L⟩:=hb.mp h;exact⟨k,u,d,L.three W (a2d h3'),L⟩
       have e:R8 n ts=some .ladder:=by unfold R8;rw[if_neg h1,if_neg h2,if_neg h3',if_neg hS,if_pos IL]
       have:=q0 H7 (s16.trans s7);rw[e] at this;exact this) λh=>by
       have IL:¬ a2t ts:=λ⟨k,u,d,_,L⟩=>h (hb.mpr ⟨k,u,d,L.size W,L⟩)
       have e:R8 n ts=none:=by unfold R8;rw[if_neg h1,if_neg h2,if_neg h3',if_neg hS,if_neg IL]
       have:=q0 H7 (s16.trans s7);rw[e] at this;exact this⟩⟩
     have hwi:c=true↔ts.filter (λt=>decide (decide (t.1∈N4 n ts)=decide (t.2∈N4 n ts)))=[]:=by
      rw[hc];have e:ts.filter (wiB (N4 n ts))=ts.filter (λt=>decide (decide (t.1∈N4 n ts)=decide (t.2∈N4 n ts))):=rfl;rw[e] at hvl5;rw[<- dj,hvl5,dj]
     have hl2:=(s5.trans s6) _ _ h4;have ol:=a3T W;refine K7 (λh=>⟨_,SqT.of (s16 _ _ hq),_,rfl,q,rfl,_,.inr (SqT.of (s16 _ _ ep)),_,.inl (SqL.of hl2),_,.inl (SqL.of hl2),n,rfl,by rw[ae];unfold a1n;omega,?_⟩) λh=>fin λS=>h (hwi.mpr ((a5A W).mpr S).1)
     rw[ae,ae,pl];refine K7 (λh'=>?_) λh'=>fin λS=>h' (decide_eq_true ((a5A W).mpr S).2)
     have S:=(a5A W).mp ⟨hwi.mp h,of_decide_eq_true h'⟩;have e:R8 n ts=some .sides:=by unfold R8;rw[if_neg h1,if_neg h2,if_neg h3',if_pos S]
     have:=q0 H6 s16;rw[e] at this;exact this
def Z9 (K:ah):Sp:=λvs H Q _=>∃(n:Int) (ts:⋯) (k:Kd) (p:Addr) (as:List Addr),vs=[.str k.w,.ref p]/\0<=n/\n<=60/\E5 H p as (G9 n ts)/\∀ H',A9 H H'->Q (.int (a9f n ts k)) H'
def a8S (Hb:Hp)(l:Addr)(ts:⋯)(i:Nat)(τ:St)(Hc:Hp):Prop:=∃(c:Option V) (vs:List V),τ=[c]/\A9 Hb Hc/\Hc l=some (.lst vs)/\vs.length=((B0 0 i).filter λv=>decide ((nb ts v).length=1)).length
theorem a8J {ts:⋯}{i:Nat}:((B0 0 i).filter λv=>decide ((nb ts v).length=1)).length<=i:=by
 refine bH (bu ..) ?_;rw[B1];exact aC _
theorem a1G {ts:⋯}{i:Nat}:((B0 0 (i+1)).filter λv=>decide ((nb ts v).length=1)).length=((B0 0 i).filter λv=>decide ((nb ts v).length=1)).length+if (nb ts i).length=1 then 1 else 0:=by
 rw[show B0 0 (i+1)=B0 0 i++[(i:Int)] by unfold B0;rw[cO,ap];simp,bA,ak];congr 1;by_cases h:(nb ts i).length=1<;>simp[h]
theorem a0a:D0 ["_law_word","_law_near_here","_law_places"] ["_law_word","_law_near_here"] (B7 (top 30)):=by walk_at "s"
theorem a2y (F:Fun K "_law_leaves_due" "_law_leaves_due" (top 30) f fd)(B:Bt mg)(C:Bt2 mg):E1 P w K mg base CX0 1 f fd ["_law_word","_law_near_here"] (Z9 K):=by
 refine F.ok a0a (λvs H Q E h=>?_) (λcdv A outer s H vs Q E hr h=>?_)
 ·walk_at "h"
 ·obtain⟨n,ts,k,p,as,rfl,hn,hn6,R,q0⟩:=h;have nd:=a0a.nd;have hu:=K2 hr
  refine⟨_,(A2 (C6 (i:=2) nd rfl (.inl rfl) (A7 (N7 K) (by rfl) B.len ba (A0 (pv 1) A1)))
    (A2 (J6 (B4 J7 (pv 0) Q5 (B5 _))
     (A6 (B9 (A7 (N7 K) (by rfl) B.len ba (A0 (J8 (own:=["_law_row"]) (fr:=[]) rfl (by walk_at "w") C7 (F0 K (pv 1)) ⟨λ_ _ _ _=>⟨(A8 (i:=0) (show List.Nodup (["_law_row"]:List Str) by decide +kernel) rfl (.inl rfl)),(M8 (B4 J7 (A7 (N7 K) (by rfl) B.len ba (A0 (pv 0) A1)) A4 (B5 _))),(pv 0)⟩⟩) A1))))
     C9)
    (A2 (J6 (B4 J7 (pv 0) Q5 (B5 _))
     (A6 (B9 (B2 N0 (pv 2) A4)))
     C9)
    (A2 (J6 (B4 J7 (pv 0) Q5 (B5 _))
     (A6 (B9 A4))
     C9)
    (A2 (J6 (B4 J7 (pv 0) Q5 (B5 _))
     (A6 (B9 (B2 N0 (pv 2) A4)))
     C9)
    (A6 (B9 (B6 (B8 K) (J3 (A0 (B2 Z2 (pv 2) A4) (A0 A4 A1))) (E3 a1j (by rfl) B.int kn (A0 (J0 J7 (pv 2) A4 (B5 _)) A1)) (λ_ _=>rfl))))))))),?_⟩
  walk_at "rd";have rlen:=R.len;rw[E8] at rlen;have al:((as.map V.ref).length:Int)=n:=by rw[ae,rlen];omega
  refine⟨_,.inl (SqL.of R.top),?_⟩;rw[al];cases k with
  | full =>
   rw[if_neg (by decide),if_pos (by decide)];exact q0 H (A9.refl H)
  | ring =>
   rw[if_neg (by decide),if_neg (by decide),if_pos (by decide)];exact q0 H (A9.refl H)
  | sides =>
   rw[if_neg (by decide),if_neg (by decide),if_neg (by decide),if_pos (by decide)];exact q0 H (A9.refl H)
  | ladder =>
   rw[if_neg (by decide),if_neg (by decide),if_neg (by decide),if_neg (by decide)];refine⟨by unfold a9v;omega,by decide,λp1 np1=>A5 np1 λH1 s1 e1=>⟨_,SqL.of e1,.int (a9f n ts .ladder),?_,q0 H1 s1⟩⟩;show _=some (V.int (if n=6 then 4 else n / 2));by_cases h:n=6
   ·rw[if_pos h,if_pos (decide_eq_true h)];rfl
   ·rw[if_neg h,if_neg (~~~h)];rfl
  | tree =>
   rw[if_pos (by decide)];refine⟨⟨_,SqL.of R.top⟩,λl1 nl1=>N1 (K:=K) (xs:=as.map V.ref) (a8S H l1 ts) ⟨none,[],rfl,(A9.refl H).upd nl1,A3,rfl⟩ ?_ ?_ ?_⟩
   ·rintro i τ Hc _ ⟨_,_,rfl,sc,_⟩;exact SqL.of (sc _ _ R.top)
   ·rintro i v τ Hc hv ⟨c,vs,rfl,sc,hc,hvl⟩ _;have hi:i<n.toNat:=by have:=(aq.mp hv).1;rw[ae] at this;omega
    obtain⟨a,e1,_,e2,_⟩:=R.get (v:=(i:Int)) ∅ (C8 (n:=n) (ts:=ts) (v:=(i:Int)) ∅ ∅);rw[bN] at e1;rw[aF,e1] at hv;cases hv;have ll:=a8J (ts:=ts) (i:=i);walk_at "rd";refine⟨_,.inl (SqL.of (sc _ _ e2)),?_⟩;rw[ae];refine K7 (λh=>⟨_,hc,C0 ∅,_,_,rfl,sc.upd nl1,A3,?_⟩) λh=>⟨_,vs,rfl,sc,hc,?_⟩
    ·rw[a1G,if_pos (by have:=of_decide_eq_true h;omega),ak,hvl];rfl
    ·rw[a1G,if_neg (λe=>h (decide_eq_true ∅)),hvl];rfl
   ·rintro τ H2 ⟨c,vs,rfl,s2,hc,hvl⟩;rw[ae,rlen] at hvl;have:=q0 H2 s2;unfold a9f N8 at this;exact⟨_,.inl (SqL.of hc),by rw[hvl];exact this⟩
theorem a4J:D0 ["_law_cell","_law_k","_law_number"] ["_law_cell","_law_k"] (B7 (top 17)):=by walk_at "s"
theorem a8y (F:Fun K "_law_mixed" "_law_mixed" (top 17) f fd)(B:Bt mg):E1 P w K mg base CX0 1 f fd ["_law_cell","_law_k"] a4z:=by
 refine F.ok a4J (λvs H Q E h=>?_) (λcdv A outer s H vs Q E hr h=>?_)
 ·walk_at "h"
 ·obtain⟨c,k,rfl,hk0,hk1,q⟩:=h;have nd:=a4J.nd;have hu:=K2 hr
  refine⟨_,(A2 (C6 (i:=2) nd rfl (.inl rfl) (B2 P9 (B2 K3 (B2 K3 (pv 0) (B2 N6 (B2 N6 (pv 1) (pv 1)) A4)) A4) A4))
    (A2 (C6 (i:=2) nd rfl (.inl rfl) (B2 P9 (B2 N6 (pv 2) (pv 2)) A4))
    (A2 (C6 (i:=2) nd rfl (.inl rfl) (B2 P9 (B2 N6 (B2 K3 (B2 K3 (pv 2) (B2 N6 (pv 1) A4)) A4) A4) A4))
    (A6 (B9 (B2 Z2 (B2 P9 (B2 N6 (pv 2) (pv 2)) A4) A4)))))),?_⟩
  walk_at "rd";have hm:∀ x:Int,0<=x % 2305843009213693951/\x % 2305843009213693951<2305843009213693951:=λx=>⟨ft _ (by decide),d9 _ (by decide)⟩
  have small:∀ x y:Int,a1n (x % 2305843009213693951) y:=λx y=>.inl ⟨by have:=hm x;omega,by have:=hm x;omega⟩
  have pos:(0:Int)<2305843009213693951:=by decide
  exact⟨.inl ⟨∅,∅⟩,.inr ⟨by decide,by decide⟩,pos,small _ _,pos,.inl ⟨∅,∅⟩,.inr ⟨by decide,by decide⟩,pos,small _ _,pos,⟨by decide,by decide⟩,q _⟩
theorem a6j:D0 ["_law_deck_here"] ["_law_deck_here"] (B7 (top 19)):=by walk_at "s"
theorem b0b (F:Fun K "_law_next" "_law_next" (top 19) f fd)(B:Bt mg):E1 P w K mg base CX0 1 f fd ["_law_deck_here"] Z1:=by
 refine F.ok a6j (λvs H Q E h=>?_) (λcdv A outer s H vs Q E hr h=>?_)
 ·walk_at "h"
 ·obtain⟨d,ns,rfl,hd,q⟩:=h;have nd:=a6j.nd;have hu:=K2 hr
  refine⟨_,(A2 (J6 (B4 a3h (A7 (N7 K) (by rfl) B.len ba (A0 (pv 0) A1)) A4 (B5 _))
     (A6 (B9 (a9U K (pv 0))))
     C9)
    (A6 (B9 A4))),?_⟩
  walk_at "rd";refine⟨ns.map V.int,.inl (SqL.of hd),K7 (λh=>?_) λh=>?_⟩
  ·refine⟨.inl ⟨rfl,_,SqL.of hd⟩,?_⟩;have hne:ns≠[]:=λe=>by subst e;simp at h
   have h1:(ns.map V.int)[(ns.map V.int).length-1]?=some (V.int (ns.getLast hne)):=by
    rw[ae,aF,<- jf,List.getLast?_eq_some_getLast hne];rfl
   refine⟨ns.map V.int,hd,_,h1,?_⟩;rw[<- List.map_dropLast];exact q _ _ (by rw[jM];omega) (λx hx=>List.dropLast_subset _ hx) (.inr (List.getLast_mem hne))
  ·have e:upd H d (.lst (ns.map V.int))=H:=a4u hd;have:=q 0 ns (aC _) (λ_ h=>h) (.inl rfl);rw[e] at this;exact this
def a8U (H:Hp)(a p4 p5 p6:Addr)(m:Int)(os:List Int)(i:Nat)(σ:St)(Hc:Hp):Prop:=∃(kv av:Option V) (rs ds:List Int),σ=[some (.ref a),some (.int m),some (.ref p4),some (.ref p5),some (.ref p6),kv,av]/\A9 H Hc/\Hc p4=some (.lst (os.map V.int)) /\
 Hc p5=some (.lst (rs.map V.int))/\rs.length=os.length/\Hc p6=some (.lst (ds.map V.int))/\ds.length=i/\(∀ x∈ds,0<=x/\x<1000)
theorem a6m:D0 ["_law_script","_law_many","_law_own","_law_rest","_law_deck_here","_law_k","_law_at"] ["_law_script","_law_many"] (B7 (top 18)):=by walk_at "s"
theorem b0e (F:Fun K "_law_deck" "_law_deck" (top 18) f fd)(B:Bt mg)(D1:Df K mg "_law_mixed" st1 f1 fd1 ["_law_cell","_law_k"])(G1:E1 P w K mg base CX0 1 f1 fd1 ["_law_cell","_law_k"] a4z):E1 P w K mg base CX0 2 f fd ["_law_script","_law_many"] (a6h K):=by
 refine F.ok a6m (λvs H Q E h=>?_) (λcdv A outer s H vs Q E hr h=>?_)
 ·walk_at "h"
 ·obtain⟨a,m,ns,rfl,hS,hl,hm0,hm1,q⟩:=h;have nd:=a6m.nd;have hu:=K2 hr
  refine⟨_,(A2 (C6 (i:=2) nd rfl (.inl rfl) (B2 S8 (E3 (a6A K) (by rfl) B.list iK (A0 (a2b (a4D K) (pv 0) a3S (a3R A4)) A1)) (B2 b2g (J3 (A0 A4 A1)) (E3 a1j (by rfl) B.int kn (A0 (J0 J7 (A7 (N7 K) (by rfl) B.len ba (A0 (pv 0) A1)) A4 (B5 _)) A1)))))
    (A2 (L0 (i:=3) (own:=["_law_cell"]) (fr:=[]) rfl nd rfl rfl (by walk_at "w") (by walk_at "w") C7 (F0 K (pv 2)) ⟨λ_ _ _ _=>⟨(A8 (i:=0) (show List.Nodup (["_law_cell"]:List Str) by decide +kernel) rfl (.inl rfl)),J9,(B6 (B8 K) (J3 (A0 A4 (A0 (pv 0) A1))) (E3 a1j (by rfl) B.int kn (A0 (J0 b1o (pv 0) (B2 b2h A4 A4) (B5 _)) A1)) (λ_ _=>rfl))⟩⟩)
    (A2 (C6 (i:=4) nd rfl (.inl rfl) (J3 A1))
    (A2 (P6 bK rfl (O0 (by rfl) B.range (A0 (pv 1) A1)) (A8 (i:=5) nd rfl (.inl rfl))
     (A2 (C6 (i:=6) nd rfl (.inl rfl) (B2 P9 (pv 5) (A7 (N7 K) (by rfl) B.len ba (A0 (pv 2) A1))))
     (A6 (J6 (B4 a3h (B6 (B8 K) (pv 3) (pv 6) (λ_ _=>rfl)) A4 (B5 _))
      (A2 (M9 (N5 K (pv 4) (A0 (B2 P9 (B6 (B8 K) (pv 3) (pv 6) (λ_ _=>rfl)) A4) A1)))
      (A6 (a0Y (B2 Z2 (B6 (B8 K) (pv 3) (pv 6) (λ_ _=>rfl)) A4) (a8m (pv 3) (pv 6) a4E))))
      (A6 (M9 (N5 K (pv 4) (A0 (B2 P9 (C3 G1 D1 hr.m (A0 (B6 (B8 K) (pv 2) (pv 6) (λ_ _=>rfl)) (A0 (B2 K3 (pv 5) A4) A1))) A4) A1))))))))
    (A6 (B9 (a5D hr.hd (by rfl) B.list (by rfl) B.reversed (pv 4)))))))),?_⟩
  walk_at "rd";refine⟨a,ns.map V.int,rfl,hS,λp1 n1=>⟨p1,rfl,_,.inl (SqL.of A3),λl nl=>⟨by decide,λp2 n2=>?_⟩⟩⟩;have s1:=(A9.refl H).upd (o:=.lst (Z8 (ns.map V.int) none (some 60))) n1;have s2:=s1.upd (o:=.lst (Z8 (ns.map V.int) none (some 60))) (s1.free nl);have s3:=s2.upd (o:=.lst [V.int 0]) (s2.free n2);refine⟨ns.map V.int,.inl (s3.seq hS),p2,_,_,rfl,rfl,A3,?_,?_,?_,λp3 n3=>?_⟩
  ·split<;>decide
  ·split<;>decide
  ·rw[sizeLine_eq];split<;>decide
  have s4:=s3.upd (o:=.lst (List.replicate (if decide ((ns.map V.int).length=(0:Int))=true then (1:Int) else 0).toNat [V.int 0]).flatten) (s3.free n3);have hlp:l≠p2:=λe=>by subst e;rw[A3] at n2;cases n2
  have hl3:l≠p3:=λe=>by subst e;rw[B3 hlp,A3] at n3;cases n3
  obtain⟨os,eo,ho1,ho2⟩:∃ os:List Int,Z8 (ns.map V.int) none (some 60)++(List.replicate (if decide ((ns.map V.int).length=(0:Int))=true then (1:Int) else 0).toNat [V.int 0]).flatten=os.map V.int/\1<=os.length/\os.length<=64:=by
   by_cases e:ns=[]
   ·subst e;exact⟨[0],rfl,by decide,by decide⟩
   ·have hne:¬ ((ns.map V.int).length:Int)=0:=by rw[ae];have:=gX.mpr e;omega
    rw[decide_eq_false hne];refine⟨ns.take 60,?_,?_,?_⟩
    ·have h60:HT.sIx (ns.map V.int).length (ns.map V.int).length (some 60)=min 60 ns.length:=by rw[show (60:Int)=((60:Nat):Int) from rfl,HT.sIx_nat,ae]
     unfold Z8;rw[HT.sIx_none,List.drop_zero,h60,Nat.sub_zero];simp only[aO,if_false,Int.toNat_zero,List.replicate,List.flatten_nil,bp];rw[<- List.map_take];congr 1;by_cases h:60<=ns.length
     ·rw[Nat.min_eq_left h]
     ·rw[Nat.min_eq_right ∅,cS (aC _),cS ∅]
    ·have:=gX.mpr e;rw[aW];omega
    ·rw[aW];omega
  refine⟨l,p3,_,_,rfl,rfl,by rw[B3 hl3,B3 hlp,A3],A3,?_,λp4 n4=>?_⟩
  ·have:=congrArg iT eo;have e2:(os.map V.int).length=os.length:=ae _;rw[ak] at this;rw[sizeLine_eq];omega
  rw[eo];have s5:=s4.upd (o:=.lst (os.map V.int)) (s4.free n4);generalize hH5:upd (upd (upd (upd (upd H p1 (HO.lst (Z8 (ns.map V.int) none (some 60)))) l (HO.lst (Z8 (ns.map V.int) none (some 60)))) p2 (HO.lst [V.int 0])) p3 (HO.lst (List.replicate (if decide ((ns.map V.int).length=(0:Int))=true then (1:Int) else 0).toNat [V.int 0]).flatten)) p4 (HO.lst (os.map V.int))=H5 at s5 ⊢;have h4:H5 p4=some (.lst (os.map V.int)):=by rw[<- hH5];exact A3
  refine⟨p4,rfl,⟨_,SqL.of h4⟩,λp5 n5=>N1 (K:=K) (xs:=os.map V.int) (λi τ Hc=>∃(c:Option V) (rs:List Int),τ=[c]/\A9 H5 Hc/\Hc p5=some (.lst (rs.map V.int))/\rs.length=i)
   ⟨none,[],rfl,(A9.refl H5).upd n5,A3,rfl⟩ (λi τ Hc _ ⟨_,_,_,sc,_⟩=>SqL.of (sc _ _ h4)) ?_ ?_⟩
  ·rintro i x τ Hc hx ⟨c,rs,rfl,sc,h5,hi⟩ _;have hil:i<os.length:=by have:=(aq.mp hx).1;rw[ae] at this;exact this
   obtain⟨z,rfl⟩:∃ z,x=V.int z:=by
    rw[aF] at hx;cases e:os[i]? with
    | none=>rw[e] at hx;cases hx
    | some z=>rw[e] at hx;exact⟨z,(aP hx).symm⟩
   walk_at "rd";refine⟨by decide,λp n=>⟨⟨by decide,by decide,by decide⟩,?_⟩⟩;have h5':∀ o,(upd Hc p o) p5=some (.lst (rs.map V.int)):=λo=>by rw[B3 (E4 h5 n)];exact h5
   refine⟨[V.int 0,V.int z],SqL.of A3,?_⟩;generalize decide ((10:Int) ^ Int.toNat 18<=z)=b;obtain⟨y,hy⟩:∃ y:Int,atI [V.int 0,V.int z] (if b=true then 1 else 0)=some (V.int y):=by
    cases b
    ·exact⟨0,rfl⟩
    ·exact⟨z,rfl⟩
   refine⟨_,hy,_,h5' _,?_,(sc.upd (sc.free n)).upd n5,rs++[y],?_,?_⟩
   ·rw[ae];exact C0 ∅
   ·rw[A3,ap];rfl
   ·rw[ak,hi];rfl
  ·rintro τ H6 ⟨c,rs,rfl,s6,h5,hrs⟩;rw[ae] at hrs;refine⟨by decide,λp6 n6=>?_⟩;have s06:A9 H H6:=s5.trans s6;have h46:H6 p4=some (.lst (os.map V.int)):=s6 _ _ h4;have n45:p4≠p5:=E4 h4 n5;have n46:p4≠p6:=E4 h46 n6;have n56:p5≠p6:=E4 h5 n6
   refine⟨_,rfl,m,rfl,∅,∅,Z4 (lo:=0) (n:=m.toNat) (a8U H a p4 p5 p6 m os)
    ⟨none,none,rs,[],rfl,s06.upd (s06.free n6),by rw[B3 n46];exact h46,by rw[B3 n56];exact h5,hrs,A3,rfl,λx hx=>(by cases hx)⟩ ?_ ?_⟩
   ·rintro i σ Hc hi ⟨kv,av,rs,ds,rfl,sc,c4,c5,hrl,c6,hdl,hdb⟩;have hoi:(0:Int)<(os.map V.int).length:=by rw[ae];omega
    have hat:∃ j:Nat,j<os.length/\(0+(i:Int)) % ((os.map V.int).length:Int)=(j:Int):=by
     have h1:=ft (0+(i:Int)) (b:=((os.map V.int).length:Int)) ∅;have h2:=d9 (0+(i:Int)) hoi;refine⟨((0+(i:Int)) % ((os.map V.int).length:Int)).toNat,?_,∅⟩;rw[ae] at h2 ⊢;omega
    obtain⟨j,hj,ej⟩:=hat;have atR:∀(l:List Int),l.length=os.length->∃ z,atI (l.map V.int) (j:Int)=some (V.int z):=λl e=>by
     have hjl:j<l.length:=∅
     exact⟨l[j],R0 (by rw[aF,au hjl];rfl)⟩
    obtain⟨z,hz⟩:=atR rs hrl;obtain⟨z',hz'⟩:=atR os rfl;have n65:p6≠p5:=n56.symm;have hdb2:∀ y:Int,∀ x∈ds++[y % 1000],0<=x/\x<1000:=λy x hx=>by
     rcases aj.mp hx with hx | hx
     ·exact hdb x hx
     ·rw[ag.mp hx];omega
    have n64:p6≠p4:=n46.symm;have hdl2:(ds.map V.int).length<sizeLine:=by rw[ae];exact C0 ∅
    have c5':∀ o,(upd Hc p6 o) p5=some (.lst (rs.map V.int)):=λo=>by rw[B3 n56];exact c5
    have hm6:H p6=none:=s06.free n6;have hm5:H p5=none:=(s5.free n5)
    walk_at "rd";refine⟨_,.inl (SqL.of c4),hoi,_,SqL.of c5,?_⟩;rw[ej];refine⟨_,hz,z,rfl,K7 (λ_=>?_) λ_=>?_⟩
    ·refine⟨.inl ⟨rfl,_,SqL.of c6⟩,_,SqL.of c5,_,hz,z,rfl,by decide,_,c6,hdl2,_,SqL.of (c5' _),_,hz,z,rfl,⟨by decide,by decide⟩,?_⟩;have hix:ixN (rs.map V.int).length (j:Int)=some j:=by
      unfold ixN;rw[ae,if_pos ∅,if_pos ∅];simp
     refine⟨_,c5' _,j,hix,?_⟩;refine⟨_,_,rs.set j (z / 1000),ds++[z % 1000],rfl,(sc.upd hm6).upd hm5,by rw[B3 n45,B3 n46];exact c4,by rw[A3,List.map_set],by rw[eI];exact hrl,?_,by rw[ak,hdl];rfl,hdb2 z⟩;rw[B3 n65,A3,ap];rfl
    ·refine⟨.inl ⟨rfl,_,SqL.of c6⟩,_,SqL.of c4,_,hz',z',_,rfl,∅,∅,λy=>?_⟩;walk_at "rd";refine⟨by decide,_,c6,hdl2,?_⟩;refine⟨_,_,rs,ds++[y % 1000],rfl,sc.upd hm6,by rw[B3 n46];exact c4,by rw[B3 n56];exact c5,hrl,by rw[A3,ap];rfl,by rw[ak,hdl];rfl,hdb2 y⟩
   ·rintro σ Hc ⟨kv,av,rs,ds,rfl,sc,c4,c5,hrl,c6,hdl,hdb⟩;walk_at "rd";refine⟨_,c6,λp7 n7=>?_⟩;rw[<- List.map_reverse];exact q p7 ds.reverse _ ⟨by rw[gW];omega,λx hx=>hdb x (List.mem_reverse.mp hx)⟩ (sc.upd (sc.free n7)) (sc.free n7) A3
def a7v (H:Hp)(d p:Addr)(i:Nat)(τ:St)(Hc:Hp):Prop:=∃(c:Option V) (ps:List (Addr×List Int)),τ=[c,some (.ref d)]/\Kp d H Hc/\P1 Hc d/\Hc p=some (.lst (ps.map λx=>V.ref x.1)) /\
 (∀ x∈ps,Hc x.1=some (.tup (x.2.map V.int))/\∃ z k,x.2=[z,k])/\ps.length=i/\ps.map (λx=>x.2.getD 1 0)=B0 0 i
def a7u (H:Hp)(p:Addr)(ps:List (Addr×List Int))(i:Nat)(τ:St)(Hc:Hp):Prop:=∃(c k:Option V),τ=[c,k]/\A9 H Hc/\Hc p=some (.lst (((ps.map λx=>x.2.getD 1 0).take i).map V.int))
theorem a6i:D0 ["_law_deck_here","_law_many"] ["_law_deck_here","_law_many"] (B7 (top 20)):=by walk_at "s"
theorem b0a (F:Fun K "_law_turn" "_law_turn" (top 20) f fd)(B:Bt mg)(D1:Df K mg "_law_next" st1 f1 fd1 ["_law_deck_here"])(G1:E1 P w K mg base CX0 1 f1 fd1 ["_law_deck_here"] Z1):E1 P w K mg base CX0 2 f fd ["_law_deck_here","_law_many"] a3K:=by
 refine F.ok a6i (λvs H Q E h=>?_) (λcdv A outer s H vs Q E hr h=>?_)
 ·walk_at "h"
 ·obtain⟨d,n,rfl,hd,hn0,hn1,q⟩:=h;have nd:=a6i.nd;have hu:=K2 hr;refine⟨_,(A6 (B9 (E3 (S6 K) (by rfl) B.tuple dz (A0 (J8 (own:=["_law_cell","_law_at"]) (fr:=[]) rfl (by walk_at "w") C7 (F0 K (A7 (T7 K) (by rfl) B.sorted dq (A0 (J8 (own:=["_law_at"]) (fr:=[("_law_deck_here",0)]) rfl (by walk_at "w") (C5 rfl rfl C7) (O0 (by rfl) B.range (A0 (pv 1) A1)) ⟨λ_ _ _ _=>⟨(A8 (i:=0) (show List.Nodup (["_law_at","_law_deck_here"]:List Str) by decide +kernel) rfl (.inl rfl)),J9,(E9 (A0 (C3 G1 D1 hr.m (A0 (pv 1) A1)) (A0 (pv 0) A1)))⟩⟩) A1))) ⟨λ_ _ _ _=>⟨(K1 K (n:=2) rfl (C1 (A8 (i:=0) (show List.Nodup (["_law_cell","_law_at"]:List Str) by decide +kernel) rfl (.inl rfl)) (C1 (A8 (i:=1) (show List.Nodup (["_law_cell","_law_at"]:List Str) by decide +kernel) rfl (.inl rfl)) K0))),J9,(pv 1)⟩⟩) A1)))),?_⟩;walk_at "rd";refine⟨∅,∅,λp n=>S4 (a7v H d p) ⟨none,[],rfl,(Kp.refl d H).new n,hd.new (hd.ne n),A3,(λx hx=>by cases hx),rfl,rfl⟩ ?_ ?_⟩
  ·rintro i τ Hc hi ⟨c,ps,rfl,k,dk,hp,hall,hl,hm⟩;walk_at "rd";refine a8G dk λz H1 k1 dk1 e1=>⟨by decide,λq1 nq=>?_⟩
   have hp1:H1 p=some (.lst (ps.map λx=>V.ref x.1)):=by rw[e1 p (hd.ne n)];exact hp
   have k2:=k.trans k1;have nH:H q1=none:=k2.free dk1 nq;refine⟨_,P8 hp1 nq,by rw[ae,hl];exact C0 ∅,?_⟩;refine⟨_,ps++[(q1,[z,0+(i:Int)])],rfl,(k2.new nH).new n,(dk1.new (dk1.ne nq)).new (hd.ne n),by rw[A3,ap];rfl,?_,by rw[ak,hl];rfl,by rw[ap,hm,a1W];rfl⟩;intro x hx;rcases aj.mp hx with hx | hx
   ·obtain⟨h1,h2⟩:=hall x hx;have h3:=k1.tp dk _ _ h1;exact⟨by rw[B3 (a8H h3 hp1)];exact P8 h3 nq,h2⟩
   ·cases ag.mp hx;exact⟨by rw[B3 (E4 hp1 nq).symm,A3];rfl,z,_,rfl⟩
  ·rintro τ H1 ⟨c,ps,rfl,k,dk,hp,hall,hl,hm⟩;refine⟨ps,⟨.inl (SqL.of hp),λx hx=>⟨(hall x hx).1,by obtain⟨_,z,k,e⟩:=hall x hx;rw[e];simp⟩⟩,λps' l pm _ nl=>⟨⟨_,SqL.of A3⟩,λp2 n2=>?_⟩⟩;have nl':H l=none:=k.free dk nl;have s1:A9 H1 (upd H1 l (.lst (ps'.map λx=>V.ref x.1))):=(A9.refl H1).upd nl;have n2':H1 p2=none:=s1.free n2;generalize hH2:upd H1 l (.lst (ps'.map λx=>V.ref x.1))=H2 at s1 n2 ⊢;have hl2:H2 l=some (.lst (ps'.map λx=>V.ref x.1)):=by rw[<- hH2];exact A3
   refine N1 (K:=K) (xs:=ps'.map λx=>V.ref x.1) (a7u H2 p2 ps') ?_ ?_ ?_ ?_
   ·exact⟨none,none,rfl,(A9.refl H2).upd n2,A3⟩
   ·rintro i τ Hc _ ⟨_,_,rfl,sc,_⟩;exact SqL.of (sc _ _ hl2)
   ·rintro i v τ Hc hx ⟨c,k',rfl,sc,h2⟩ _;rw[aF] at hx;cases hy:ps'[i]? with
    | none=>rw[hy] at hx;cases hx
    | some y =>
    rw[hy] at hx;cases aP hx;have hym:=aG hy;obtain⟨h3,z,m,e⟩:=hall y (pm.mem_iff.mp hym);have h4:=sc _ _ (s1 _ _ h3);rw[e] at h4;walk_at "rd";have hil:i<ps'.length:=(aq.mp hy).1;refine⟨_,SqT.of h4,rfl,_,_,rfl,_,_,rfl,rfl,_,h2,?_,?_⟩
    ·rw[ae,aW];refine C0 (bH (fV _ _) ?_);have:=pm.length_eq;omega
    ·refine⟨_,_,rfl,sc.upd n2,?_⟩;rw[A3,cN,aF,hy,ap];show _=some (HO.lst (_++[V.int (y.2.getD 1 0)]));rw[e];rfl
   ·rintro τ Hc ⟨c,k',rfl,sc,h2⟩;refine⟨_,.inl ⟨SqL.of h2,λl3 n3=>?_⟩⟩;rw[ae,cS (by rw[ae];exact aC _)];have s3:A9 H1 Hc:=s1.trans sc;have nH3:H l3=none:=k.free dk (s3.free n3);refine q l3 _ _ ((k.trans s3.kp).new nH3) ((dk.same s3).new (hd.ne nH3)) nH3 A3 ?_;rw[<- hm];exact pm.map _
def a5j (H:Hp)(w0 p:Addr)(n:Int)(ts:⋯)(i:Nat)(σ:St)(Hc:Hp):Prop:=∃(av bv:Option V) (as:List Addr),σ=[some (.ref w0),some (.ref p),av,bv]/\a5Y H Hc p as (G9 n (ts.take i))
def a3s (H:Hp)(p:Addr)(n:Int)(ts:⋯)(i:Nat)(τ:St)(Hc:Hp):Prop:=∃(c:Option V) (as:List Addr),τ=[c]/\a5Y H Hc p as ((G9 n ts).take i)
theorem a6k:D0 ["_law_web","_law_near_here","_law_one","_law_other"] ["_law_web"] (B7 (top 21)):=by walk_at "s"
theorem b0c (F:Fun K "_law_near" "_law_near" (top 21) f fd)(B:Bt mg):E1 P w K mg base CX0 1 f fd ["_law_web"] a3L:=by
 refine F.ok a6k (λvs H Q E h=>?_) (λcdv A outer s H vs Q E hr h=>?_)
 ·walk_at "h"
 ·obtain⟨w0,n,ts,rfl,hw,hn0,hn1,htl,hok,hsr,q⟩:=h;have nd:=a6k.nd;have hu:=K2 hr
  refine⟨_,(A2 (L0 (i:=1) (own:=["_law_place"]) (fr:=[]) rfl nd rfl rfl (by walk_at "w") (by walk_at "w") C7 (O0 (by rfl) B.range (A0 (B6 (C2 K) (pv 0) A4 (λ_ _=>rfl)) A1)) ⟨λ_ _ _ _=>⟨(A8 (i:=0) (show List.Nodup (["_law_place"]:List Str) by decide +kernel) rfl (.inl rfl)),J9,(J3 A1)⟩⟩)
    (A2 (P6 bK rfl (S0 K (B6 (C2 K) (pv 0) A4 (λ_ _=>rfl))) (K1 K (n:=2) rfl (C1 (A8 (i:=2) nd rfl (.inl rfl)) (C1 (A8 (i:=3) nd rfl (.inl rfl)) K0)))
     (A2 (M9 (N5 K (B6 (B8 K) (pv 1) (pv 2) (λ_ _=>rfl)) (A0 (pv 3) A1)))
     (A6 (M9 (N5 K (B6 (B8 K) (pv 1) (pv 3) (λ_ _=>rfl)) (A0 (pv 2) A1))))))
    (A6 (B9 (J8 (own:=["_law_row"]) (fr:=[]) rfl (by walk_at "w") C7 (F0 K (pv 1)) ⟨λ_ _ _ _=>⟨(A8 (i:=0) (show List.Nodup (["_law_row"]:List Str) by decide +kernel) rfl (.inl rfl)),J9,(A7 (X8 K hr.hd) (by rfl) B.sorted dq (A0 (pv 0) A1))⟩⟩))))),?_⟩
  walk_at "rd";obtain⟨q0,hw0,ht⟩:=hw;obtain⟨xs,hx0,hxl,hxs⟩:=ht.get;refine⟨_,SqT.of hw0,_,rfl,n,rfl,∅,∅,λp np=>S4 (a1g H p) ?_ ?_ ?_⟩
  ·exact⟨none,[],rfl,(A9.refl H).upd np,np,(λa ha=>by cases ha),E5.nil A3⟩
  ·rintro i τ Hc hi ⟨c,as,rfl,fr⟩;walk_at "rd";refine⟨by decide,λpq nq=>⟨_,P8 fr.rows.top nq,?_,?_⟩⟩
   ·rw[ae,fr.rows.len,dF];exact C0 ∅
   ·have:=fr.rows.snoc nq (r:=[]);refine⟨_,as++[pq],rfl,(fr.same.upd (fr.same.free nq)).upd np,np,λa ha=>?_,?_⟩
    ·rcases aj.mp ha with ha | ha
     ·exact fr.na a ha
     ·cases ag.mp ha;exact fr.same.free nq
    ·rw[ap] at this;rw[eM];exact this
  ·rintro τ H2 ⟨c,as,rfl,fr⟩;rw[<- a0k] at fr;refine⟨_,rfl,_,_,1,_,rfl,rfl,SqT.of (fr.same _ _ hw0),rfl,_,rfl,⟨_,SqT.of (fr.same _ _ hx0)⟩,a0I (xs:=xs) (a5j H w0 p n ts) ⟨none,none,as,rfl,by rw[eS];exact fr⟩ ?_ ?_ ?_⟩
   ·rintro i σ Hc _ ⟨_,_,_,rfl,fr⟩;exact SqT.of (fr.same _ _ hx0)
   ·rintro i v σ Hc hv ⟨av,bv,as,rfl,fr⟩;obtain⟨a,t,rfl,hti,hta⟩:=hxs i v hv;obtain⟨t0,t1,t2⟩:=hok t (aG hti);obtain⟨a1,a2,i1,c1,tp1,i2,c2,fr2⟩:=fr.step t0 t1 t2;have l1:∀ v,((nb (ts.take i) v).map V.int).length<sizeLine:=λv=>by
     rw[ae];have:=Y2 (ts:=ts.take i) v;rw[aW] at this;exact C0 ∅
    walk_at "rd";refine⟨_,SqT.of (fr.same _ _ hta),rfl,_,_,rfl,_,_,rfl,rfl,_,_,rfl,SqL.of fr.rows.top,_,i1,.inl ⟨rfl,_,SqL.of c1⟩,_,rfl,_,c1,l1 _,_,_,rfl,SqL.of tp1,_,i2,.inl ⟨rfl,_,SqL.of c2⟩,_,rfl,_,c2,l1 _,_,_,as,rfl,?_⟩;rw[cN,hti];exact fr2
   ·rintro σ Hc ⟨av,bv,as,rfl,fr⟩;rw[hxl,bz] at fr;walk_at "rd";refine⟨⟨_,SqL.of fr.rows.top⟩,λp2 n2=>N1 (K:=K) (xs:=as.map V.ref) (a3s Hc p2 n ts) ?_ ?_ ?_ ?_⟩
    ·exact⟨none,[],rfl,(A9.refl Hc).upd n2,n2,(λa ha=>by cases ha),E5.nil A3⟩
    ·rintro i τ H4 _ ⟨_,_,rfl,fr4⟩;exact SqL.of (fr4.same _ _ fr.rows.top)
    ·rintro i v τ H4 hv ⟨c,bs,rfl,fr4⟩ _;have hil:i<n.toNat:=by
      have:=(aq.mp hv).1;rw[ae,fr.rows.len,E8] at this;exact this
     have hri:=C8 (n:=n) (ts:=ts) (v:=(i:Int)) ∅ ∅;rw[bN] at hri;rw[aF] at hv;cases ha:as[i]? with
     | none=>rw[ha] at hv;cases hv
     | some a =>
     rw[ha] at hv;cases aP hv;have hra:=fr4.same _ _ (fr.rows.row i a _ ha hri);walk_at "rd";refine⟨_,.inl (SqL.of hra),λns' l pm hs nl=>?_⟩;have e:ns'=nb ts (i:Int):=a1r pm hs (U6 hok hsr _);subst e;refine⟨_,P8 fr4.rows.top nl,?_,_,bs++[l],rfl,(fr4.same.upd (fr4.same.free nl)).upd n2,n2,λb hb=>?_,?_⟩
     ·rw[ae,fr4.rows.len,aW,E8];exact C0 ∅
     ·rcases aj.mp hb with hb | hb
      ·exact fr4.na b hb
      ·cases ag.mp hb;exact fr4.same.free nl
     ·have:=fr4.rows.snoc nl (r:=nb ts (i:Int));rw[ap] at this;rw[cN,hri];exact this
    ·rintro τ H4 ⟨c,bs,rfl,fr4⟩;rw[ae,fr.rows.len,bz] at fr4;exact q p2 bs H4 (fr.same.trans fr4.same) (fr.same.free n2) (λb hb=>fr.same.free (fr4.na b hb)) fr4.rows
def a4y:Sp:=λvs H Q _=>∃(w:Addr) (n:Int) (ts:⋯),vs=[.ref w]/\(∃ q,H w=some (.tup [.int n,.ref q])/\LPs H q ts)/\0<=n/\n<=1000/\ts.length<=1000/\L5 n ts/\ts.Pairwise Lex /\
 ∀(p:Addr) (as:List Addr) (H':Hp),A9 H H'->H p=none->(∀ a∈as,H a=none)->E5 H' p as (G9 n ts)->Q (.ref p) H'
theorem a4I:D0 ["_law_web","_law_near_here","_law_one","_law_other"] ["_law_web"] (B7 (top 21)):=by walk_at "s"
theorem a8x (F:Fun K "_law_near" "_law_near" (top 21) f fd)(B:Bt mg):E1 P w K mg base CX0 1 f fd ["_law_web"] a4y:=by
 refine F.ok a4I (λvs H Q E h=>?_) (λcdv A outer s H vs Q E hr h=>?_)
 ·walk_at "h"
 ·obtain⟨w0,n,ts,rfl,hw,hn0,hn1,htl,hok,hsr,q⟩:=h;have nd:=a4I.nd;have hu:=K2 hr
  refine⟨_,(A2 (L0 (i:=1) (own:=["_law_place"]) (fr:=[]) rfl nd rfl rfl (by walk_at "w") (by walk_at "w") C7 (O0 (by rfl) B.range (A0 (B6 (C2 K) (pv 0) A4 (λ_ _=>rfl)) A1)) ⟨λ_ _ _ _=>⟨(A8 (i:=0) (show List.Nodup (["_law_place"]:List Str) by decide +kernel) rfl (.inl rfl)),J9,(J3 A1)⟩⟩)
    (A2 (P6 bK rfl (F0 K (B6 (C2 K) (pv 0) A4 (λ_ _=>rfl))) (K1 K (n:=2) rfl (C1 (A8 (i:=2) nd rfl (.inl rfl)) (C1 (A8 (i:=3) nd rfl (.inl rfl)) K0)))
     (A2 (M9 (N5 K (B6 (B8 K) (pv 1) (pv 2) (λ_ _=>rfl)) (A0 (pv 3) A1)))
     (A6 (M9 (N5 K (B6 (B8 K) (pv 1) (pv 3) (λ_ _=>rfl)) (A0 (pv 2) A1))))))
    (A6 (B9 (J8 (own:=["_law_row"]) (fr:=[]) rfl (by walk_at "w") C7 (F0 K (pv 1)) ⟨λ_ _ _ _=>⟨(A8 (i:=0) (show List.Nodup (["_law_row"]:List Str) by decide +kernel) rfl (.inl rfl)),J9,(A7 (X8 K hr.hd) (by rfl) B.sorted dq (A0 (pv 0) A1))⟩⟩))))),?_⟩
  walk_at "rd";obtain⟨q0,hw0,ps,hx0,hps⟩:=hw;obtain⟨xs,hxe⟩:∃ xs,xs=ps.map λx=>V.ref x.1:=⟨_,rfl⟩
  have hxl:xs.length=ts.length:=by rw[hxe,ae];exact hps.len
  have hxs:∀(i:Nat) v,xs[i]?=some v->∃ a t,v=V.ref a/\ts[i]?=some t/\H a=some (.tup [.int t.1,.int t.2]):=λi v hv=>hps.get (by rw[<- hxe];exact hv)
  rw[<- hxe] at hx0;refine⟨_,SqT.of hw0,_,rfl,n,rfl,∅,∅,λp np=>S4 (a1g H p) ?_ ?_ ?_⟩
  ·exact⟨none,[],rfl,(A9.refl H).upd np,np,(λa ha=>by cases ha),E5.nil A3⟩
  ·rintro i τ Hc hi ⟨c,as,rfl,fr⟩;walk_at "rd";refine⟨by decide,λpq nq=>⟨_,P8 fr.rows.top nq,?_,?_⟩⟩
   ·rw[ae,fr.rows.len,dF];exact C0 ∅
   ·have:=fr.rows.snoc nq (r:=[]);refine⟨_,as++[pq],rfl,(fr.same.upd (fr.same.free nq)).upd np,np,λa ha=>?_,?_⟩
    ·rcases aj.mp ha with ha | ha
     ·exact fr.na a ha
     ·cases ag.mp ha;exact fr.same.free nq
    ·rw[ap] at this;rw[eM];exact this
  ·rintro τ H2 ⟨c,as,rfl,fr⟩;rw[<- a0k] at fr;refine⟨_,rfl,_,_,1,_,rfl,rfl,SqT.of (fr.same _ _ hw0),rfl,_,rfl,⟨_,SqL.of (fr.same _ _ hx0)⟩,Y6 (xs:=xs) (a5j H w0 p n ts) ⟨none,none,as,rfl,by rw[eS];exact fr⟩ ?_ ?_ ?_⟩
   ·rintro i σ Hc _ ⟨_,_,_,rfl,fr⟩;exact SqL.of (fr.same _ _ hx0)
   ·rintro i v σ Hc hv ⟨av,bv,as,rfl,fr⟩;obtain⟨a,t,rfl,hti,hta⟩:=hxs i v hv;obtain⟨t0,t1,t2⟩:=hok t (aG hti);obtain⟨a1,a2,i1,c1,tp1,i2,c2,fr2⟩:=fr.step t0 t1 t2;have l1:∀ v,((nb (ts.take i) v).map V.int).length<sizeLine:=λv=>by
     rw[ae];have:=Y2 (ts:=ts.take i) v;rw[aW] at this;exact C0 ∅
    walk_at "rd";refine⟨_,SqT.of (fr.same _ _ hta),rfl,_,_,rfl,_,_,rfl,rfl,_,_,rfl,SqL.of fr.rows.top,_,i1,.inl ⟨rfl,_,SqL.of c1⟩,_,rfl,_,c1,l1 _,_,_,rfl,SqL.of tp1,_,i2,.inl ⟨rfl,_,SqL.of c2⟩,_,rfl,_,c2,l1 _,_,_,as,rfl,?_⟩;rw[cN,hti];exact fr2
   ·rintro σ Hc ⟨av,bv,as,rfl,fr⟩;rw[hxl,bz] at fr;walk_at "rd";refine⟨⟨_,SqL.of fr.rows.top⟩,λp2 n2=>N1 (K:=K) (xs:=as.map V.ref) (a3s Hc p2 n ts) ?_ ?_ ?_ ?_⟩
    ·exact⟨none,[],rfl,(A9.refl Hc).upd n2,n2,(λa ha=>by cases ha),E5.nil A3⟩
    ·rintro i τ H4 _ ⟨_,_,rfl,fr4⟩;exact SqL.of (fr4.same _ _ fr.rows.top)
    ·rintro i v τ H4 hv ⟨c,bs,rfl,fr4⟩ _;have hil:i<n.toNat:=by
      have:=(aq.mp hv).1;rw[ae,fr.rows.len,E8] at this;exact this
     have hri:=C8 (n:=n) (ts:=ts) (v:=(i:Int)) ∅ ∅;rw[bN] at hri;rw[aF] at hv;cases ha:as[i]? with
     | none=>rw[ha] at hv;cases hv
     | some a =>
     rw[ha] at hv;cases aP hv;have hra:=fr4.same _ _ (fr.rows.row i a _ ha hri);walk_at "rd";refine⟨_,.inl (SqL.of hra),λns' l pm hs nl=>?_⟩;have e:ns'=nb ts (i:Int):=a1r pm hs (U6 hok hsr _);subst e;refine⟨_,P8 fr4.rows.top nl,?_,_,bs++[l],rfl,(fr4.same.upd (fr4.same.free nl)).upd n2,n2,λb hb=>?_,?_⟩
     ·rw[ae,fr4.rows.len,aW,E8];exact C0 ∅
     ·rcases aj.mp hb with hb | hb
      ·exact fr4.na b hb
      ·cases ag.mp hb;exact fr4.same.free nl
     ·have:=fr4.rows.snoc nl (r:=nb ts (i:Int));rw[ap] at this;rw[cN,hri];exact this
    ·rintro τ H4 ⟨c,bs,rfl,fr4⟩;rw[ae,fr.rows.len,bz] at fr4;exact q p2 bs H4 (fr.same.trans fr4.same) (fr.same.free n2) (λb hb=>fr.same.free (fr4.na b hb)) fr4.rows
def b2w (H:Hp)(rp al me wl:Addr)(n:Int)(ts:⋯)(ls:List Int)(u:Int)(σ:St)(Hc:Hp):Prop:=∃(ov:Option V) (fs ws:List Int),σ=[some (.ref rp),some (.int u),some (.ref al),some (.ref me),some (.ref wl),ov]/\a0s H Hc me wl fs ws/\a4n n ts (·∈ls) u fs ws/\2*(n.toNat-fs.length)+ws.length<=2*n.toNat
def b0s (H:Hp)(rp al me wl:Addr)(n:Int)(ts:⋯)(ls:List Int)(u v:Int)(m0:Nat)(j:Nat)(σ:St)(Hc:Hp):Prop:=∃(ov:Option V) (fs ws:List Int),σ=[some (.ref rp),some (.int u),some (.ref al),some (.ref me),some (.ref wl),ov]/\a0s H Hc me wl fs ws/\a0i n ts (·∈ls) u fs ws v j/\2*(n.toNat-fs.length)+ws.length<m0
theorem a4G:D0 ["_law_near_here","_law_start","_law_allowed","_law_found","_law_waiting","_law_other"] ["_law_near_here","_law_start","_law_allowed"] (B7 (top 22)):=by walk_at "s"
theorem a8v (F:Fun K "_law_reach" "_law_reach" (top 22) f fd)(B:Bt mg):E1 P w K mg base CX0 1 f fd ["_law_near_here","_law_start","_law_allowed"] (a1M K):=by
 refine F.ok a4G (λvs H Q E h=>?_) (λcdv A outer s H vs Q E hr h=>?_)
 ·walk_at "h"
 ·obtain⟨rp,as,n,ts,al,ls,u,rfl,hR,hok,hn1,htl,hal,u0,u1,q⟩:=h;have nd:=a4G.nd;have hu:=K2 hr
  refine⟨_,(A2 (C6 (i:=3) nd rfl (.inl rfl) (a9W (a8l (pv 1) T3 a9T) rfl rfl (by simp) (by decide)))
    (A2 (C6 (i:=4) nd rfl (.inl rfl) (J3 (A0 (pv 1) A1)))
    (A2 (a0B bK (B4 (a7n K hr.units) (pv 4) (J3 A1) (B5 _))
     (A6 (P6 bK rfl (F0 K (B6 (B8 K) (pv 0) (a9U K (pv 4)) (λ_ _=>rfl))) (A8 (i:=5) nd rfl (.inl rfl))
      (A6 (J6 (PW.pt (X9 (B4 (X3 K) (pv 5) (pv 2) (by walk_at "w")) (U5 (a0X (a1b hu (pv 5) (pv 3))))))
       (A2 (a6p hu (pv 3) (pv 5) T3 rfl)
       (A6 (M9 (N5 K (pv 4) (A0 (pv 5) A1)))))
       C9)))))
    (A6 (B9 (A7 (X8 K hr.hd) (by rfl) B.sorted dq (A0 (pv 3) A1))))))),?_⟩
  walk_at "rd";refine λme nme=>⟨A3,[(dN u,V.bl true)],rfl,Nat.le_of_ble_eq_true rfl,?_⟩
  rw[b4i];refine A5 nme λH1 s1 e1=>⟨by decide,λwl nwl=>A5 nwl λH2 s2 e2=>?_⟩
  have nw:H wl=none:=s1.free nwl;refine a7M (b2w H rp al me wl n ts ls u) (λ_ Hc=>srM n me wl Hc) ⟨none,[u],[u],rfl,⟨s1.trans s2,s2 _ _ e1,e2⟩,a4n.init u0 u1,by simp;omega⟩ ?_ (fun σ H Q Q' h ⟨x,e,z,q⟩=>⟨x,e,z,λp n=>let ⟨d1,d2,x1,x2,x3,x4,k,e2,q2⟩:=q p n;⟨d1,d2,x1,x2,x3,x4,k,e2,h _ _ q2⟩⟩);rintro σ Hc ⟨ov,fs,ws,rfl,sr,sh,hb⟩;refine⟨_,rfl,bo _,λpe ne=>A5 ne λHe se ee=>b4M (ns:=ws) (ms:=[]) (SqL.of (se _ _ sr.wait)) (SqL.of ee) ⟨_,rfl,K7 (λhne=>?_) λhe=>?_⟩⟩
  ·have hw0:ws≠[]:= ~~~hne
   obtain⟨ws',v,rfl⟩:=a6C hw0;have sre:=sr.mono se;obtain⟨hl1,sr1⟩:=sre.pop nw;have sh1:=sh.pop;have hm0:2*(n.toNat-fs.length)+ws'.length<srM n me wl Hc:=by rw[sr.mu,ak,bG];omega
   have hmb:srM n me wl Hc<=2*n.toNat:=by rw[sr.mu];exact hb
   obtain⟨v0,v1⟩:=sh1.rng v sh1.vin;obtain⟨a,a1,a2,a3,a4⟩:=hR.get v0 (C8 v0 v1);have top2:=sr1.same _ _ hR.top;refine⟨_,rfl,_,rfl,.inl ⟨rfl,_,SqL.of sre.wait⟩,wl,_,_,rfl,rfl,sre.wait,hl1,_,_,_,_,rfl,rfl,SqL.of top2,a2,_,rfl,⟨_,SqL.of (sr1.same _ _ a3)⟩,Y6 (K:=K) (xs:=(nb ts v).map V.int) (b0s H rp al me wl n ts ls u v (srM n me wl Hc)) ⟨_,fs,ws',rfl,sr1,sh1,hm0⟩ ?_ ?_ ?_⟩
   ·rintro j σ Hd _ ⟨_,_,_,rfl,sr2,_⟩;exact SqL.of (sr2.same _ _ a3)
   ·rintro j w σ Hd hv ⟨ov,fs,ws,rfl,sr2,sh2,hm2⟩;rw[aF] at hv;cases hy0:(nb ts v)[j]? with
    | none=>rw[hy0] at hv;cases hv
    | some y =>
    rw[hy0] at hv;cases aP hv;have hfl:=R5 sh2.nd sh2.rng;walk_at "rd";have hal2:SqL K Hd al (ls.map V.int)\/SqT K Hd al (ls.map V.int):=hal.elim (λz=>.inl (sr2.same.seq z)) λz=>.inr (sr2.same.seqT z)
    refine a0p hal2 ⟨_,rfl,K7 (λhA=>⟨_,a2H.k (k:=dN y) sr2.met,?_⟩) λhA=>⟨_,fs,ws,rfl,sr2,sh2.skip hy0 (.inl (~~~hA)),hm2⟩⟩;rw[a9x];refine K7 (λhB=>?_) λhB=>⟨_,fs,ws,rfl,sr2,sh2.skip hy0 (.inr (~~~hB)),hm2⟩
    have hyl:y∈ls:= ~~~hA
    have hyf:y∉fs:= ~~~hB
    have sh3:=sh2.add hok hy0 hyl hyf;have hfl3:=R5 sh3.nd sh3.rng;rw[ak,bG] at hfl3;refine⟨_,a4p.k (k:=dN y) sr2.met (a7q ∅),?_⟩;rw[a9R];have hwt:(upd Hd me (.dK (kvI (a7K fs y)))) wl=some (.lst (ws.map V.int)):=by rw[B3 sr2.ne.symm];exact sr2.wait
    have hwl:ws.length<=3000:=∅
    refine⟨.inl ⟨rfl,_,SqL.of hwt⟩,_,hwt,by rw[ae];exact C0 ∅,_,fs++[y],ws++[y],rfl,sr2.add nme nw hyf,sh3,?_⟩;rw[ak,ak,bG];omega
   ·rintro σ Hd ⟨ov,fs,ws,rfl,sr2,sh2,hm2⟩;rw[ae] at sh2;exact⟨⟨_,fs,ws,rfl,sr2,sh2.done (aC _),∅⟩,by rw[sr2.mu];exact hm2⟩
  ·have hw0:ws=[]:= ~~~he
   subst hw0;walk_at "rd";refine⟨fs,.inr (.inr ⟨_,se _ _ sr.met,a8M fs⟩),λns l pm hs nl=>A5 nl λH4 s4 e4=>?_⟩;have s3:=sr.same.trans se;refine q l ns H4 (s3.trans s4) (s3.free nl) e4 (a2w pm hs sh.nd) λx=>?_
   rw[pm.mem_iff];exact sh.fin x
def a6g (K:ah):Sp:=λvs H Q _=>∃(np:Addr) (as:List Addr) (n:Int) (us:⋯) (pl:Addr),vs=[.ref np,.ref pl]/\E5 H np as (G9 n us)/\C4 n us/\H pl=some (.lst ((B0 0 n.toNat).map V.int))/\∀ H',A9 H H'->Q (.bl true) H'
theorem a6l:D0 ["_law_near_here","_law_places"] ["_law_near_here","_law_places"] (B7 (top 23)):=by walk_at "s"
theorem b0d (F:Fun K "_law_hang" "_law_hang" (top 23) f fd)(B:Bt mg)(D1:Df K mg "_law_reach" st1 f1 fd1 ["_law_near_here","_law_start","_law_allowed"])(G1:E1 P w K mg base CX0 1 f1 fd1 ["_law_near_here","_law_start","_law_allowed"] (a1M K)):E1 P w K mg base CX0 2 f fd ["_law_near_here","_law_places"] (a6g K):=by
 refine F.ok a6l (λvs H Q E h=>?_) (λcdv A outer s H vs Q E hr h=>?_)
 ·walk_at "h"
 ·obtain⟨np,as,n,us,pl,rfl,hR,hok,hpl,q⟩:=h;have nd:=a6l.nd;have hu:=K2 hr;refine⟨_,(A6 (B9 (U8 (J0 a3h (A7 (N7 K) (by rfl) B.len ba (A0 (pv 1) A1)) A4 (B5 _)) (S7 (J0 J7 (A7 (N7 K) (by rfl) B.len ba (A0 (C3 G1 D1 hr.m (A0 (pv 0) (A0 (B6 (B8 K) (pv 1) A4 (λ_ _=>rfl)) (A0 (pv 1) A1)))) A1)) (A7 (N7 K) (by rfl) B.len ba (A0 (pv 1) A1)) (B5 _)))))),?_⟩;walk_at "rd";have h3:=hok.n3;have h60:=hok.n60;have hl:=hok.len;refine⟨_,.inl (SqL.of hpl),?_⟩;rw[if_pos (by rw[ae,B1];simp;omega)];have hat:atI ((B0 0 n.toNat).map V.int) 0=some (.int 0):=R0 (j:=0) (by rw[aF,a0W ∅];rfl);refine⟨_,SqL.of hpl,_,hat,np,as,n,us,pl,B0 0 n.toNat,0,rfl,hR,hok.rng,∅,∅,.inl (SqL.of hpl),by decide,∅,λlt zs H5 s5 n5 e5 zsr hzs=>?_⟩;have hz:zs=B0 0 n.toNat:=W9 zsr (V7 _) λx=>by
   rw[hzs,E6];constructor
   ·intro h;have:=h.rng hok.rng (by decide) ∅;omega
   ·intro h;exact hok.reach (by decide) ∅ h.1 ∅
  subst hz;refine⟨lt,rfl,_,.inl (SqL.of e5),_,.inl (SqL.of (s5 _ _ hpl)),?_⟩;rw[decide_eq_true rfl];exact q H5 s5
def a2T (K:ah):Sp:=λvs H Q _=>∃(np:Addr) (as:List Addr) (n:Int) (ts:⋯) (pl:Addr) (us:List Int),vs=[.ref np,.ref pl]/\E5 H np as (G9 n ts)/\L5 n ts/\n<=60/\ts.length<=1000/\H pl=some (.lst (us.map V.int))/\us.Nodup/\(∀ x∈us,0<=x/\x<n)/\∀(b:Bool) (H':Hp),A9 H H'->(b=true↔Hng ts us)->Q (.bl b) H'
theorem a3c:D0 ["_law_near_here","_law_places"] ["_law_near_here","_law_places"] (B7 (top 23)):=by walk_at "s"
theorem a7i (F:Fun K "_law_hang" "_law_hang" (top 23) f fd)(B:Bt mg)(D1:Df K mg "_law_reach" st1 f1 fd1 ["_law_near_here","_law_start","_law_allowed"])(G1:E1 P w K mg base CX0 1 f1 fd1 ["_law_near_here","_law_start","_law_allowed"] (a1M K)):E1 P w K mg base CX0 2 f fd ["_law_near_here","_law_places"] (a2T K):=by
 refine F.ok a3c (λvs H Q E h=>?_) (λcdv A outer s H vs Q E hr h=>?_)
 ·walk_at "h"
 ·obtain⟨np,as,n,ts,pl,us,rfl,hR,hok,h60,hl,hpl,hnd,hus,q⟩:=h;have nd:=a3c.nd;have hu:=K2 hr;refine⟨_,(A6 (B9 (U8 (J0 a3h (A7 (N7 K) (by rfl) B.len ba (A0 (pv 1) A1)) A4 (B5 _)) (S7 (J0 J7 (A7 (N7 K) (by rfl) B.len ba (A0 (C3 G1 D1 hr.m (A0 (pv 0) (A0 (B6 (B8 K) (pv 1) A4 (λ_ _=>rfl)) (A0 (pv 1) A1)))) A1)) (A7 (N7 K) (by rfl) B.len ba (A0 (pv 1) A1)) (B5 _)))))),?_⟩;walk_at "rd";have hul:=R5 hnd hus;refine⟨_,.inl (SqL.of hpl),?_⟩;cases us with
  | nil =>
   rw[if_neg (by simp)];exact q false H (A9.refl H) ⟨λh=>(by cases h),λh=>absurd rfl h.1⟩
  | cons u r =>
   rw[if_pos (by simp)];obtain⟨u0,u1⟩:=hus u (by simp);have hat:atI ((u::r).map V.int) 0=some (.int u):=by show atI (V.int u::r.map V.int) 0=_;unfold atI ixN;simp
   refine⟨_,SqL.of hpl,_,hat,np,as,n,ts,pl,u::r,u,rfl,hR,hok,∅,∅,.inl (SqL.of hpl),u0,u1,λlt zs H5 s5 n5 e5 zsr hzs=>?_⟩;refine⟨lt,rfl,_,.inl (SqL.of e5),_,.inl (SqL.of (s5 _ _ hpl)),q _ H5 s5 ?_⟩;have hsub:zs ⊆ u::r:=λx hx=>((hzs x).mp hx).mem (by simp)
   rw[decide_eq_true_iff,ae,ae];constructor
   ·intro e;have:=b2m (E7 zsr) hsub ∅ hnd;exact X4 hok (by simp) λy hy=>(hzs y).mp (this y hy)
   ·intro h;have h1:=X0 (E7 zsr) hsub;have h2:=X0 hnd (l:=zs) λx hx=>(hzs x).mpr (h.2 u (by simp) x hx)
    omega
def a4C (K:ah):Sp:=λvs H Q _=>∃(x lo hi:Int),vs=[.int x,.int lo,.int hi]/\Q (.bl (decide (lo<=x/\x<=hi))) H
theorem a4N:D0 ["_law_thing","_law_least","_law_most"] ["_law_thing","_law_least","_law_most"] (B7 (top 24)):=by walk_at "s"
theorem a8C (F:Fun K "_law_is_int" "_law_is_int" (top 24) f fd)(B:Bt mg)(C:Bt2 mg):E1 P w K mg base CX0 1 f fd ["_law_thing","_law_least","_law_most"] (a4C K):=by
 refine F.ok a4N (λvs H Q E h=>?_) (λcdv A outer s H vs Q E hr h=>?_)
 ·walk_at "h"
 ·obtain⟨x,lo,hi,rfl,q⟩:=h;have nd:=a4N.nd;have hu:=K2 hr;refine⟨_,(A6 (B9 (U8 (A7 (a8O K) (by rfl) C.isinstance gi (A0 (pv 0) (A0 (a4R (by rfl) B.int kn) A1))) (U8 (b2c (A7 (a8O K) (by rfl) C.isinstance gi (A0 (pv 0) (A0 (a4R (by rfl) C.bool boot_bool) A1)))) (S7 (a8q b1n b1n (pv 1) (pv 0) (pv 2))))))),?_⟩;walk_at "rd";refine⟨_,_,⟨rfl,rfl⟩,_,.int x,true,rfl,?_⟩;rw[if_pos rfl];refine⟨_,_,⟨rfl,rfl⟩,_,.int x,false,rfl,?_⟩;rw[if_pos (show (!false)=true from rfl)];by_cases h1:lo<=x
  ·rw[if_pos (~~~h1)];have:decide (lo<=x/\x<=hi)=decide (x<=hi):=by simp[h1]
   rw[this] at q;exact q
  ·rw[if_neg (~~~h1)];have:decide (lo<=x/\x<=hi)=false:=by simp[h1]
   rw[this] at q;exact q
def a2Q (K:ah):Sp:=λvs H Q _=>∃(w t:Addr) (n:Int) (ts us:⋯),vs=[.ref w,.ref t]/\M0 H w n ts/\C4 n ts/\V3 H t us/\K5 n ts us/\∀ H',A9 H H'->Q (.bl true) H'
def b2G (H:Hp)(w0 t0:Addr)(i:Nat)(σ:St)(Hc:Hp):Prop:=∃ c:Option V,σ=[some (.ref w0),some (.ref t0),c]/\A9 H Hc
def b0z (H:Hp)(p2 w0:Addr)(i:Nat)(τ:St)(Hc:Hp):Prop:=∃ c:Option V,τ=[c,some (.ref w0)]/\A9 H Hc/\Hc p2=some (.lst ((List.replicate i true).map V.bl))
theorem a2Z:D0 ["_law_web","_law_thing","_law_tie"] ["_law_web","_law_thing"] (B7 (top 25)):=by walk_at "s"
theorem a7f (F:Fun K "_law_is_tree" "_law_is_tree" (top 25) f fd)(B:Bt mg)(D1:Df K mg "_law_is_int" st1 f1 fd1 ["_law_thing","_law_least","_law_most"])(G1:E1 P w K mg base CX0 1 f1 fd1 ["_law_thing","_law_least","_law_most"] (a4C K))(D2:Df K mg "_law_near" st2 f2 fd2 ["_law_web"])(G2:E1 P w K mg base CX0 1 f2 fd2 ["_law_web"] a3L)(D3:Df K mg "_law_hang" st3 f3 fd3 ["_law_near_here","_law_places"])(G3:E1 P w K mg base CX0 2 f3 fd3 ["_law_near_here","_law_places"] (a6g K))(C:Bt2 mg):E1 P w K mg base CX0 3 f fd ["_law_web","_law_thing"] (a2Q K):=by
 refine F.ok a2Z (λvs H Q E h=>?_) (λcdv A outer s H vs Q E hr h=>?_)
 ·walk_at "h"
 ·obtain⟨w0,t0,n,ts,us,rfl,hw,hok,ht,T,q⟩:=h;have nd:=a2Z.nd;have hu:=K2 hr
  refine⟨_,(A2 (J6 (PW.pt (a1Y (a0l (U0 (A7 (a8O K) (by rfl) C.isinstance gi (A0 (pv 1) (A0 (a4R (by rfl) B.tuple dz) A1))))) (a3Q (B4 a0E (A7 (N7 K) (by rfl) B.len ba (A0 (pv 1) A1)) (B2 N0 (B6 (C2 K) (pv 0) A4 (λ_ _=>rfl)) A4) (B5 _)))))
     (A6 (B9 T3))
     C9)
    (A2 (P6 bK rfl (S0 K (pv 1)) (A8 (i:=2) nd rfl (.inl rfl))
     (A2 (J6 (PW.pt (a1Y (a0l (U0 (A7 (a8O K) (by rfl) C.isinstance gi (A0 (pv 2) (A0 (a4R (by rfl) B.tuple dz) A1))))) (a1Y (B4 a0E (A7 (N7 K) (by rfl) B.len ba (A0 (pv 2) A1)) A4 (B5 _)) (a3Q (a0l (U0 (A7 (b3d K hr.hd) (by rfl) C.all boot_all (A0 (J8 (own:=["_law_one"]) (fr:=[("_law_web",0)]) rfl (by walk_at "w") (C5 rfl rfl C7) (S0 K (pv 2)) ⟨λ_ _ _ _=>⟨(A8 (i:=0) (show List.Nodup (["_law_one","_law_web"]:List Str) by decide +kernel) rfl (.inl rfl)),J9,(C3 G1 D1 hr.m (A0 (pv 0) (A0 A4 (A0 (B2 N0 (B6 (C2 K) (pv 1) A4 (λ_ _=>rfl)) A4) A1))))⟩⟩) A1))))))))
      (A6 (B9 T3))
      C9)
     (A6 (J6 (B4 (b0h K hr.units) (pv 2) (B6 (C2 K) (pv 0) A4 (λ_ _=>rfl)) (by walk_at "w"))
      (A6 (B9 T3))
      C9))))
    (A2 (J6 (B4 (a7n K hr.units) (E3 (a6A K) (by rfl) B.list iK (A0 (pv 1) A1)) (a1w K hr.hd hr.units (by rfl) B.sorted dq (by rfl) C.set boot_set (A0 (pv 1) A1)) (B5 _))
     (A6 (B9 T3))
     C9)
    (A6 (B9 (C3 G3 D3 hr.m (A0 (C3 G2 D2 hr.m (A0 (E9 (A0 (B6 (C2 K) (pv 0) A4 (λ_ _=>rfl)) (A0 (pv 1) A1))) A1)) (A0 (E3 (a0g hr.hd) (by rfl) B.list iK (A0 (E3 a3y (by rfl) B.range jP (A0 (B6 (C2 K) (pv 0) A4 (λ_ _=>rfl)) A1)) A1)) A1)))))))),?_⟩
  walk_at "rd";have h3:=hok.n3;have h60:=hok.n60;have hl:=hok.len;obtain⟨q0,hw0,htq⟩:=id hw;obtain⟨ps,hp,hps⟩:=id ht;have hlen:=T.len;have huk:=T.ok hok.rng;refine⟨_,_,⟨rfl,rfl⟩,_,.tup hp,true,rfl,?_⟩;rw[if_neg (by decide)];refine⟨_,.inr (SqT.of hp),_,SqT.of hw0,_,rfl,n,rfl,?_⟩;rw[if_neg (by rw[ae,hps.len];simp;omega)];refine⟨_,rfl,t0,rfl,⟨_,SqT.of hp⟩,a0I (K:=K) (xs:=ps.map λx=>V.ref x.1) (b2G H w0 t0) ⟨none,rfl,A9.refl H⟩ ?_ ?_ ?_⟩
  ·rintro i σ Hc _ ⟨_,rfl,sc⟩;exact SqT.of (sc _ _ hp)
  ·rintro i v σ Hc hv ⟨c,rfl,sc⟩;obtain⟨b,t,rfl,hti,hb⟩:=hps.get hv;have hbc:=sc _ _ hb;have htm:=aG hti;walk_at "rd";refine⟨_,_,⟨rfl,rfl⟩,_,.tup hbc,true,rfl,?_⟩;rw[if_neg (by decide)];refine⟨_,.inr (SqT.of hbc),?_⟩;rw[if_neg (by simp)];obtain⟨t1,t2,t3⟩:=huk t htm;refine⟨⟨_,SqT.of hbc⟩,λp2 n2=>a2j (K:=K) (xs:=[V.int t.1,V.int t.2]) (b0z Hc p2 w0) ⟨none,rfl,(A9.refl Hc).upd n2,A3⟩ ?_ ?_ ?_⟩
   ·rintro j τ Hd _ ⟨_,rfl,sd,_⟩;exact SqT.of (sd _ _ hbc)
   ·rintro j v τ Hd hv ⟨c2,rfl,sd,hd⟩;obtain⟨x,rfl,x0,x1⟩:∃ x:Int,v=.int x/\0<=x/\x<n:=by
     have hm:=aG hv;simp only[aJ,bJ,or_false] at hm;rcases hm with rfl | rfl
     ·exact⟨t.1,rfl,∅,∅⟩
     ·exact⟨t.2,rfl,∅,∅⟩
    have hjl:j<2:=(aq.mp hv).1;walk_at "rd";refine⟨_,SqT.of (sd _ _ (sc _ _ hw0)),_,rfl,n,rfl,x,0,n-1,rfl,?_⟩;have e:decide (0<=x/\x<=n-1)=true:=by simp;omega
    rw[e];refine⟨_,hd,by rw[ae,dF];exact C0 ∅,_,rfl,sd.upd n2,?_⟩;rw[A3,eM,ap];rfl
   ·rintro τ H2 ⟨c2,rfl,sd,hd⟩;refine⟨_,SqL.of hd,?_⟩;rw[if_neg (by simp)];refine⟨_,SqT.of (sd _ _ (sc _ _ hw0)),_,rfl,?_⟩;refine a7m (t:=t) (SqT.of (sd _ _ hbc)) (htq.tp (sc.trans sd).tp) ⟨_,rfl,K7 (λh=>absurd (T.sub t htm) (~~~h)) λ_=>⟨_,rfl,sc.trans sd⟩⟩
  ·rintro σ Hc ⟨c,rfl,sc⟩;walk_at "rd";refine⟨_,.inr (SqT.of (sc _ _ hp)),λl nl=>A5 nl λH2 s2 e2=>?_⟩;have s02:=sc.trans s2;have hps2:=hps.tp s02.tp;refine⟨ps,.inr (SqT.of (s02 _ _ hp)),us,hps2,λt ht'=>?_,∅,λps' ts' l1 hps' hlx hmem n1=>?_⟩
   ·obtain⟨t1,t2,t3⟩:=huk t ht';omega
   have ets:ts'=us:=a1J hlx T.srt hmem;subst ets;refine A5 n1 λH3 s3 e3=>b4L (s3 _ _ e2) (hps2.tp s3.tp) e3 (hps'.tp s3.tp) ⟨_,rfl,K7 (λh=>absurd h (by decide)) λ_=>?_⟩
   have s03:=s02.trans s3;refine⟨_,SqT.of (s03 _ _ hw0),_,rfl,by decide,λwp nwp=>A5 nwp λH4 s4 e4=>?_⟩;have s04:=s03.trans s4;refine⟨wp,n,ts',rfl,⟨t0,e4,ht.tp s04.tp⟩,∅,∅,∅,huk,T.srt,λnp as H5 s5 nnp nas hR=>?_⟩;have s05:=s04.trans s5;refine⟨_,SqT.of (s05 _ _ hw0),_,rfl,n,rfl,λpr npr=>A5 npr λH6 s6 e6=>⟨0,n,e6,⟨by decide,by decide,∅,∅⟩,∅,λpl npl=>A5 npl λH7 s7 e7=>?_⟩⟩;rw[Int.sub_zero] at e7;exact⟨np,as,n,ts',pl,rfl,hR.same (s6.trans s7),T.web hok,e7,λH8 s8=>q H8 (((s05.trans s6).trans s7).trans s8)⟩
def P2 (kind one a b:Int):Bool :=
 if decide (kind=0)=true then decide (b=a+1)
 else if decide (kind=1)=true then decide (b=a+1) || (decide (a=0) && decide (b=one-1))
 else if decide (kind=2)=true then true
 else if decide (kind=3)=true then decide (a<one) && decide (one<=b)
 else if decide (kind=4)=true then (decide (b=a+1) && decide (b<one)) || (decide (a<one) && decide (b=a+one))
 else (decide (b=a+1) && !decide (b=one)) || decide (b=a+one)
def a4A:Sp:=λvs H Q _=>∃ kind one a b:Int,vs=[.int kind,.int one,.int a,.int b]/\Q (.bl (P2 kind one a b)) H
theorem a4K:D0 ["_law_kind","_law_one","_law_a","_law_b"] ["_law_kind","_law_one","_law_a","_law_b"] (B7 (top 26)):=by walk_at "s"
theorem a8z (F:Fun K "_law_tied" "_law_tied" (top 26) f fd)(B:Bt mg):E1 P w K mg base CX0 1 f fd ["_law_kind","_law_one","_law_a","_law_b"] a4A:=by
 refine F.ok a4K (λvs H Q E h=>?_) (λcdv A outer s H vs Q E hr h=>?_)
 ·walk_at "h"
 ·obtain⟨kind,one,a,b,rfl,q⟩:=h;have nd:=a4K.nd;have hu:=K2 hr
  refine⟨_,(A2 (J6 (B4 J7 (pv 0) A4 (B5 _))
     (A6 (B9 (J0 J7 (pv 3) (B2 K3 (pv 2) A4) (B5 _))))
     C9)
    (A2 (J6 (B4 J7 (pv 0) A4 (B5 _))
     (A6 (B9 (a8n (J0 J7 (pv 3) (B2 K3 (pv 2) A4) (B5 _)) (S7 (U8 (J0 J7 (pv 2) A4 (B5 _)) (S7 (J0 J7 (pv 3) (B2 N0 (pv 1) A4) (B5 _))))))))
     C9)
    (A2 (J6 (B4 J7 (pv 0) A4 (B5 _))
     (A6 (B9 T3))
     C9)
    (A2 (J6 (B4 J7 (pv 0) A4 (B5 _))
     (A6 (B9 (U8 (J0 a8t (pv 2) (pv 1) (B5 _)) (S7 (J0 b1o (pv 3) (pv 1) (B5 _))))))
     C9)
    (A2 (J6 (B4 J7 (pv 0) A4 (B5 _))
     (A6 (B9 (a8n (U8 (J0 J7 (pv 3) (B2 K3 (pv 2) A4) (B5 _)) (S7 (J0 a8t (pv 3) (pv 1) (B5 _)))) (S7 (U8 (J0 a8t (pv 2) (pv 1) (B5 _)) (S7 (J0 J7 (pv 3) (B2 K3 (pv 2) (pv 1)) (B5 _))))))))
     C9)
    (A6 (B9 (a8n (U8 (J0 J7 (pv 3) (B2 K3 (pv 2) A4) (B5 _)) (S7 (J0 a0E (pv 3) (pv 1) (B5 _)))) (S7 (J0 J7 (pv 3) (B2 K3 (pv 2) (pv 1)) (B5 _))))))))))),?_⟩
  walk_at "rd";unfold P2 at q;generalize decide (kind=0)=k0 at q ⊢;generalize decide (kind=1)=k1 at q ⊢;generalize decide (kind=2)=k2 at q ⊢;generalize decide (kind=3)=k3 at q ⊢;generalize decide (kind=4)=k4 at q ⊢;generalize decide (b=a+1)=d1 at q ⊢;generalize decide (a=0)=d2 at q ⊢;generalize decide (b=one-1)=d3 at q ⊢;generalize decide (a<one)=d4 at q ⊢;generalize decide (one<=b)=d5 at q ⊢;generalize decide (b<one)=d6 at q ⊢;generalize decide (b=a+one)=d7 at q ⊢;generalize decide (b=one)=d8 at q ⊢;cases k0
  ·cases k1
   ·cases k2
    ·cases k3
     ·cases k4
      ·cases d1<;>cases d8<;>exact q
      ·cases d1<;>cases d6<;>cases d4<;>exact q
     ·cases d4<;>exact q
    ·exact q
   ·cases d1<;>cases d2<;>exact q
  ·exact q
def b1p (kind one other:Int):Option V:=atI [.int one,.int one,.int one,.int (one+other),.int (2*one),.int (2*one)] kind
def kR (kind one:Int)(a:Nat)(m:Nat):⋯:=((B0 ((a:Int)+1) m).filter (P2 kind one a)).map λb=>((a:Int),b)
def kT (kind one:Int)(n:Nat)(i:Nat):⋯:=(List.range i).flatMap λa=>kR kind one a (n-(a+1))
theorem a5O {kind one:Int}{a m:Nat}:(kR kind one a m).length<=m:=by
 unfold kR;rw[ae];refine bH (bu ..) ?_;rw[B1];exact aC _
theorem a6G {kind one:Int}{n i:Nat}:kT kind one n (i+1)=kT kind one n i++kR kind one i (n-(i+1)):=by
 unfold kT;rw[cO,fT,jz]
theorem b2t {kind one:Int}{n i:Nat}:(kT kind one n i).length<=i*n:=by
 induction i with
 | zero=>exact bo _
 | succ i ih =>
  rw[a6G,ak,fe];have:=a5O (kind:=kind) (one:=one) (a:=i) (m:=n-(i+1));omega
def a4B (K:ah):Sp:=λvs H Q _=>∃(kind one other:Int) (n:Nat),vs=[.int kind,.int one,.int other]/\b1p kind one other=some (.int n)/\0<=one/\one<=1000/\n<=200 /\
 ∀(p q:Addr) (H':Hp),A9 H H'->H p=none->H' p=some (.tup [.int n,.ref q])->V3 H' q (kT kind one n n)->Q (.ref p) H'
def b2A (Hb:Hp)(kind one other:Int)(n:Nat)(i:Nat)(σ:St)(Hc:Hp):Prop:=∃(tp:Addr) (av:Option V) (ps:List (Addr×List Int)),σ=[some (.int kind),some (.int one),some (.int other),some (.int n),some (.ref tp),av]/\A9 Hb Hc/\Hc tp=some (.lst (ps.map λx=>V.ref x.1))/\M7 Hc ps (kT kind one n i)
def b2C (Hb:Hp)(l:Addr)(kind one:Int)(a:Nat)(i:Nat)(τ:St)(Hc:Hp):Prop:=∃(c:Option V) (ps:List (Addr×List Int)),τ=[c,some (.int a),some (.int kind),some (.int one)]/\A9 Hb Hc/\Hc l=some (.lst (ps.map λx=>V.ref x.1))/\M7 Hc ps (kR kind one a i)
theorem a4L:D0 ["_law_kind","_law_one","_law_other","_law_places","_law_ties","_law_a"] ["_law_kind","_law_one","_law_other"] (B7 (top 27)):=by walk_at "s"
theorem a8A (F:Fun K "_law_kind_web" "_law_kind_web" (top 27) f fd)(B:Bt mg)(D1:Df K mg "_law_tied" st1 f1 fd1 ["_law_kind","_law_one","_law_a","_law_b"])(G1:E1 P w K mg base CX0 1 f1 fd1 ["_law_kind","_law_one","_law_a","_law_b"] a4A):E1 P w K mg base CX0 2 f fd ["_law_kind","_law_one","_law_other"] (a4B K):=by
 refine F.ok a4L (λvs H Q E h=>?_) (λcdv A outer s H vs Q E hr h=>?_)
 ·walk_at "h"
 ·obtain⟨kind,one,other,n,rfl,hn,ho0,ho1,hn2,q0⟩:=h;have nd:=a4L.nd;have hu:=K2 hr
  refine⟨_,(A2 (C6 (i:=3) nd rfl (.inl rfl) (B6 (B8 K) (J3 (A0 (pv 1) (A0 (pv 1) (A0 (pv 1) (A0 (B2 K3 (pv 1) (pv 2)) (A0 (B2 N6 A4 (pv 1)) (A0 (B2 N6 A4 (pv 1)) A1))))))) (pv 0) (λ_ _=>rfl)))
    (A2 (C6 (i:=4) nd rfl (.inl rfl) (J3 A1))
    (A2 (P6 bK rfl (O0 (by rfl) B.range (A0 (pv 3) A1)) (A8 (i:=5) nd rfl (.inr rfl))
     (A6 (C6 (i:=4) nd rfl (.inl rfl) (B2 S8 (pv 4) (J8 (own:=["_law_b"]) (fr:=[("_law_a",5),("_law_kind",0),("_law_one",1)]) rfl (by walk_at "w") (C5 rfl rfl (C5 rfl rfl (C5 rfl rfl C7))) (a1a (by rfl) B.range (A0 (B2 K3 (pv 5) A4) (A0 (pv 3) A1))) ⟨λ_ _ _ _=>⟨(A8 (i:=0) (show List.Nodup (["_law_b","_law_a","_law_kind","_law_one"]:List Str) by decide +kernel) rfl (.inl rfl)),(M8 (U0 (C3 G1 D1 hr.m (A0 (pv 2) (A0 (pv 3) (A0 (pv 1) (A0 (pv 0) A1))))))),(E9 (A0 (pv 1) (A0 (pv 0) A1)))⟩⟩)))))
    (A6 (B9 (E9 (A0 (pv 3) (A0 (E3 (S6 K) (by rfl) B.tuple dz (A0 (pv 4) A1)) A1)))))))),?_⟩
  walk_at "rd";refine⟨.inl ⟨by decide,by decide⟩,.inl ⟨by decide,by decide⟩,by decide,λp1 np1=>A5 np1 λH1 s1 e1=>⟨_,SqL.of e1,_,hn,by decide,λtp ntp=>A5 ntp λH2 s2 e2=>?_⟩⟩;rw[U4];walk_at "rd";have s02:=s1.trans s2;refine⟨∅,∅,Z4 (lo:=0) (n:=n) (b2A H kind one other n) ⟨tp,none,[],rfl,s02,e2,⟨λx hx=>(by cases hx),rfl⟩⟩ ?_ ?_⟩
  ·rintro i σ Hc hi ⟨tp,av,ps,rfl,sc,hc,hps⟩;have pl:=hps.len;have kl:=b2t (kind:=kind) (one:=one) (n:=n) (i:=i);have k2:i*n<=200*200:=Nat.mul_le_mul ∅ hn2;walk_at "rd";refine⟨_,_,⟨rfl,rfl⟩,⟨∅,∅,∅,∅⟩,λl nl=>?_⟩;rw[iH,show ((n:Int)-((i:Int)+1)).toNat=n-(i+1) by omega];refine S4 (b2C Hc l kind one i) ⟨none,[],rfl,(A9.refl Hc).upd nl,A3,⟨λx hx=>(by cases hx),rfl⟩⟩ ?_ ?_
   ·rintro j τ Hd hj ⟨c,qs,rfl,sd,hd,hqs⟩;have ql:=hqs.len;have kl2:=a5O (kind:=kind) (one:=one) (a:=i) (m:=j);walk_at "rd";refine⟨_,_,_,_,rfl,⟨_,rfl,?_⟩⟩;have er:kR kind one i (j+1)=kR kind one i j++if P2 kind one i ((i:Int)+1+j)=true then [((i:Int),(i:Int)+1+j)] else []:=by
     unfold kR;rw[show B0 ((i:Int)+1) (j+1)=B0 ((i:Int)+1) j++[(i:Int)+1+j] by unfold B0;rw[cO,ap];rfl,bA,ap];congr 1;by_cases h:P2 kind one i ((i:Int)+1+j)=true
     ·rw[if_pos h,a4d _ h];rfl
     ·rw[if_neg h,a6K _ (~~~h)];rfl
    refine K7 (λh=>⟨by decide,λpq nq=>⟨_,P8 hd nq,by rw[ae];exact C0 ∅,_,qs++[(pq,tl ((i:Int),(i:Int)+1+j))],rfl,(sd.upd (sd.free nq)).upd nl,by rw[A3,ap];rfl,?_⟩⟩) λh=>⟨_,qs,rfl,sd,hd,?_⟩
    ·rw[er,if_pos h];refine (hqs.tp ((Tp.nw nq).trans (Tp.lst (P8 hd nq)))).snoc ?_;rw[B3 (E4 hd nq).symm,A3]
    ·rw[er,if_neg h,bp];exact hqs
   ·rintro τ Hd ⟨c,qs,rfl,sd,hd,hqs⟩;have ql:=hqs.len;have kl2:=a5O (kind:=kind) (one:=one) (a:=i) (m:=n-(i+1));refine⟨tp,l,_,_,rfl,rfl,sd _ _ hc,hd,by rw[ae,ae];exact dv (C0 ∅),λl2 nl2=>A5 nl2 λHe se ee=>⟨l2,_,ps++qs,rfl,(sc.trans sd).trans se,by rw[ee,ap],?_⟩⟩;rw[a6G];exact (hps.tp (sd.trans se).tp).cat (hqs.tp se.tp)
  ·rintro σ Hc ⟨tp,av,ps,rfl,sc,hc,hps⟩;walk_at "rd";refine⟨_,.inl ⟨SqL.of hc,λq nq=>A5 nq λHd sd ed=>⟨by decide,λp np=>A5 np λHe se ee=>?_⟩⟩⟩;exact q0 p q He ((sc.trans sd).trans se) ((sc.trans sd).free np) ee ⟨ps,se _ _ ed,hps.tp (sd.trans se).tp⟩
def a1p (K:ah):Sp:=λvs H Q _=>∃(w:Addr) (n:Int) (ts:⋯),vs=[.ref w]/\M0 H w n ts/\C4 n ts/\∀ H',A9 H H'->Q (.bl true) H'
def a4m (k:Kd)(us:⋯):PyData:=.tuple [.str k.w,.tuple ((us.map tl).map tI)]
theorem b3c (k:Kd)(us:⋯):SeqAt.shaped (a4m k us)=true/\PyData.eqv (a4m k us) (a4m k us)=true:=by
 constructor
 ·have s2:=a0T (us.map tl);have e1:=W3 (us.map tl);have es:PyData.strOk k.w=true:=by cases k<;>decide +kernel
  unfold SeqAt.shaped a4m at *
  rw[bU,decide_eq_true_iff] at s2 ⊢;refine⟨?_,?_⟩
  ·rw[PyData.canLay0,PyData.canLayAll0,PyData.canLayAll0,PyData.canLayAll0,s2.1,PyData.canLay0,es];rfl
  ·rw[PyData.depth,PyData.depthAll,PyData.depthAll,PyData.depthAll,PyData.depth];simp only[PyData.depth] at *
   omega
 ·have e2:PyData.eqv (.tuple ((us.map tl).map tI)) (.tuple ((us.map tl).map tI))=true:=by rw[PyData.eqv,a4e];exact decide_eq_true rfl
  unfold a4m;rw[PyData.eqv,PyData.eqvAll,PyData.eqvAll,PyData.eqvAll,e2];simp[PyData.eqv]
theorem a1u:D0 ["_law_web","_law_near_here","_law_due","_law_found","_law_leaves"] ["_law_web"] (B7 (top 31)):=by walk_at "s"
theorem a4V (F:Fun K "_law_right" "_law_right" (top 31) f fd)(B:Bt mg)(D1:Df K mg "_law_near" st1 f1 fd1 ["_law_web"])(G1:E1 P w K mg base CX0 1 f1 fd1 ["_law_web"] a3L)(D2:Df K mg "_law_kind_of" st2 f2 fd2 ["_law_web","_law_near_here"])(G2:E1 P w K mg base CX0 3 f2 fd2 ["_law_web","_law_near_here"] (a1N K))(D3:Df K mg "at_once" st3 f3 fd3 ["web"])(G3:E1 P w K mg base CX0 4 f3 fd3 ["web"] (a2V K))(D4:Df K mg "_law_is_tree" st4 f4 fd4 ["_law_web","_law_thing"])(G4:E1 P w K mg base CX0 3 f4 fd4 ["_law_web","_law_thing"] (a2Q K))(D5:Df K mg "_law_leaves_due" st5 f5 fd5 ["_law_word","_law_near_here"])(G5:E1 P w K mg base CX0 1 f5 fd5 ["_law_word","_law_near_here"] (Z9 K))(C:Bt2 mg):E1 P w K mg base CX0 5 f fd ["_law_web"] (a1p K):=by
 refine F.ok a1u (λvs H Q E h=>?_) (λcdv A outer s H vs Q E hr h=>?_)
 ·walk_at "h"
 ·obtain⟨w0,n,ts,rfl,hw,W,q0⟩:=h;have nd:=a1u.nd;have hu:=K2 hr
  refine⟨_,(A2 (C6 (i:=1) nd rfl (.inl rfl) (C3 G1 D1 hr.m (A0 (pv 0) A1)))
    (A2 (C6 (i:=2) nd rfl (.inl rfl) (C3 G2 D2 hr.m (A0 (pv 0) (A0 (pv 1) A1))))
    (A2 (C6 (i:=3) nd rfl (.inl rfl) (C3 G3 D3 hr.m (A0 (pv 0) A1)))
    (A2 (J6 (a0X (a5E (pv 2)))
     (A6 (B9 (b2d (a5E (pv 3)))))
     C9)
    (A2 (J6 (PW.pt (a1Y (a0l (U0 (A7 (a8O K) (by rfl) C.isinstance gi (A0 (pv 3) (A0 (a4R (by rfl) B.tuple dz) A1))))) (a1Y (B4 a0E (A7 (N7 K) (by rfl) B.len ba (A0 (pv 3) A1)) A4 (B5 _)) (a1Y (B4 a0E (B6 (C2 K) (pv 3) A4 (λ_ _=>rfl)) (pv 2) (B5 _)) (a3Q (a0l (U0 (C3 G4 D4 hr.m (A0 (pv 0) (A0 (B6 (C2 K) (pv 3) A4 (λ_ _=>rfl)) A1))))))))))
     (A6 (B9 T3))
     C9)
    (A2 (L0 (i:=4) (own:=["_law_row"]) (fr:=[]) rfl nd rfl rfl (by walk_at "w") (by walk_at "w") C7 (F0 K (C3 G1 D1 hr.m (A0 (E9 (A0 (B6 (C2 K) (pv 0) A4 (λ_ _=>rfl)) (A0 (B6 (C2 K) (pv 3) A4 (λ_ _=>rfl)) A1))) A1))) ⟨λ_ _ _ _=>⟨(A8 (i:=0) (show List.Nodup (["_law_row"]:List Str) by decide +kernel) rfl (.inl rfl)),(M8 (B4 J7 (A7 (N7 K) (by rfl) B.len ba (A0 (pv 0) A1)) A4 (B5 _))),(pv 0)⟩⟩)
    (A6 (B9 (U8 (J0 J7 (A7 (N7 K) (by rfl) B.len ba (A0 (pv 4) A1)) (C3 G5 D5 hr.m (A0 (pv 2) (A0 (pv 1) A1))) (B5 _)) (S7 (J0 (a7B K hr.units) (C3 G3 D3 hr.m (A0 (pv 0) A1)) (pv 3) (B5 _)))))))))))),?_⟩
  walk_at "rd";have h3:=W.n3;have h60:=W.n60;have hl:=W.len;obtain⟨q,hq,htq⟩:=id hw;refine⟨w0,n,ts,rfl,hw,∅,∅,∅,W.rng,W.srt,λp as H1 s1 np na R=>?_⟩;refine⟨w0,n,ts,p,as,rfl,hw.tp s1.tp,W,R,λH2 s2=>?_⟩;have s12:=s1.trans s2;refine⟨w0,n,ts,rfl,hw.tp s12.tp,W,λhk H3 s3=>?_,λk hk f t us H3 s3 ef ht O=>?_⟩
  ·dsimp only;rw[hk,show kwV none=V.non from rfl,if_pos (by decide)];exact q0 H3 (s12.trans s3)
  have s13:=s12.trans s3;have R3:=(R.same s2).same s3;dsimp only;rw[hk,show kwV (some k)=V.str k.w from rfl,if_neg (by simp)];refine⟨_,_,⟨rfl,rfl⟩,_,.tup ef,true,rfl,?_⟩;rw[if_neg (by decide)];refine⟨f,rfl,_,.inr (SqT.of ef),?_⟩;rw[if_neg (by simp)];refine⟨f,rfl,_,SqT.of ef,_,rfl,rfl,?_⟩;rw[if_neg (by simp)];refine⟨f,rfl,_,SqT.of ef,_,rfl,w0,t,n,ts,us,rfl,hw.tp s13.tp,W,ht,O.tree,λH4 s4=>⟨_,rfl,?_⟩⟩;rw[if_neg (by decide)];have s14:=s13.trans s4;have Wu:=O.tree.web W;refine⟨_,SqT.of (s14 _ _ hq),_,rfl,f,rfl,_,SqT.of (s4 _ _ ef),_,rfl,by decide,λp5 np5=>A5 np5 λH5 s5 e5=>?_⟩;refine⟨p5,n,us,rfl,⟨t,e5,ht.tp (s4.trans s5).tp⟩,∅,∅,by have:=Wu.len;omega,Wu.rng,Wu.srt,λp6 bs H6 s6 np6 na6 R6=>⟨p6,rfl,⟨_,SqL.of R6.top⟩,λl1 nl1=>N1 (K:=K) (xs:=bs.map V.ref) (a8S H6 l1 us) ⟨none,[],rfl,(A9.refl H6).upd nl1,A3,rfl⟩ ?_ ?_ ?_⟩⟩
  ·rintro i τ Hc _ ⟨_,_,rfl,sc,_⟩;exact SqL.of (sc _ _ R6.top)
  ·rintro i v τ Hc hv ⟨c,vs,rfl,sc,hc,hvl⟩ _;have rlen:=R6.len;rw[E8] at rlen;have hi:i<n.toNat:=by have:=(aq.mp hv).1;rw[ae] at this;omega
   obtain⟨a,e1,_,e2,_⟩:=R6.get (v:=(i:Int)) ∅ (C8 (n:=n) (ts:=us) (v:=(i:Int)) ∅ ∅);rw[bN] at e1;rw[aF,e1] at hv;cases hv;have ll:=a8J (ts:=us) (i:=i);walk_at "rd";refine⟨_,.inl (SqL.of (sc _ _ e2)),?_⟩;rw[ae];refine K7 (λh=>⟨_,hc,C0 ∅,_,_,rfl,sc.upd nl1,A3,?_⟩) λh=>⟨_,vs,rfl,sc,hc,?_⟩
   ·rw[a1G,if_pos (by have:=of_decide_eq_true h;omega),ak,hvl];rfl
   ·rw[a1G,if_neg (λe=>h (decide_eq_true ∅)),hvl];rfl
  ·rintro τ H7 ⟨c,vs,rfl,s7,hc,hvl⟩;rw[ae,R6.len,E8] at hvl;have s47:=s4.trans (s5.trans (s6.trans s7));have hvl:vs.length=(N8 n us).length:=hvl;refine⟨_,.inl (SqL.of hc),n,ts,k,p,as,rfl,∅,h60,R3.same s47,λH8 s8=>⟨rfl,?_⟩⟩;rw[if_pos (by rw[hvl,O.due];exact decide_eq_true rfl)];have s48:=s47.trans s8;have s18:=s13.trans s48;refine⟨w0,n,ts,rfl,hw.tp s18.tp,W,λhk'=>(by rw[hk] at hk';cases hk'),λk' hk' f' t' us' H9 s9 ef' ht' O'=>?_⟩;rw[hk] at hk';cases hk';have eu:=O'.eq O;subst eu;obtain⟨a1,a2⟩:=b3c k us';refine⟨a4m k us',a4m k us',.tup (SqT.of ef') (.cons (.str _) (.cons ht'.dt .nil)),.tup (SqT.of ((s48.trans s9) _ _ ef)) (.cons (.str _) (.cons (ht.tp (s48.trans s9).tp).dt .nil)),a1,a1,?_⟩;show Q (V.bl (PyData.eqv (a4m k us') (a4m k us'))) H9;rw[a2];exact q0 H9 (s18.trans s9)
def SzR (kind a b:Int):Prop:=(kind=3/\1<=a/\1<=b/\a*b<=200/\3<=a+b/\a+b<=60)\/((kind=0\/kind=1)/\3<=a/\a<=60/\b=0)\/(kind=2/\3<=a/\a<=20/\b=0)\/((kind=4\/kind=5)/\2<=a/\a<=30/\b=0)
theorem Y3 {f:Int}{n:Nat}{x:Int}:x∈B0 f n↔f<=x/\x<f+n:=by
 unfold B0;simp only[aR,bh];exact⟨λ⟨i,hi,e⟩=>∅,λ⟨h,h'⟩=>⟨(x-f).toNat,∅,∅⟩⟩
theorem b3S {f:Int}{n:Nat}:(B0 f n).Pairwise (·<·):=by
 unfold B0;rw[bT];exact cE.imp λh=>∅
theorem U9 {kind one:Int}{n:Nat}{t:Int×Int}:t∈kT kind one n n↔0<=t.1/\t.1<t.2/\t.2<n/\P2 kind one t.1 t.2=true:=by
 unfold kT kR;simp only[dP,bh,aR,aS,Y3];constructor
 ·rintro⟨a,ha,b,⟨⟨h1,h2⟩,h3⟩,rfl⟩;exact⟨∅,∅,∅,h3⟩
 ·rintro⟨h1,h2,h3,h4⟩;refine⟨t.1.toNat,∅,t.2,⟨⟨∅,∅⟩,?_⟩,?_⟩
  ·rw[aY h1];exact h4
  ·rw[aY h1]
theorem a3Z {kind one:Int}{n:Nat}:(kT kind one n n).Pairwise Lex:=by
 unfold kT;rw[jE];refine⟨λa _=>?_,cE.imp λ{a b} h x hx y hy=>?_⟩
 ·unfold kR;rw[bT];exact (b3S.filter _).imp λh=>.inr ⟨rfl,h⟩
 ·unfold kR at hx hy;obtain⟨_,_,rfl⟩:=aR.mp hx;obtain⟨_,_,rfl⟩:=aR.mp hy;exact .inl (by show (a:Int)<b;omega)
theorem a3q {kind one:Int}{n:Nat}{l:⋯}(h:∀ t∈kT kind one n n,t∈l)(hl:l.length<=200):(kT kind one n n).length<=200:=bH (a0F (Q0 a3Z) h) hl
theorem a7O {kind a b:Int}(h:SzR kind a b):∃ n:Nat,b1p kind a b=some (.int n)/\C4 n (kT kind a n n)/\0<=a/\a<=60:=by
 have mk:∀ n:Nat,3<=n->n<=60->(kT kind a n n).length<=200->(∀ S:Int->Prop,(∀ t∈kT kind a n n,S t.1↔S t.2)->∀ v:Int,0<=v->v<n->(S v↔S 0))->C4 n (kT kind a n n):=λn h3 h60 hl hc =>
  ⟨∅,∅,λt ht=>by have:=U9.mp ht;omega,a3Z,hl,λS hS u v u0 u1 v0 v1 k=>(hc S hS v v0 v1).mpr ((hc S hS u u0 u1).mp k)⟩
 have grow:∀ n:Nat,(∀ v:Int,1<=v->v<n->∃ x:Int,0<=x/\x<v/\P2 kind a x v=true)->∀ S:Int->Prop,(∀ t∈kT kind a n n,S t.1↔S t.2)->∀ v:Int,0<=v->v<n->(S v↔S 0):=λn hg S hS v v0 v1=>by
  have key:∀ m:Nat,∀ v:Int,v.toNat<=m->0<=v->v<n->(S v↔S 0):=λm=>by
   induction m with
   | zero=>intro v hv v0 _;rw[show v=0 by omega]
   | succ m ih =>
    intro v hv v0 v1;by_cases e:v=0
    ·rw[e]
    ·obtain⟨x,x0,x1,ht⟩:=hg v ∅ v1;exact (hS (x,v) (U9.mpr ⟨x0,x1,v1,ht⟩)).symm.trans (ih x ∅ x0 ∅)
  exact key v.toNat v (aC _) v0 v1
 have rw1:∀ {n:Nat} {t:Int×Int},0<=t.1->t.1<n->t.2=t.1+1->t∈(B0 0 n).map λx=>(x,x+1):=λ{n t} h1 h2 h3=>aR.mpr ⟨t.1,Y3.mpr ⟨h1,∅⟩,fI rfl h3.symm⟩
 rcases h with ⟨rfl,h1,h2,h3,h4,h5⟩ | ⟨rfl | rfl,h1,h2,rfl⟩ | ⟨rfl,h1,h2,rfl⟩ | ⟨rfl | rfl,h1,h2,rfl⟩
 ·refine⟨(a+b).toNat,by rw[aY ∅];rfl,mk _ ∅ ∅ (a3q (l:=(B0 0 a.toNat).flatMap λx=>(B0 a b.toNat).map λy=>(x,y)) (λt ht=>?_) ?_) λS hS v v0 v1=>?_,∅,∅⟩
  ·obtain⟨t1,t2,t3,t4⟩:=U9.mp ht;unfold P2 at t4;simp at t4;exact List.mem_flatMap.mpr ⟨t.1,Y3.mpr ∅,aR.mpr ⟨t.2,Y3.mpr ∅,rfl⟩⟩
  ·have:∀ L:List Int,(L.flatMap λx=>(B0 a b.toNat).map λy=>(x,y)).length=L.length*b.toNat:=λL=>by
    induction L with
    | nil=>simp
    | cons x L ih=>rw[fB,ak,ae,B1,ih,aD,fe];omega
   rw[this,B1];have:((a.toNat*b.toNat:Nat):Int)<=200:=by rw[Int.natCast_mul,aY ∅,aY ∅];exact h3
   omega
  ·have tie:∀ x y:Int,0<=x->x<a->a<=y->y<a+b->(S x↔S y):=λx y x0 x1 y0 y1=>hS (x,y) (U9.mpr ⟨x0,by show x<y;omega,by show y<_;omega,by show P2 3 a x y=true;unfold P2;simp<;>omega⟩)
   by_cases c:v<a
   ·exact (tie v a v0 c (h7 a) ∅).trans (tie 0 a ∅ ∅ (h7 a) ∅).symm
   ·exact (tie 0 v ∅ ∅ ∅ ∅).symm
 ·refine⟨a.toNat,by rw[aY ∅];rfl,mk _ ∅ ∅ (a3q (l:=(B0 0 a.toNat).map λx=>(x,x+1)) (λt ht=>?_) (by rw[ae,B1];omega)) (grow _ λv v0 v1=>⟨v-1,∅,∅,by unfold P2;simp<;>omega⟩),∅,∅⟩;obtain⟨t1,t2,t3,t4⟩:=U9.mp ht;unfold P2 at t4;simp at t4;exact rw1 t1 ∅ t4
 ·refine⟨a.toNat,by rw[aY ∅];rfl,mk _ ∅ ∅ (a3q (l:=((B0 0 a.toNat).map λx=>(x,x+1))++[(0,a-1)]) (λt ht=>?_) (by rw[ak,ae,B1];simp;omega)) (grow _ λv v0 v1=>⟨v-1,∅,∅,by unfold P2;simp<;>omega⟩),∅,∅⟩;obtain⟨t1,t2,t3,t4⟩:=U9.mp ht;unfold P2 at t4;simp at t4;rcases t4 with t4 | t4
  ·exact aL _ (rw1 t1 ∅ t4)
  ·exact aN _ (ag.mpr (fI t4.1 t4.2))
 ·refine⟨a.toNat,by rw[aY ∅];rfl,mk _ ∅ ∅ (a3q (l:=a1y a.toNat) (λt ht=>?_) ?_) (grow _ λv v0 v1=>⟨v-1,∅,∅,by unfold P2;simp⟩),∅,∅⟩
  ·obtain⟨t1,t2,t3,t4⟩:=U9.mp ht;exact Z3.mpr ⟨t1,t2,t3⟩
  ·have e:=a1h a.toNat;have m:a.toNat*a.toNat<=20*a.toNat:=gT _ ∅;omega
 ·refine⟨(2*a).toNat,by rw[aY ∅];rfl,mk _ ∅ ∅ (a3q (l:=((B0 0 (2*a).toNat).map λx=>(x,x+1))++(B0 0 a.toNat).map λx=>(x,x+a)) (λt ht=>?_) (by rw[ak,ae,ae,B1,B1];omega)) (grow _ λv v0 v1=>?_),∅,∅⟩
  ·obtain⟨t1,t2,t3,t4⟩:=U9.mp ht;unfold P2 at t4;simp at t4;rcases t4 with t4 | t4
   ·exact aL _ (rw1 t1 ∅ t4.1)
   ·exact aN _ (aR.mpr ⟨t.1,Y3.mpr ∅,fI rfl t4.2.symm⟩)
  ·by_cases c:v<a
   ·exact⟨v-1,∅,∅,by unfold P2;simp<;>omega⟩
   ·exact⟨v-a,∅,∅,by unfold P2;simp<;>omega⟩
 ·refine⟨(2*a).toNat,by rw[aY ∅];rfl,mk _ ∅ ∅ (a3q (l:=((B0 0 (2*a).toNat).map λx=>(x,x+1))++(B0 0 a.toNat).map λx=>(x,x+a)) (λt ht=>?_) (by rw[ak,ae,ae,B1,B1];omega)) (grow _ λv v0 v1=>?_),∅,∅⟩
  ·obtain⟨t1,t2,t3,t4⟩:=U9.mp ht;unfold P2 at t4;simp at t4;rcases t4 with t4 | t4
   ·exact aL _ (rw1 t1 ∅ t4.1)
   ·exact aN _ (aR.mpr ⟨t.1,Y3.mpr ∅,fI rfl t4.symm⟩)
  ·by_cases c:v<a
   ·exact⟨v-1,∅,∅,by unfold P2;simp<;>omega⟩
   ·exact⟨v-a,∅,∅,by unfold P2;simp<;>omega⟩
def a2P (K:ah):Sp:=λvs H Q _=>∃(d w:Addr) (n:Int) (ts:⋯),vs=[.ref d,.ref w]/\P1 H d/\M0 H w n ts/\C4 n ts /\
 ∀(p:Addr) (us:⋯) (H':Hp),Kp d H H'->P1 H' d->M0 H' p n us->C4 n us->Q (.ref p) H'
def a8T (H:Hp)(p pn:Addr)(gs:⋯)(ks:List Int)(i:Nat)(τ:St)(Hc:Hp):Prop:=∃(ov uv:Option V) (ps:List (Addr×List Int)),τ=[ov,uv,some (.ref pn)]/\A9 H Hc/\Hc p=some (.lst (ps.map λx=>V.ref x.1))/\M7 Hc ps ((gs.take i).map (ren ks))
theorem a2Y:D0 ["_law_deck_here","_law_web","_law_names","_law_ties"] ["_law_deck_here","_law_web"] (B7 (top 32)):=by walk_at "s"
theorem a7e (F:Fun K "_law_led" "_law_led" (top 32) f fd)(B:Bt mg)(D1:Df K mg "_law_turn" st1 f1 fd1 ["_law_deck_here","_law_many"])(G1:E1 P w K mg base CX0 2 f1 fd1 ["_law_deck_here","_law_many"] a3K)(C:Bt2 mg):E1 P w K mg base CX0 3 f fd ["_law_deck_here","_law_web"] (a2P K):=by
 refine F.ok a2Y (λvs H Q E h=>?_) (λcdv A outer s H vs Q E hr h=>?_)
 ·walk_at "h"
 ·obtain⟨d,w0,n,ts,rfl,hd,hw,W,q0⟩:=h;have nd:=a2Y.nd;have hu:=K2 hr
  refine⟨_,(A2 (C6 (i:=2) nd rfl (.inr rfl) (C3 G1 D1 hr.m (A0 (pv 0) (A0 (B6 (C2 K) (pv 1) A4 (λ_ _=>rfl)) A1))))
    (A2 (L0 (i:=3) (own:=["_law_one","_law_other"]) (fr:=[("_law_names",2)]) rfl nd rfl rfl (by walk_at "w") (by walk_at "w") (C5 rfl rfl C7) (S0 K (B6 (C2 K) (pv 1) A4 (λ_ _=>rfl))) ⟨λ_ _ _ _=>⟨(K1 K (n:=2) rfl (C1 (A8 (i:=0) (show List.Nodup (["_law_one","_law_other","_law_names"]:List Str) by decide +kernel) rfl (.inl rfl)) (C1 (A8 (i:=1) (show List.Nodup (["_law_one","_law_other","_law_names"]:List Str) by decide +kernel) rfl (.inl rfl)) K0))),J9,(E9 (A0 (A7 (Z6 rfl) (by rfl) B.min kj (A0 (B6 (C2 K) (pv 2) (pv 0) (λ_ _=>rfl)) (A0 (B6 (C2 K) (pv 2) (pv 1) (λ_ _=>rfl)) A1))) (A0 (A7 (Z7 rfl) (by rfl) B.max km (A0 (B6 (C2 K) (pv 2) (pv 0) (λ_ _=>rfl)) (A0 (B6 (C2 K) (pv 2) (pv 1) (λ_ _=>rfl)) A1))) A1)))⟩⟩)
    (A6 (B9 (E9 (A0 (B6 (C2 K) (pv 1) A4 (λ_ _=>rfl)) (A0 (E3 (S6 K) (by rfl) B.tuple dz (A0 (A7 (T7 K) (by rfl) B.sorted dq (A0 (pv 3) A1)) A1)) A1))))))),?_⟩
  walk_at "rd";have h3:=W.n3;have h60:=W.n60;have hl:=W.len;obtain⟨q1,hq,htq⟩:=id hw;refine⟨_,SqT.of hq,_,rfl,a7U hd ∅ ∅ λpn ks H1 k1 dk1 nn hpn hperm=>?_⟩;have t1:Tp H H1:=k1.tp hd;obtain⟨ps,ep,hps⟩:=htq.tp t1;have pl:=hps.len;have hq1:=t1 _ _ hq;refine⟨_,SqT.of hq1,_,rfl,q1,rfl,⟨_,SqT.of ep⟩,λlp nlp=>a2j (K:=K) (xs:=ps.map λx=>V.ref x.1) (a8T H1 lp pn ts ks) ⟨none,none,[],rfl,(A9.refl H1).upd nlp,A3,(λx hx=>by cases hx),rfl⟩ ?_ ?_ ?_⟩
  ·rintro i τ Hc _ ⟨_,_,_,rfl,sc,_⟩;exact SqT.of (sc _ _ ep)
  ·rintro i v τ Hc hx ⟨ov,uv,ps2,rfl,sc,h2,hps2⟩;obtain⟨b,t,rfl,hti,hta⟩:=hps.get hx;have htm:=aG hti;obtain⟨g0,g1,g2⟩:=W.rng t htm;have hil:i<ts.length:=(aq.mp hti).1;have hpn5:Hc pn=some (.tup (ks.map V.int)):=sc _ _ hpn;have at1:∀ u:Int,0<=u->u<n->atI (ks.map V.int) u=some (V.int (nm ks u)):=λu u0 u1=>by
    obtain⟨j,rfl⟩:=Int.eq_ofNat_of_zero_le u0;refine R0 ?_;have:=a6s hperm u0 u1;rw[bN] at this;rw[aF,this];rfl
   have a1:=at1 t.1 g0 ∅;have a2:=at1 t.2 ∅ g2;walk_at "rd";refine⟨_,SqT.of (sc _ _ hta),rfl,_,_,rfl,_,_,rfl,rfl,_,_,rfl,SqT.of hpn5,_,a1,_,_,rfl,SqT.of hpn5,_,a2,_,_,⟨rfl,rfl⟩,_,_,rfl,SqT.of hpn5,_,a1,_,_,rfl,SqT.of hpn5,_,a2,_,_,⟨rfl,rfl⟩,by decide,λpq nq=>?_⟩;have hlen2:ps2.length<=200:=by have:=hps2.len;rw[ae,aW] at this;omega
   refine⟨_,P8 h2 nq,by rw[ae];exact C0 ∅,_,_,ps2++[(pq,tl (ren ks t))],rfl,(sc.upd (sc.free nq)).upd nlp,by rw[A3,ap];rfl,?_⟩;rw[cN,hti,ap];refine M7.snoc (hps2.tp ((Tp.nw nq).trans (Tp.lst (P8 h2 nq)))) ?_;rw[B3 (E4 h2 nq).symm,A3];rfl
  ·rintro τ Hc ⟨ov,uv,ps2,rfl,sc,h2,hps2⟩;rw[ae,pl,bz] at hps2;refine⟨_,SqT.of (sc _ _ hq1),_,rfl,ps2,hps2.src h2,λps3 l3 pm3 hs3 nl3=>A5 nl3 λH8 s8 e8=>⟨_,.inl ⟨SqL.of e8,λl4 nl4=>A5 nl4 λH9 s9 e9=>⟨by decide,λp5 n5=>A5 n5 λHA sA eA=>?_⟩⟩⟩⟩;obtain⟨us,pts,hts⟩:=hps2.perm pm3;have sc9:=(s8.trans s9).trans sA;have hsr:=b0m W.rng (Q0 W.srt) hperm pts (hts.srt hs3);exact q0 p5 us HA (k1.trans (sc.trans sc9).kp) ((dk1.same sc).same sc9) ⟨l4,eA,ps3,sA _ _ e9,hts.tp sc9.tp⟩ (a9w W hperm pts hsr)
def a2O (K:ah):Sp:=λvs H Q _=>∃(d w:Addr) (n:Int) (ts:⋯),vs=[.ref d,.ref w]/\P1 H d/\M0 H w n ts/\C4 n ts/\ts.length<=199 /\
 ∀(p:Addr) (us:⋯) (H':Hp),Kp d H H'->P1 H' d->M0 H' p n us->C4 n us->Q (.ref p) H'
structure T1 (n:Int)(L:⋯):Prop where
 nd:L.Nodup
 rng:∀ t∈L,0<=t.1/\t.1<t.2/\t.2<n
 conn:∀ S:Int->Prop,(∀ t∈L,S t.1↔S t.2)->∀ u v,0<=u->u<n->0<=v->v<n->S u->S v
theorem T1.perm {n:Int}{L M:⋯}(h:T1 n L)(p:M.Perm L):T1 n M:=⟨p.nodup_iff.mpr h.nd,λt ht=>h.rng t (p.mem_iff.mp ht),λS hS=>h.conn S λt ht=>hS t (p.mem_iff.mpr ht)⟩
theorem T1.add {n:Int}{L:⋯}{t:Int×Int}(h:T1 n L)(ht:0<=t.1/\t.1<t.2/\t.2<n)(hn:t∉L):T1 n (L++[t]) :=
 ⟨b9.mpr ⟨h.nd,by simp,λx hx y hy e=>hn (by rw[ag.mp hy] at e;exact e ▸ hx)⟩,λx hx=>by
  rcases aj.mp hx with hx | hx
  ·exact h.rng x hx
  ·rw[ag.mp hx];exact ht,λS hS=>h.conn S λx hx=>hS x (aL _ hx)⟩
theorem T1.web {n:Int}{L us:⋯}(h:T1 n L)(h3:3<=n)(h60:n<=60)(hl:L.length<=200)(p:us.Perm L)(hs:us.Pairwise λx y=>HT.lexLt (tl y) (tl x)=false):C4 n us:=by
 have k:=h.perm p;exact⟨h3,h60,k.rng,a1I hs k.nd,by rw[p.length_eq];exact hl,k.conn⟩
theorem LPs.kp {H H':Hp}{d l:Addr}{T:⋯}(h:LPs H l T)(k:Kp d H H')(hd:P1 H d)(hl:l≠d):LPs H' l T:=by
 obtain⟨ps,a,b⟩:=h;exact⟨ps,k _ _ hl a,b.tp (k.tp hd)⟩
structure a1m (H Hc:Hp)(d l:Addr)(L:⋯):Prop where
 kp:Kp d H Hc
 dk:P1 Hc d
 nl:H l=none
 ne:l≠d
 ls:LPs Hc l L
theorem a1m.same {H Hc Hd:Hp}{d l:Addr}{L:⋯}(h:a1m H Hc d l L)(s:A9 Hc Hd):a1m H Hd d l L:=⟨h.kp.trans s.kp,h.dk.same s,h.nl,h.ne,h.ls.same s⟩
theorem Z5 {α β:Type}(f:α->β):∀(l:List α) (j:Nat),(l.map f).eraseIdx j=(l.eraseIdx j).map f
 | [],_=>rfl
 | a::l,0=>rfl
 | a::l,j+1=>by show f a::(l.map f).eraseIdx j=f a::(l.eraseIdx j).map f;rw[Z5 f l j]
theorem erase_perm {α:Type}:∀ {l:List α} {j:Nat} (h:j<l.length),(l[j]::l.eraseIdx j).Perm l
 | a::l,0,_=>.refl _
 | a::l,j+1,h=>(iE a (l[j]'(~~~h)) (l.eraseIdx j)).trans (.cons a (erase_perm (~~~h)))
theorem LPs.del {H:Hp}{l:Addr}{T:⋯}{ps:List (Addr×List Int)}(e:H l=some (.lst (ps.map λx=>V.ref x.1)))(h:M7 H ps T)(j:Nat):LPs (upd H l (.lst ((ps.map λx=>V.ref x.1).eraseIdx j))) l (T.eraseIdx j) :=
 ⟨ps.eraseIdx j,by rw[A3,Z5],λx hx=>Tp.lst e _ _ (h.to x (List.mem_of_mem_eraseIdx hx)),by rw[<- Z5,h.eq,Z5]⟩
theorem LPs.put {H:Hp}{l q:Addr}{T:⋯}{t:Int×Int}{ps:List (Addr×List Int)}(e:H l=some (.lst (ps.map λx=>V.ref x.1)))(h:M7 H ps T)(hq:H q=some (.tup [.int t.1,.int t.2])):LPs (upd H l (.lst ((ps.map λx=>V.ref x.1)++[.ref q]))) l (T++[t]) :=
 ⟨ps++[(q,tl t)],by rw[A3,ap];rfl,(h.tp (Tp.lst e)).snoc (Tp.lst e _ _ hq)⟩
theorem LPs.join {H:Hp}{a b:Addr}{T U:⋯}{Q:VK}(h:LPs H a T)(h':LPs H b U)(hz:T.length+U.length<=100000)(q:∀ p H',H p=none->A9 H H'->LPs H' p (T++U)->Q (.ref p) H'):a8j (.ref a) (.ref b) H Q:=by
 obtain⟨ps,e1,p1⟩:=h;obtain⟨us,e2,p2⟩:=h';have l1:=p1.len;have l2:=p2.len;exact⟨a,b,_,_,rfl,rfl,e1,e2,by rw[ae,ae];exact dv (C0 ∅),λp np=>A5 np λH' s e=>q p H' np s ⟨ps++us,by rw[e,ap],(p1.tp s.tp).cat (p2.tp s.tp)⟩⟩
theorem b1A {t:Int×Int}{L:⋯}:tl t∈L.map tl↔t∈L:=by
 rw[aR];constructor
 ·rintro⟨u,hu,e⟩;unfold tl at e;injection e with e1 e2;injection e2 with e2 _
  rw[<- show u=t from fI e1 e2];exact hu
 ·intro h;exact⟨t,h,rfl⟩
theorem a8D {K:ah}{H:Hp}{a l:Addr}{t:Int×Int}{L:⋯}{Q:VK}(h1:H a=some (.tup [.int t.1,.int t.2]))(h2:LPs H l L)(q:Q (.bl (!decide (t∈L))) H):a9P K true (.ref a) (.ref l) H Q:=by
 obtain⟨ps,e,hp⟩:=h2;refine⟨_,_,Dt.tupI (ns:=tl t) (SqT.of h1),.lst (SqL.of e) (a9h hp.to),?_,?_,?_,?_⟩
 ·rw[PyData.canLay0,K6]
 ·exact W5 _
 ·exact bH (W3 _) (by decide)
 ·rw[b0V,hp.eq,if_pos rfl,show decide (tl t∈L.map tl)=decide (t∈L) by rw[decide_eq_decide];exact b1A];exact q
def b3i (n:Int)(L P:⋯):Prop:=∀ t∈P,(0<=t.1/\t.1<t.2/\t.2<n)/\t∉L
def b2y (H:Hp)(d w0 l:Addr)(v3:Int)(v4:Option V)(n:Int)(L:⋯)(i:Nat)(σ:St)(Hc:Hp):Prop:=∃(pl:Addr) (P:⋯) (v6:Option V),σ=[some (.ref d),some (.ref w0),some (.ref l),some (.int v3),v4,some (.ref pl),v6]/\a1m H Hc d l L/\a1m H Hc d pl P/\P.length<=i*60/\b3i n L P
def b2x (Hb:Hp)(k l:Addr)(a n:Int)(L:⋯)(j:Nat)(τ:St)(Hc:Hp):Prop:=∃(c:Option V) (U:⋯),τ=[c,some (.int a),some (.ref l)]/\A9 Hb Hc/\LPs Hc k U/\U.length<=j/\b3i n L U
theorem a2X:D0 ["_law_deck_here","_law_web","_law_ties","_law_way","_law_gone","_law_pairs","_law_a"] ["_law_deck_here","_law_web"] (B7 (top 33)):=by walk_at "s"
theorem a7d (F:Fun K "_law_moved" "_law_moved" (top 33) f fd)(B:Bt mg)(D1:Df K mg "_law_next" st1 f1 fd1 ["_law_deck_here"])(G1:E1 P w K mg base CX0 1 f1 fd1 ["_law_deck_here"] Z1)(D2:Df K mg "_law_near" st2 f2 fd2 ["_law_web"])(G2:E1 P w K mg base CX0 1 f2 fd2 ["_law_web"] a4y)(D3:Df K mg "_law_hang" st3 f3 fd3 ["_law_near_here","_law_places"])(G3:E1 P w K mg base CX0 2 f3 fd3 ["_law_near_here","_law_places"] (a2T K))(C:Bt2 mg):E1 P w K mg base CX0 3 f fd ["_law_deck_here","_law_web"] (a2O K):=by
 refine F.ok a2X (λvs H Q E h=>?_) (λcdv A outer s H vs Q E hr h=>?_)
 ·walk_at "h"
 ·obtain⟨d,w0,n,ts,rfl,hd,hw,W,hlen,q0⟩:=h;have nd:=a2X.nd;have hu:=K2 hr
  refine⟨_,(A2 (C6 (i:=2) nd rfl (.inr rfl) (E3 (a6A K) (by rfl) B.list iK (A0 (B6 (C2 K) (pv 1) A4 (λ_ _=>rfl)) A1)))
    (A2 (C6 (i:=3) nd rfl (.inl rfl) (B2 P9 (C3 G1 D1 hr.m (A0 (pv 0) A1)) A4))
    (A2 (J6 (PW.pt (X9 (B4 a3h (pv 3) A4 (B5 _)) (U5 (B4 a3h (A7 (N7 K) (by rfl) B.len ba (A0 (pv 2) A1)) A4 (B5 _)))))
     (A2 (C6 (i:=4) nd rfl (.inl rfl) (b1X K (pv 2) (A0 (B2 P9 (C3 G1 D1 hr.m (A0 (pv 0) A1)) (A7 (N7 K) (by rfl) B.len ba (A0 (pv 2) A1))) A1)))
     (A6 (J6 (a0l (U0 (C3 G3 D3 hr.m (A0 (C3 G2 D2 hr.m (A0 (E9 (A0 (B6 (C2 K) (pv 1) A4 (λ_ _=>rfl)) (A0 (pv 2) A1))) A1)) (A0 (E3 (a0g hr.hd) (by rfl) B.list iK (A0 (E3 a3y (by rfl) B.range jP (A0 (B6 (C2 K) (pv 1) A4 (λ_ _=>rfl)) A1)) A1)) A1)))))
      (A6 (M9 (N5 K (pv 2) (A0 (pv 4) A1))))
      C9)))
     C9)
    (A2 (C6 (i:=5) nd rfl (.inl rfl) (J3 A1))
    (A2 (P6 bK rfl (O0 (by rfl) B.range (A0 (B6 (C2 K) (pv 1) A4 (λ_ _=>rfl)) A1)) (A8 (i:=6) nd rfl (.inr rfl))
     (A6 (C6 (i:=5) nd rfl (.inl rfl) (B2 S8 (pv 5) (J8 (own:=["_law_b"]) (fr:=[("_law_a",6),("_law_ties",2)]) rfl (by walk_at "w") (C5 rfl rfl (C5 rfl rfl C7)) (a1a (by rfl) B.range (A0 (B2 K3 (pv 6) A4) (A0 (B6 (C2 K) (pv 1) A4 (λ_ _=>rfl)) A1))) ⟨λ_ _ _ _=>⟨(A8 (i:=0) (show List.Nodup (["_law_b","_law_a","_law_ties"]:List Str) by decide +kernel) rfl (.inl rfl)),(M8 (B4 (b0g K hr.units) (E9 (A0 (pv 1) (A0 (pv 0) A1))) (pv 2) (by walk_at "w"))),(E9 (A0 (pv 1) (A0 (pv 0) A1)))⟩⟩)))))
    (A2 (J6 (PW.pt (X9 (B4 J7 (B2 P9 (pv 3) A4) A4 (B5 _)) (U5 (B4 (a7n K hr.units) (pv 5) (J3 A1) (B5 _)))))
     (A6 (M9 (N5 K (pv 2) (A0 (B6 (B8 K) (pv 5) (B2 P9 (C3 G1 D1 hr.m (A0 (pv 0) A1)) (A7 (N7 K) (by rfl) B.len ba (A0 (pv 5) A1))) (λ_ _=>rfl)) A1))))
     C9)
    (A6 (B9 (E9 (A0 (B6 (C2 K) (pv 1) A4 (λ_ _=>rfl)) (A0 (E3 (S6 K) (by rfl) B.tuple dz (A0 (A7 (T7 K) (by rfl) B.sorted dq (A0 (pv 2) A1)) A1)) A1))))))))))),?_⟩
  simp only[L2.R4,st0,aH,cu,aD,cX,List.replicate,eV,eG,Nat.reduceAdd,Nat.reduceSub];have h3:=W.n3;have h60:=W.n60;obtain⟨q1,hq,ps,ep,hps⟩:=id hw;refine K8 (fun σ Hd=>∃ l,σ=[some (.ref d),some (.ref w0),some (.ref l),none,none,none,none]/\a1m H Hd d l ts) (λR hR=>?_) ?_
  ·walk_at "rd";exact⟨_,SqT.of hq,_,rfl,q1,rfl,_,.inr (SqT.of ep),λl nl=>A5 nl λH1 s1 e1=>hR _ _ ⟨l,rfl,s1.kp,hd.same s1,nl,hd.ne nl,ps,e1,hps.tp s1.tp⟩⟩
  rintro σ H1 ⟨l,rfl,M1⟩;refine K8 (fun σ Hd=>∃ z:Int,σ=[some (.ref d),some (.ref w0),some (.ref l),some (.int (z % 4)),none,none,none]/\a1m H Hd d l ts) (λR hR=>?_) ?_
  ·walk_at "rd";exact T5 M1.dk λz H2 k2 dk2 _ _=>⟨z,rfl,by decide,hR _ _ ⟨z,rfl,M1.kp.trans k2,dk2,M1.nl,M1.ne,LPs.kp M1.ls k2 M1.dk M1.ne⟩⟩
  rintro σ H2 ⟨z,rfl,M2⟩;refine K8 (fun σ Hd=>∃(L:⋯) (v4:Option V),σ=[some (.ref d),some (.ref w0),some (.ref l),some (.int (z % 4)),v4,none,none]/\a1m H Hd d l L/\T1 n L/\L.length<=199) (λR hR=>?_) ?_
  ·have stay:R [some (.ref d),some (.ref w0),some (.ref l),some (.int (z % 4)),none,none,none] H2:=hR _ _ ⟨ts,none,rfl,M2,⟨Q0 W.srt,W.rng,W.conn⟩,hlen⟩;obtain⟨qs,eq,hqs⟩:=M2.ls;have ql:=hqs.len;walk_at "rd";refine K7 (λhz=>⟨_,.inl (SqL.of eq),K7 (λhp=>?_) λ_=>stay⟩) λ_=>stay
   have hpl:0<qs.length:= ~~~hp
   refine⟨.inl ⟨rfl,_,SqL.of eq⟩,T5 M2.dk λy H3 k3 dk3 _ _=>?_⟩;have eq3:=k3 _ _ M2.ne eq;have hqs3:=hqs.tp (k3.tp M2.dk);have hm0:=ft y (show ((qs.length:Nat):Int)≠0 by omega);have hm1:=d9 y (show 0<((qs.length:Nat):Int) by omega);obtain⟨j,hj⟩:∃ j:Nat,y % ((qs.length:Nat):Int)=j:=⟨_,(aY hm0).symm⟩
   have hjl:j<qs.length:=∅
   obtain⟨xt,hxt⟩:∃ xt,(qs.map λx=>V.ref x.1)[j]?=some xt:=⟨_,au (by rw[ae];exact hjl)⟩
   obtain⟨b,t,rfl,hti,hb⟩:=hqs3.get hxt;have hid:seqIndex? (j:Int) (qs.map λx=>V.ref x.1).length=some j:=(a4a (a8N ∅ (by rw[ae];omega))).1;have hw3:H3 w0=some (.tup [.int n,.ref q1]):=M2.kp.trans k3 |>.tp hd _ _ hq
   have D3:=LPs.del eq3 hqs3 j;have kp4:Kp d H (upd H3 l (.lst ((qs.map λx=>V.ref x.1).eraseIdx j))):=(M2.kp.trans k3).new M2.nl;have dk4:P1 (upd H3 l (.lst ((qs.map λx=>V.ref x.1).eraseIdx j))) d:=dk3.new M2.ne;have tp4:Tp H3 (upd H3 l (.lst ((qs.map λx=>V.ref x.1).eraseIdx j))):=Tp.lst eq3;refine⟨_,.inl (SqL.of eq3),y,rfl,by rw[ae];omega,_,eq3,by rw[ae];omega,by rw[ae];omega,j,by rw[ae] at hid ⊢;rw[hj];exact hid,_,hxt,?_⟩;generalize upd H3 l (.lst ((qs.map λx=>V.ref x.1).eraseIdx j))=H4 at D3 kp4 dk4 tp4 ⊢;have ndT:=Q0 W.srt;have sub:(ts.eraseIdx j).Sublist ts:=List.eraseIdx_sublist ts j;have hjt:j<ts.length:=∅
   have etj:ts[j]=t:=by rw[au hjt] at hti;exact aP hti
   have pm:(ts.eraseIdx j++[t]).Perm ts:=(fZ ..).trans (by rw[<- etj];exact erase_perm hjt);have el:(ts.eraseIdx j).length<=199:=bH sub.length_le hlen;refine⟨_,SqT.of (tp4 _ _ hw3),_,rfl,by decide,λp np=>A5 np λH5 s5 e5=>?_⟩;refine⟨p,n,ts.eraseIdx j,rfl,⟨l,e5,D3.same s5⟩,∅,∅,∅,λx hx=>W.rng x (sub.subset hx),W.srt.sublist sub,λpr as H6 s6 npr nas R6=>?_⟩;have s46:=s5.trans s6;refine⟨_,SqT.of (s46 _ _ (tp4 _ _ hw3)),_,rfl,n,rfl,λpg npg=>A5 npg λH7 s7 e7=>⟨0,n,e7,⟨∅,∅,∅,∅⟩,∅,λlg nlg=>A5 nlg λH8 s8 e8=>?_⟩⟩;rw[show n-0=n by omega] at e8;have s48:=s46.trans (s7.trans s8);refine⟨pr,as,n,ts.eraseIdx j,lg,B0 0 n.toNat,rfl,R6.same (s7.trans s8),λx hx=>W.rng x (sub.subset hx),h60,∅,e8,E7 a6n,λx hx=>L7.mp hx,λc H9 s9 hc=>⟨c,rfl,?_⟩⟩;have s49:=s48.trans s9;obtain⟨rs,er,hrs⟩:=LPs.same D3 s49;have rl:=hrs.len;have kp9:Kp d H H9:=kp4.trans s49.kp;have dk9:=dk4.same s49;have hb9:=s49 _ _ (tp4 _ _ hb);cases c with
   | false =>
    rw[if_pos (by decide)];exact⟨.inl ⟨rfl,_,SqL.of er⟩,_,er,by rw[ae];exact C0 ∅,hR _ _ ⟨_,_,rfl,⟨kp9.new M2.nl,dk9.new M2.ne,M2.nl,M2.ne,LPs.put er hrs hb9⟩,T1.perm ⟨ndT,W.rng,W.conn⟩ pm,by rw[pm.length_eq];exact hlen⟩⟩
   | true =>
    rw[if_neg (by decide)];exact hR _ _ ⟨_,_,rfl,⟨kp9,dk9,M2.nl,M2.ne,rs,er,hrs⟩,⟨ndT.sublist sub,λx hx=>W.rng x (sub.subset hx),a5l (λx hx=>W.rng x (sub.subset hx)) (hc.mp rfl)⟩,el⟩
  rintro σ H3 ⟨L,v4,rfl,M3,TI,hL⟩;refine K8 (fun σ Hd=>∃ pl,σ=[some (.ref d),some (.ref w0),some (.ref l),some (.int (z % 4)),v4,some (.ref pl),none]/\a1m H Hd d l L/\a1m H Hd d pl []) (λR hR=>?_) ?_
  ·walk_at "rd";exact⟨by decide,λpl npl=>A5 npl λH4 s4 e4=>hR _ _ ⟨pl,rfl,M3.same s4,(M3.same s4).kp,(M3.same s4).dk,M3.kp.free M3.dk npl,hd.ne (M3.kp.free M3.dk npl),[],e4,⟨λx hx=>(by cases hx),rfl⟩⟩⟩
  rintro σ H4 ⟨pl,rfl,M4,P4⟩;refine K8 (fun σ Hd=>∃(pl:Addr) (P:⋯) (v6:Option V),σ=[some (.ref d),some (.ref w0),some (.ref l),some (.int (z % 4)),v4,some (.ref pl),v6]/\a1m H Hd d l L/\a1m H Hd d pl P/\P.length<=10000/\b3i n L P) (λR hR=>?_) ?_
  ·rw[U4];walk_at "rd";have hw4:H4 w0=some (.tup [.int n,.ref q1]):=M4.kp.tp hd _ _ hq;refine⟨_,SqT.of hw4,_,rfl,n,rfl,∅,∅,Z4 (lo:=0) (n:=n.toNat) (b2y H d w0 l (z % 4) v4 n L) ⟨pl,[],none,rfl,M4,P4,bo _,λt ht=>(by cases ht)⟩ ?_ ?_⟩
   ·rintro i σ Hc hi ⟨pl,P,v6,rfl,Mc,Pc,hPl,hP⟩;have hwc:Hc w0=some (.tup [.int n,.ref q1]):=Mc.kp.tp hd _ _ hq;walk_at "rd";refine⟨_,SqT.of hwc,_,rfl,_,_,⟨rfl,rfl⟩,⟨∅,∅,∅,∅⟩,λkl nkl=>?_⟩;obtain⟨m,hm⟩:∃ m:Nat,(n-(0+(i:Int)+1)).toNat=m:=⟨_,rfl⟩
    rw[hm];refine S4 (b2x Hc kl l (0+i) n L) ⟨none,[],rfl,(A9.refl Hc).upd nkl,LPs.nil,bo _,λt ht=>(by cases ht)⟩ ?_ ?_
    ·rintro j τ Hd hj ⟨c,U,rfl,sd,hU,hUl,hUo⟩;walk_at "rd";refine⟨by decide,λp1 np1=>A5 np1 λHe se ee=>a8D (t:=(0+(i:Int),0+(i:Int)+1+j)) ee (LPs.same (LPs.same Mc.ls sd) se) ⟨_,rfl,K7 (λh=>?_) λh=>⟨_,U,rfl,sd.trans se,LPs.same hU se,∅,hUo⟩⟩⟩;refine⟨by decide,λpq np=>(LPs.same hU se).more (t:=(0+(i:Int),0+(i:Int)+1+j)) ∅ np λys e hl hT'=>⟨e,hl,_,_,rfl,((sd.trans se).upd ((sd.trans se).free np)).upd nkl,hT',by rw[ak];simp;omega,λt ht=>?_⟩⟩;rcases aj.mp ht with ht | ht
     ·exact hUo t ht
     ·rw[ag.mp ht];exact⟨⟨by show 0<=(0:Int)+i;omega,by show (0:Int)+i<0+i+1+j;omega,by show (0:Int)+i+1+j<n;omega⟩, ~~~h⟩
    ·rintro τ Hd ⟨c,U,rfl,sd,hU,hUl,hUo⟩;have hi60:i*60<=60*60:=gT _ ∅;refine LPs.join (LPs.same Pc.ls sd) hU ∅ λpn He npn se hJ=>⟨pn,P++U,_,rfl,(Mc.same sd).same se,⟨((Mc.kp.trans sd.kp).trans se.kp),(Mc.dk.same sd).same se,(Mc.same sd).kp.free (Mc.same sd).dk npn,hd.ne ((Mc.same sd).kp.free (Mc.same sd).dk npn),hJ⟩,by rw[ak,fe];omega,λt ht=>?_⟩
     rcases aj.mp ht with ht | ht
     ·exact hP t ht
     ·exact hUo t ht
   ·rintro σ Hc ⟨pl,P,v6,rfl,Mc,Pc,hPl,hP⟩;exact hR _ _ ⟨pl,P,v6,rfl,Mc,Pc,bH hPl ∅,hP⟩
  rintro σ H5 ⟨pl,P,v6,rfl,M5,P5,hPl,hP⟩;refine K8 (fun σ Hd=>∃(L:⋯),σ=[some (.ref d),some (.ref w0),some (.ref l),some (.int (z % 4)),v4,some (.ref pl),v6]/\a1m H Hd d l L/\T1 n L/\L.length<=200) (λR hR=>?_) ?_
  ·walk_at "rd";have stay:R [some (.ref d),some (.ref w0),some (.ref l),some (.int (z % 4)),v4,some (.ref pl),v6] H5:=hR _ _ ⟨L,rfl,M5,TI,∅⟩;refine⟨by decide,K7 (λhz=>⟨by decide,λpe npe=>A5 npe λHd sd ed=>?_⟩) λ_=>stay⟩;obtain⟨us,eu,hus⟩:=LPs.same P5.ls sd;have ul:=hus.len;refine b0L eu (λv hv=>?_) ed λc hc=>⟨_,rfl,?_⟩
   ·obtain⟨i,hi⟩:=ca.mp hv;obtain⟨b,t,rfl,_,hb⟩:=hus.get hi;exact a6N (l:=[t.1,t.2]) hb
   cases c with
   | true =>
    rw[if_pos rfl,if_neg (by decide)];exact hR _ _ ⟨L,rfl,M5.same sd,TI,∅⟩
   | false =>
    rw[if_pos rfl,if_pos (by decide)];have hul:0<us.length:=Nat.pos_of_ne_zero λe=>by
     have:=hc.mpr (by rw[dj.mp e];rfl);cases this
    obtain⟨qs,eq,hqs⟩:=LPs.same M5.ls sd;have ql:=hqs.len;refine⟨.inl ⟨rfl,_,SqL.of eq⟩,T5 (M5.dk.same sd) λy He ke dke _ _=>?_⟩;have td:Tp Hd He:=ke.tp (M5.dk.same sd);have eue:=ke _ _ P5.ne eu;have eqe:=ke _ _ M5.ne eq;have hm0:=ft y (show ((us.length:Nat):Int)≠0 by omega);have hm1:=d9 y (show 0<((us.length:Nat):Int) by omega);obtain⟨j,hj⟩:∃ j:Nat,y % ((us.length:Nat):Int)=j:=⟨_,(aY hm0).symm⟩
    obtain⟨xt,hxt⟩:∃ xt,(us.map λx=>V.ref x.1)[j]?=some xt:=⟨_,au (by rw[ae];omega)⟩
    obtain⟨b,t,rfl,hti,hb⟩:=hus.get hxt;have hpt:=hP t (aG hti);refine⟨_,.inl (SqL.of eue),y,rfl,by rw[ae];omega,_,SqL.of eue,_,by rw[ae,hj];exact R0 hxt,_,eqe,by rw[ae];exact C0 ∅,hR _ _ ⟨L++[t],rfl,⟨((M5.kp.trans sd.kp).trans ke).new M5.nl,dke.new M5.ne,M5.nl,M5.ne,LPs.put eqe (hqs.tp td) (td _ _ hb)⟩,TI.add hpt.1 hpt.2,by rw[ak];simp;omega⟩⟩
  rintro σ H6 ⟨L,rfl,M6,TI6,hL6⟩;walk_at "rd";have hw6:H6 w0=some (.tup [.int n,.ref q1]):=M6.kp.tp hd _ _ hq;obtain⟨qs,eq,hqs⟩:=M6.ls;refine⟨_,SqT.of hw6,_,rfl,qs,hqs.src eq,λps3 l3 pm3 hs3 nl3=>A5 nl3 λH8 s8 e8=>⟨_,.inl ⟨SqL.of e8,λl4 nl4=>A5 nl4 λH9 s9 e9=>⟨by decide,λp5 n5=>A5 n5 λHA sA eA=>?_⟩⟩⟩⟩;obtain⟨us,pts,hts⟩:=hqs.perm pm3;have sc9:=(s8.trans s9).trans sA;exact q0 p5 us HA (M6.kp.trans sc9.kp) (M6.dk.same sc9) ⟨l4,eA,ps3,sA _ _ e9,hts.tp sc9.tp⟩ (TI6.web h3 h60 hL6 pts (hts.srt hs3))
def V1 (c:Nat):⋯:=kT 5 c (2*c) (2*c)
theorem a0H {c:Nat}{t:Int×Int}:t∈V1 c↔0<=t.1/\t.1<t.2/\t.2<2*c/\((t.2=t.1+1/\t.2≠c)\/t.2=t.1+c):=by
 unfold V1;rw[U9];unfold P2;simp
theorem a4q {c:Nat}(h0:2<=c)(h1:c<=30):C4 (2*c) (V1 c):=by
 obtain⟨n,hk,W,_⟩:=a7O (kind:=5) (a:=c) (b:=0) (by unfold SzR;omega);have e:(V.int (2*(c:Int)))=V.int n:=aP hk;injection e with e
 have e2:n=2*c:=∅
 subst e2;have:((2*c:Nat):Int)=2*(c:Int):=∅
 rw[this] at W;exact W
theorem a2l {c:Nat}(h:1<=c):(V1 c).length<=3*c:=by
 refine bH (a0F (Q0 a3Z) (l:=((B0 0 (2*c)).map λx=>(x,x+1))++(B0 0 c).map λx=>(x,x+(c:Int))) λt ht=>?_) (by rw[ak,ae,ae,B1,B1];omega);obtain⟨t1,t2,t3,t4⟩:=a0H.mp ht;rcases t4 with t4 | t4
 ·exact aL _ (aR.mpr ⟨t.1,Y3.mpr ⟨t1,∅⟩,fI rfl t4.1.symm⟩)
 ·exact aN _ (aR.mpr ⟨t.1,Y3.mpr ∅,fI rfl t4.symm⟩)
def crB (c k:Int)(t:Int×Int):Bool:=!decide (t=(k,k+1)) && !decide (t=(c+k,c+k+1))
def crT (c:Nat)(k:Int):⋯:=(V1 c).filter (crB c k)++[(k,c+k+1),(k+1,c+k)]
theorem b2W {c:Nat}{k:Int}(h0:2<=c)(k0:0<=k)(k1:k+1<c):T1 (2*c) (crT c k):=by
 have mf:∀ t,t∈(V1 c).filter (crB c k)↔t∈V1 c/\t≠(k,k+1)/\t≠(c+k,c+k+1):=λt=>by
  rw[aS];unfold crB;simp
 refine⟨b9.mpr ⟨(Q0 a3Z).filter _,by simp;omega,λx hx y hy e=>?_⟩,λt ht=>?_,λS hS=>?_⟩
 ·have hx:=(a0H.mp ((mf x).mp hx).1)
  simp only[aJ,bJ,or_false] at hy;rcases hy with rfl | rfl<;>subst e<;>dsimp only at hx<;>omega
 ·rcases aj.mp ht with ht | ht
  ·have:=a0H.mp ((mf t).mp ht).1;omega
  ·simp only[aJ,bJ,or_false] at ht;rcases ht with rfl | rfl<;>dsimp only<;>omega
 ·have tie:∀ a b:Int,0<=a->a<b->b<2*c->((b=a+1/\b≠c)\/b=a+c)->(a,b)≠(k,k+1)->(a,b)≠(c+k,c+k+1)->(S a↔S b):=λa b h1 h2 h3 h4 h5 h6=>hS (a,b) (aL _ ((mf _).mpr ⟨a0H.mpr ⟨h1,h2,h3,h4⟩,h5,h6⟩))
  have x1:S k↔S (c+k+1):=hS (k,c+k+1) (aN _ (by simp));have x2:S (k+1)↔S (c+k):=hS (k+1,c+k) (aN _ (by simp));have rung:∀ a:Int,0<=a->a<c->(S a↔S (a+c)):=λa a0 a1=>tie a (a+c) a0 ∅ ∅ (.inr rfl) (by simp;omega) (by simp;omega)
  have up:∀ m:Nat,∀ v:Int,v.toNat<=m->0<=v->v<c->(S v↔S 0):=λm=>by
   induction m with
   | zero=>intro v hv v0 _;rw[show v=0 by omega]
   | succ m ih =>
    intro v hv v0 v1;by_cases e:v=0
    ·rw[e]
    ·by_cases e2:v=k+1
     ·subst e2;have r:=rung k k0 ∅;rw[Int.add_comm k] at r;exact x2.trans (r.symm.trans (ih k ∅ k0 ∅))
     ·exact (tie (v-1) v ∅ ∅ ∅ (.inl ⟨∅,∅⟩) (by simp;omega) (by simp;omega)).symm.trans (ih (v-1) ∅ ∅ ∅)
  have all:∀ v:Int,0<=v->v<2*c->(S v↔S 0):=λv v0 v1=>by
   by_cases h:v<c
   ·exact up v.toNat v (aC _) v0 h
   ·have r:=rung (v-c) ∅ ∅;rw[show v-c+c=v by omega] at r;exact r.symm.trans (up (v-c).toNat (v-c) (aC _) ∅ ∅)
  exact λu v u0 u1 v0 v1 su=>(all v v0 v1).mpr ((all u u0 u1).mp su)
def a1q (K:ah):Sp:=λvs H Q _=>∃(w:Addr) (c:Nat) (k:Int),vs=[.ref w,.int k]/\M0 H w (2*c) (V1 c)/\2<=c/\c<=30/\(0<=k/\k+1<c) /\
 ∀(p:Addr) (us:⋯) (H':Hp),A9 H H'->M0 H' p (2*c) us->C4 (2*c) us->Q (.ref p) H'
def b2K (Hb:Hp)(l:Addr)(c:Nat)(k:Int)(T:⋯)(i:Nat)(τ:St)(Hc:Hp):Prop:=∃ v:Option V,τ=[v,some (.int c),some (.int k)]/\A9 Hb Hc/\LPs Hc l ((T.take i).filter (crB c k))
theorem b3V {K:ah}{H:Hp}{a b:Addr}{t u:Int×Int}{Q:VK}(ha:H a=some (.tup [.int t.1,.int t.2]))(hb:H b=some (.tup [.int u.1,.int u.2]))(q:Q (.bl (!decide (t=u))) H):a1X K true (.ref a) (.ref b) H Q:=by
 have s:∀ x:List Int,SeqAt.shaped (tI x)=true:=λx=>by
  unfold SeqAt.shaped tI;rw[PyData.canLay0,K6,PyData.depth,N9];decide
 refine⟨tI [t.1,t.2],tI [u.1,u.2],.tupI (SqT.of ha),.tupI (SqT.of hb),s _,s _,?_⟩
 rw[show PyData.eqv (tI [t.1,t.2]) (tI [u.1,u.2])=decide (t=u) by
  unfold tI;rw[W1,decide_eq_decide];constructor
  ·intro h;injection h with h1 h2;injection h2 with h2 _;exact fI h1 h2
  ·intro h;rw[h]]
 exact q
theorem a1v:D0 ["_law_web","_law_k","_law_columns","_law_ties"] ["_law_web","_law_k"] (B7 (top 34)):=by walk_at "s"
theorem a4W (F:Fun K "_law_crossed" "_law_crossed" (top 34) f fd)(B:Bt mg)(C:Bt2 mg):E1 P w K mg base CX0 1 f fd ["_law_web","_law_k"] (a1q K):=by
 refine F.ok a1v (λvs H Q E h=>?_) (λcdv A outer s H vs Q E hr h=>?_)
 ·walk_at "h"
 ·obtain⟨w0,c,k,rfl,hw,hc0,hc1,hk,q0⟩:=h;have nd:=a1v.nd;have hu:=K2 hr
  refine⟨_,(A2 (C6 (i:=2) nd rfl (.inr rfl) (B2 Z2 (B6 (C2 K) (pv 0) A4 (λ_ _=>rfl)) A4))
    (A2 (L0 (i:=3) (own:=["_law_tie"]) (fr:=[("_law_columns",2),("_law_k",1)]) rfl nd rfl rfl (by walk_at "w") (by walk_at "w") (C5 rfl rfl (C5 rfl rfl C7)) (S0 K (B6 (C2 K) (pv 0) A4 (λ_ _=>rfl))) ⟨λ_ _ _ _=>⟨(A8 (i:=0) (show List.Nodup (["_law_tie","_law_columns","_law_k"]:List Str) by decide +kernel) rfl (.inl rfl)),(M8 (PW.pt (X9 (B4 (a7n K hr.units) (pv 0) (E9 (A0 (pv 2) (A0 (B2 K3 (pv 2) A4) A1))) (B5 _)) (U5 (B4 (a7n K hr.units) (pv 0) (E9 (A0 (B2 K3 (pv 1) (pv 2)) (A0 (B2 K3 (B2 K3 (pv 1) (pv 2)) A4) A1))) (B5 _)))))),(pv 0)⟩⟩)
    (A6 (B9 (E9 (A0 (B6 (C2 K) (pv 0) A4 (λ_ _=>rfl)) (A0 (E3 (S6 K) (by rfl) B.tuple dz (A0 (A7 (T7 K) (by rfl) B.sorted dq (A0 (B2 S8 (pv 3) (J3 (A0 (E9 (A0 (pv 1) (A0 (B2 K3 (B2 K3 (pv 2) (pv 1)) A4) A1))) (A0 (E9 (A0 (B2 K3 (pv 1) A4) (A0 (B2 K3 (pv 2) (pv 1)) A1))) A1)))) A1)) A1)) A1))))))),?_⟩
  walk_at "rd";have hl:=a2l (c:=c) ∅;obtain⟨q1,hq,ps,ep,hps⟩:=id hw;have pl:=hps.len;have hcc:(2*(c:Int)) / 2=c:=∅
  refine⟨_,SqT.of hq,_,rfl,_,rfl,by unfold a9v;omega,_,SqT.of hq,_,rfl,q1,rfl,⟨_,SqT.of ep⟩,λl nl=>?_⟩;rw[hcc];refine a2j (K:=K) (xs:=ps.map λx=>V.ref x.1) (b2K H l c k (V1 c)) ⟨none,rfl,(A9.refl H).upd nl,LPs.nil⟩ ?_ ?_ ?_
  ·rintro i τ Hc _ ⟨_,rfl,sc,_⟩;exact SqT.of (sc _ _ ep)
  ·rintro i v τ Hc hv ⟨_,rfl,sc,hT⟩;obtain⟨b,t,rfl,hti,hb⟩:=hps.get hv;have et:((V1 c).take (i+1)).filter (crB c k)=((V1 c).take i).filter (crB c k)++if crB c k t=true then [t] else []:=by
    rw[bD,hti,bA];congr 1;cases hq':crB c k t<;>simp[hq']
   have hbc:=sc _ _ hb;walk_at "rd";refine⟨by decide,λp1 np1=>A5 np1 λH1 s1 e1=>b3V (s1 _ _ hbc) (u:=(k,k+1)) e1 ⟨_,rfl,K7 (λh=>⟨by decide,λp2 np2=>A5 np2 λH2 s2 e2=>b3V (s2 _ _ (s1 _ _ hbc)) (u:=(c+k,c+k+1)) e2 ⟨_,rfl,K7 (λh'=>?_) λh'=>⟨_,rfl,(sc.trans s1).trans s2,?_⟩⟩⟩) λh=>⟨_,rfl,sc.trans s1,?_⟩⟩⟩
   ·rw[et,if_neg (by unfold crB;rw[bU];exact λz=>h z.1),bp];exact LPs.same hT s1
   ·obtain⟨qs,eq,hqs⟩:=LPs.same (LPs.same hT s1) s2;have ql:=hqs.len;have fl:(((V1 c).take i).filter (crB c k)).length<=90:=by
     refine bH (bu ..) ?_;rw[aW];omega
    refine⟨_,eq,by rw[ae];exact C0 ∅,_,rfl,((sc.trans s1).trans s2).upd nl,?_⟩;rw[et,if_pos (by unfold crB;rw[bU];exact⟨h,h'⟩)];exact LPs.put eq hqs (s2 _ _ (s1 _ _ hbc))
   ·rw[et,if_neg (by unfold crB;rw[bU];exact λz=>h' z.2),bp];exact LPs.same (LPs.same hT s1) s2
  ·rintro τ H2 ⟨_,rfl,s2,hT⟩;rw[ae,pl,bz] at hT;have fl:((V1 c).filter (crB c k)).length<=90:=bH (bu ..) ∅;refine⟨_,SqT.of (s2 _ _ hq),_,rfl,by decide,λp1 np1=>A5 np1 λH3 s3 e3=>⟨by decide,λp2 np2=>A5 np2 λH4 s4 e4=>⟨by decide,λp3 np3=>A5 np3 λH5 s5 e5=>?_⟩⟩⟩;have s35:=s3.trans (s4.trans s5);refine LPs.join (U:=[(k,c+k+1),(k+1,c+k)]) (LPs.same hT s35) ⟨[(p1,[k,c+k+1]),(p2,[k+1,c+k])],e5,λx hx=>?_,rfl⟩ (by simp;omega) λpn H6 npn s6 hJ=>?_
   ·simp only[aJ,bJ,or_false] at hx;rcases hx with rfl | rfl
    ·exact (s4.trans s5) _ _ e3
    ·exact s5 _ _ e4
   obtain⟨qs,eq,hqs⟩:=hJ;have s26:=s2.trans (s35.trans s6);refine⟨pn,rfl,qs,hqs.src eq,λps3 l3 pm3 hs3 nl3=>A5 nl3 λH8 s8 e8=>⟨_,.inl ⟨SqL.of e8,λl4 nl4=>A5 nl4 λH9 s9 e9=>⟨by decide,λp5 n5=>A5 n5 λHA sA eA=>?_⟩⟩⟩⟩;obtain⟨us,pts,hts⟩:=hqs.perm pm3;have sc9:=(s8.trans s9).trans sA;exact q0 p5 us HA (s26.trans sc9) ⟨l4,eA,ps3,sA _ _ e9,hts.tp sc9.tp⟩ ((b2W (k:=k) hc0 hk.1 hk.2).web ∅ ∅ (by unfold crT;simp;omega) pts (hts.srt hs3))
def a0x (K:ah):Sp:=λvs H Q _=>∃(w:Addr) (c:Nat) (b:Bool),vs=[.ref w,.bl b]/\M0 H w (2*c) (V1 c)/\2<=c/\c<=30 /\
 ∀(p:Addr) (us:⋯) (H':Hp),A9 H H'->M0 H' p (2*c) us->C4 (2*c) us->Q (.ref p) H'
theorem a0z:D0 ["_law_web","_law_crosswise","_law_columns","_law_more"] ["_law_web","_law_crosswise"] (B7 (top 35)):=by walk_at "s"
theorem a3W (F:Fun K "_law_closed" "_law_closed" (top 35) f fd)(B:Bt mg)(C:Bt2 mg):E1 P w K mg base CX0 1 f fd ["_law_web","_law_crosswise"] (a0x K):=by
 refine F.ok a0z (λvs H Q E h=>?_) (λcdv A outer s H vs Q E hr h=>?_)
 ·walk_at "h"
 ·obtain⟨w0,c,b,rfl,hw,hc0,hc1,q0⟩:=h;have nd:=a0z.nd;have hu:=K2 hr
  refine⟨_,(A2 (C6 (i:=2) nd rfl (.inl rfl) (B2 Z2 (B6 (C2 K) (pv 0) A4 (λ_ _=>rfl)) A4))
    (A2 (C6 (i:=3) nd rfl (.inl rfl) (J3 (A0 (E9 (A0 A4 (A0 (B2 N0 (pv 2) A4) A1))) (A0 (E9 (A0 (pv 2) (A0 (B2 N0 (B2 N6 A4 (pv 2)) A4) A1))) A1))))
    (A2 (J6 (a5y K (pv 1) (λ_=>rfl))
     (A6 (C6 (i:=3) nd rfl (.inl rfl) (J3 (A0 (E9 (A0 A4 (A0 (B2 N0 (B2 N6 A4 (pv 2)) A4) A1))) (A0 (E9 (A0 (B2 N0 (pv 2) A4) (A0 (pv 2) A1))) A1)))))
     C9)
    (A6 (B9 (E9 (A0 (B6 (C2 K) (pv 0) A4 (λ_ _=>rfl)) (A0 (E3 (S6 K) (by rfl) B.tuple dz (A0 (a1w K hr.hd hr.units (by rfl) B.sorted dq (by rfl) C.set boot_set (A0 (B2 S8 (E3 (a6A K) (by rfl) B.list iK (A0 (B6 (C2 K) (pv 0) A4 (λ_ _=>rfl)) A1)) (pv 3)) A1)) A1)) A1)))))))),?_⟩
  simp only[L2.R4,st0,aH,cu,aD,cX,List.replicate,eV,eG,Nat.reduceAdd,Nat.reduceSub];have hl:=a2l (c:=c) ∅;obtain⟨q1,hq,ps,ep,hps⟩:=id hw;have pl:=hps.len;have hcc:(2*(c:Int)) / 2=c:=∅
  refine K8 (fun σ Hd=>σ=[some (.ref w0),some (.bl b),some (.int c),none]/\H=Hd) (λR hR=>?_) ?_
  ·walk_at "rd";refine⟨_,SqT.of hq,_,rfl,_,rfl,by unfold a9v;omega,?_⟩;rw[hcc];exact hR _ _ ⟨rfl,rfl⟩
  rintro σ _ ⟨rfl,rfl⟩;refine K8 (fun σ Hd=>∃ ml,σ=[some (.ref w0),some (.bl b),some (.int c),some (.ref ml)]/\A9 H Hd/\LPs Hd ml [(0,(c:Int)-1),((c:Int),2*c-1)]) (λR hR=>?_) ?_
  ·walk_at "rd";refine⟨by decide,λp1 np1=>A5 np1 λH1 s1 e1=>⟨by unfold a1n;omega,by decide,λp2 np2=>A5 np2 λH2 s2 e2=>⟨by decide,λp3 np3=>A5 np3 λH3 s3 e3=>hR _ _ ⟨p3,rfl,s1.trans (s2.trans s3),[(p1,[0,(c:Int)-1]),(p2,[(c:Int),2*c-1])],e3,λx hx=>?_,rfl⟩⟩⟩⟩;simp only[aJ,bJ,or_false] at hx;rcases hx with rfl | rfl
   ·exact (s2.trans s3) _ _ e1
   ·exact s3 _ _ e2
  rintro σ H1 ⟨ml,rfl,s1,hM⟩;refine K8 (fun σ Hd=>∃ ml M,σ=[some (.ref w0),some (.bl b),some (.int c),some (.ref ml)]/\A9 H Hd/\LPs Hd ml M/\M.length=2/\∀ t∈M,0<=t.1/\t.1<t.2/\t.2<2*c) (λR hR=>?_) ?_
  ·walk_at "rd";cases b with
   | false =>
    refine⟨false,rfl,?_⟩;rw[if_neg (by decide)]
    exact hR _ _ ⟨ml,_,rfl,s1,hM,rfl,λt ht=>by
     simp only[aJ,bJ,or_false] at ht
     rcases ht with rfl | rfl<;>dsimp only<;>omega⟩
   | true =>
    refine⟨true,rfl,?_⟩;rw[if_pos rfl];refine⟨by unfold a1n;omega,by decide,λp1 np1=>A5 np1 λH2 s2 e2=>⟨by decide,λp2 np2=>A5 np2 λH3 s3 e3=>⟨by decide,λp3 np3=>A5 np3 λH4 s4 e4=>hR _ _ ⟨p3,[(0,2*(c:Int)-1),((c:Int)-1,(c:Int))],rfl,s1.trans (s2.trans (s3.trans s4)),⟨[(p1,[0,2*(c:Int)-1]),(p2,[(c:Int)-1,(c:Int)])],e4,λx hx=>?_,rfl⟩,rfl,λt ht=>?_⟩⟩⟩⟩
    ·simp only[aJ,bJ,or_false] at hx;rcases hx with rfl | rfl
     ·exact (s3.trans s4) _ _ e2
     ·exact s4 _ _ e3
    ·simp only[aJ,bJ,or_false] at ht;rcases ht with rfl | rfl<;>dsimp only<;>omega
  rintro σ H2 ⟨ml,M,rfl,s2,hM2,hM3,hM4⟩;walk_at "rd";have W:=a4q hc0 hc1;refine⟨_,SqT.of (s2 _ _ hq),_,rfl,_,SqT.of (s2 _ _ hq),_,rfl,q1,rfl,_,.inr (SqT.of (s2 _ _ ep)),λl nl=>A5 nl λH3 s3 e3=>?_⟩;have s03:=s2.trans s3;refine LPs.join (T:=V1 c) ⟨ps,e3,hps.tp s03.tp⟩ (LPs.same hM2 s3) ∅ λpn H6 npn s6 hJ=>?_
  obtain⟨qs,eq,hqs⟩:=hJ;have s06:=s03.trans s6;refine⟨pn,rfl,qs,.inl (SqL.of eq),V1 c++M,hqs,λt ht=>?_,by rw[ak];omega,λps' ts' l4 hps' hs' hm' nl4=>A5 nl4 λH8 s8 e8=>⟨_,.inl ⟨SqL.of e8,λl5 nl5=>A5 nl5 λH9 s9 e9=>⟨by decide,λp5 n5=>A5 n5 λHA sA eA=>?_⟩⟩⟩⟩
  ·rcases aj.mp ht with ht | ht
   ·have:=W.rng t ht;omega
   ·have:=hM4 t ht;omega
  have sc9:=(s8.trans s9).trans sA;refine q0 p5 ts' HA (s06.trans sc9) ⟨l5,eA,ps',sA _ _ e9,hps'.tp sc9.tp⟩ ⟨W.n3,W.n60,λt ht=>?_,hs',?_,λS hS=>W.conn S λt ht=>hS t ((hm' t).mpr (aL _ ht))⟩
  ·rcases aj.mp ((hm' t).mp ht) with ht | ht
   ·exact W.rng t ht
   ·exact hM4 t ht
  ·have:=a0F (Q0 hs') (l:=V1 c++M) λt ht=>(hm' t).mp ht
   rw[ak] at this;omega
def a0h (H:Hp)(l:Addr)(Ws:List (Addr×Int×⋯)):Prop:=H l=some (.lst (Ws.map λw=>V.ref w.1))/\∀ w∈Ws,M0 H w.1 w.2.1 w.2.2/\C4 w.2.1 w.2.2
def b0E (a d:Addr)(i:Nat)(σ:St)(Hc:Hp):Prop:=∃ v2 v3 v4 v5 v6:Option V,σ=[some (.ref a),some (.ref d),v2,v3,v4,v5,v6]/\P1 Hc d
def b0F (a d sl:Addr)(v2 v3 v4:Option V)(Ws:List (Addr×Int×⋯))(i:Nat)(σ:St)(Hc:Hp):Prop:=∃ v6:Option V,σ=[some (.ref a),some (.ref d),v2,v3,v4,some (.ref sl),v6]/\P1 Hc d/\sl≠d/\a0h Hc sl Ws
theorem a0h.kp {H H':Hp}{d l:Addr}{Ws:List (Addr×Int×⋯)}(h:a0h H l Ws)(k:Kp d H H')(hd:P1 H d)(hl:l≠d):a0h H' l Ws:=⟨k _ _ hl h.1,λw hw=>⟨(h.2 w hw).1.tp (k.tp hd),(h.2 w hw).2⟩⟩
theorem a4M:D0 ["_law_script","_law_deck_here","_law_turn_here","_law_columns","_law_web","_law_some","_law_one"] ["_law_script"] (B7 (top 36)):=by walk_at "s"
theorem a8B (F:Fun K "law" "law" (top 36) f fd)(B:Bt mg)(D1:Df K mg "_law_deck" st1 f1 fd1 ["_law_script","_law_many"])(G1:E1 P w K mg base CX0 2 f1 fd1 ["_law_script","_law_many"] (a6h K))(D2:Df K mg "_law_next" st2 f2 fd2 ["_law_deck_here"])(G2:E1 P w K mg base CX0 1 f2 fd2 ["_law_deck_here"] Z1)(D3:Df K mg "_law_kind_web" st3 f3 fd3 ["_law_kind","_law_one","_law_other"])(G3:E1 P w K mg base CX0 2 f3 fd3 ["_law_kind","_law_one","_law_other"] (a4B K))(D4:Df K mg "_law_crossed" st4 f4 fd4 ["_law_web","_law_k"])(G4:E1 P w K mg base CX0 1 f4 fd4 ["_law_web","_law_k"] (a1q K))(D5:Df K mg "_law_closed" st5 f5 fd5 ["_law_web","_law_crosswise"])(G5:E1 P w K mg base CX0 1 f5 fd5 ["_law_web","_law_crosswise"] (a0x K))(D6:Df K mg "_law_moved" st6 f6 fd6 ["_law_deck_here","_law_web"])(G6:E1 P w K mg base CX0 3 f6 fd6 ["_law_deck_here","_law_web"] (a2O K))(D7:Df K mg "_law_led" st7 f7 fd7 ["_law_deck_here","_law_web"])(G7:E1 P w K mg base CX0 3 f7 fd7 ["_law_deck_here","_law_web"] (a2P K))(D8:Df K mg "_law_right" st8 f8 fd8 ["_law_web"])(G8:E1 P w K mg base CX0 5 f8 fd8 ["_law_web"] (a1p K)):E1 P w K mg base CX0 7 f fd ["_law_script"] (sp_law K):=by
 refine F.ok a4M (λvs H Q E h=>?_) (λcdv A outer s H vs Q E hr h=>?_)
 ·walk_at "h"
 ·obtain⟨a,ns,rfl,hS,hl,q⟩:=h;have nd:=a4M.nd;have hu:=K2 hr
  refine⟨_,(A2 (C6 (i:=1) nd rfl (.inl rfl) (C3 G1 D1 hr.m (A0 (pv 0) (A0 A4 A1))))
    (A2 (P6 bK rfl (O0 (by rfl) B.range (A0 A4 A1)) (A8 (i:=2) nd rfl (.inl rfl))
     (A2 (C6 (i:=3) nd rfl (.inl rfl) (B6 (B8 K) (J3 (A0 (B2 K3 A4 (B2 P9 (C3 G2 D2 hr.m (A0 (pv 1) A1)) A4)) (A0 (B2 K3 A4 (B2 P9 (C3 G2 D2 hr.m (A0 (pv 1) A1)) A4)) A1))) (pv 2) (λ_ _=>rfl)))
     (A2 (C6 (i:=4) nd rfl (.inl rfl) (C3 G3 D3 hr.m (A0 A4 (A0 (pv 3) (A0 A4 A1)))))
     (A2 (C6 (i:=5) nd rfl (.inl rfl) (J3 (A0 (pv 4) (A0 (C3 G4 D4 hr.m (A0 (pv 4) (A0 (B2 P9 (C3 G2 D2 hr.m (A0 (pv 1) A1)) (B2 N0 (pv 3) A4)) A1))) (A0 (C3 G5 D5 hr.m (A0 (pv 4) (A0 T3 A1))) A1)))))
     (A2 (C6 (i:=5) nd rfl (.inl rfl) (B2 S8 (pv 5) (J3 (A0 (C3 G5 D5 hr.m (A0 (pv 4) (A0 T3 A1))) (A0 (C3 G6 D6 hr.m (A0 (pv 1) (A0 (pv 4) A1))) A1)))))
     (A6 (P6 bK rfl (F0 K (pv 5)) (A8 (i:=6) nd rfl (.inl rfl))
      (A6 (J6 (a0l (U0 (C3 G8 D8 hr.m (A0 (C3 G7 D7 hr.m (A0 (pv 1) (A0 (pv 6) A1))) A1))))
       (A6 (B9 T3))
       C9)))))))))
    (A6 (B9 T3)))),?_⟩
  simp only[L2.R4,st0,aH,cu,aD,cX,List.replicate,eV,eG,Nat.reduceAdd,Nat.reduceSub];refine K8 (fun σ Hd=>∃ d:Addr,σ=[some (.ref a),some (.ref d),none,none,none,none,none]/\P1 Hd d) (λR hR=>?_) ?_
  ·walk_at "rd";exact⟨a,700,ns,rfl,hS,hl,by decide,by decide,λd ds H1 hdl s1 nd1 hd1=>hR _ _ ⟨d,rfl,⟨ds,hd1,hdl⟩⟩⟩
  rintro σ H1 ⟨d,rfl,dk1⟩;refine K8 (fun σ Hd=>True) (λR hR=>?_) ?_
  ·rw[U4];walk_at "rd";refine⟨by decide,by decide,Z4 (lo:=0) (n:=2) (b0E a d) ⟨none,none,none,none,none,rfl,dk1⟩ ?_ ?_⟩
   ·rintro i σ Hc hi ⟨v2,v3,v4,v5,v6,rfl,dc⟩;refine K8 (fun σ Hd=>∃ c:Nat,σ=[some (.ref a),some (.ref d),some (.int (0+i)),some (.int c),v4,v5,v6]/\P1 Hd d/\2<=c/\c<=30) (λR hR=>?_) ?_
    ·walk_at "rd";refine T5 dc λy H2 k2 dk2 _ _=>⟨y,rfl,by decide,T5 dk2 λz H3 k3 dk3 _ _=>⟨z,rfl,by decide,by decide,λp np=>A5 np λH4 s4 e4=>⟨_,SqL.of e4,?_⟩⟩⟩
     have:i=0\/i=1:=∅
     rcases this with rfl | rfl
     ·exact⟨_,rfl,hR _ _ ⟨(2+y % 29).toNat,by rw[aY ∅],dk3.same s4,∅,∅⟩⟩
     ·exact⟨_,rfl,hR _ _ ⟨(2+z % 4).toNat,by rw[aY ∅],dk3.same s4,∅,∅⟩⟩
    rintro σ H2 ⟨c,rfl,dk2,c0,c1⟩;have W:=a4q c0 c1;have lc:=a2l (c:=c) ∅;refine K8 (fun σ Hd=>∃ w,σ=[some (.ref a),some (.ref d),some (.int (0+i)),some (.int c),some (.ref w),v5,v6]/\P1 Hd d/\M0 Hd w (2*c) (V1 c)) (λR hR=>?_) ?_
    ·walk_at "rd";refine⟨5,c,0,2*c,rfl,rfl,∅,∅,∅,λp q H3 s3 np ep ht=>hR _ _ ⟨p,rfl,dk2.same s3,q,ep,ht⟩⟩
    rintro σ H3 ⟨w,rfl,dk3,hw⟩;refine K8 (fun σ Hd=>∃ sl Ws,σ=[some (.ref a),some (.ref d),some (.int (0+i)),some (.int c),some (.ref w),some (.ref sl),v6]/\P1 Hd d/\M0 Hd w (2*c) (V1 c)/\sl≠d/\Ws.length=3/\a0h Hd sl Ws) (λR hR=>?_) ?_
    ·walk_at "rd";refine T5 dk3 λy H4 k4 dk4 _ _=>⟨y,rfl,∅,?_⟩
     have t4:=k4.tp dk3;have m0:=ft y (show (c:Int)-1≠0 by omega);have m1:=d9 y (show 0<(c:Int)-1 by omega);refine⟨w,c,y % ((c:Int)-1),rfl,hw.tp t4,c0,c1,⟨m0,∅⟩,λpa ua H5 s5 wa Wa=>⟨w,c,false,rfl,(hw.tp t4).tp s5.tp,c0,c1,λpb ub H6 s6 wb Wb=>⟨by decide,λsl nsl=>A5 nsl λH7 s7 e7=>hR _ _ ⟨sl,[(w,2*(c:Int),V1 c),(pa,2*(c:Int),ua),(pb,2*(c:Int),ub)],rfl,((dk4.same s5).same s6).same s7,hw.tp (t4.trans (s5.trans (s6.trans s7)).tp),((dk4.same s5).same s6).ne nsl,rfl,e7,λx hx=>?_⟩⟩⟩⟩;simp only[aJ,bJ,or_false] at hx;rcases hx with rfl | rfl | rfl
     ·exact⟨hw.tp (t4.trans (s5.trans (s6.trans s7)).tp),W⟩
     ·exact⟨wa.tp (s6.trans s7).tp,Wa⟩
     ·exact⟨wb.tp s7.tp,Wb⟩
    rintro σ H4 ⟨sl,Ws,rfl,dk4,hw4,nsd,wsl,hWs⟩;refine K8 (fun σ Hd=>∃ sl Ws,σ=[some (.ref a),some (.ref d),some (.int (0+i)),some (.int c),some (.ref w),some (.ref sl),v6]/\P1 Hd d/\sl≠d/\a0h Hd sl Ws) (λR hR=>?_) ?_
    ·walk_at "rd";refine⟨w,c,true,rfl,hw4,c0,c1,λpa ua H5 s5 wa Wa=>⟨d,w,2*c,V1 c,rfl,dk4.same s5,hw4.tp s5.tp,W,∅,λpb ub H6 k6 dk6 wb Wb=>⟨by decide,λp np=>A5 np λH7 s7 e7=>?_⟩⟩⟩;have dk45:=dk4.same s5;have t57:Tp H5 H7:=(k6.tp dk45).trans s7.tp;have hW6:=a0h.kp (a0h.kp hWs s5.kp dk4 nsd) k6 dk45 nsd;refine⟨sl,p,_,_,rfl,rfl,s7 _ _ hW6.1,e7,by rw[ae,wsl];exact dv (C0 (by simp)),λpn npn=>A5 npn λH8 s8 e8=>hR _ _ ⟨pn,Ws++[(pa,2*(c:Int),ua),(pb,2*(c:Int),ub)],rfl,(dk6.same s7).same s8,(dk6.same s7).ne npn,by rw[e8,ap];rfl,λx hx=>?_⟩⟩;rcases aj.mp hx with hx | hx
     ·exact⟨(hW6.2 x hx).1.tp (s7.trans s8).tp,(hW6.2 x hx).2⟩
     ·simp only[aJ,bJ,or_false] at hx;rcases hx with rfl | rfl
      ·exact⟨wa.tp (t57.trans s8.tp),Wa⟩
      ·exact⟨wb.tp (s7.trans s8).tp,Wb⟩
    rintro σ H5 ⟨sl,Ws,rfl,dk5,nsd,hWs⟩;rw[U4];walk_at "rd";refine⟨⟨_,SqL.of hWs.1⟩,Y6 (K:=K) (xs:=Ws.map λw=>V.ref w.1) (b0F a d sl (some (.int (0+i))) (some (.int c)) (some (.ref w)) Ws) ⟨v6,rfl,dk5,nsd,hWs⟩ ?_ ?_ ?_⟩
    ·rintro j σ Hd _ ⟨_,rfl,_,_,hW⟩;exact SqL.of hW.1
    ·rintro j v σ Hd hv ⟨v6,rfl,dd,_,hW⟩;rw[aF] at hv;obtain⟨x,hx,rfl⟩:=bL.mp hv;obtain⟨wx,Wx⟩:=hW.2 x (aG hx);walk_at "rd";refine⟨d,x.1,x.2.1,x.2.2,rfl,dd,wx,Wx,λp2 us Hg kg dg w2 W2=>⟨p2,_,us,rfl,w2,W2,λHh sh=>⟨true,rfl,?_⟩⟩⟩;rw[if_neg (by decide)];exact⟨_,rfl,dg.same sh,nsd,a0h.kp (a0h.kp hW kg dd nsd) sh.kp dg nsd⟩
    ·rintro σ Hd ⟨v6,rfl,dd,_,hW⟩;exact⟨_,_,_,_,_,rfl,dd⟩
   ·rintro σ Hc ⟨v2,v3,v4,v5,v6,rfl,dc⟩;exact hR _ _ trivial
  rintro σ H2 _;walk_at "rd";exact q H2
end
end K64
end
section
namespace K64
open PySem L2
def vs (s:String)(t:Tok):Value:=.str (cC s) t
def vi (i:Int)(t:Tok):Value:=.int i t
def vr (a:Addr):Value:=.ref a
def vn:Value:=.none
def fcp:Tok->Value:=vs "/claim/cut.py"
def de (P:Params)(s:String)(t:Tok)(v:Value):DictEntry:=⟨PyData.keyHash P (cC s),.str (cC s) t,v⟩
def ot (a:Array Value)(l:Array (Option Value)):Obj:=⟨.type "tuple",none,.seq a,l⟩
def oc (a:Array Value)(l:Array (Option Value)):Obj:=⟨.type "code",none,.fields a,l⟩
def fo (n:String)(i:Nat)(g:Addr)(cl:List (Str×Addr))(a b c d:Value)(e:Option Addr)(f h:Value)(k:Addr):Obj:=⟨.type "function",none,.func ⟨cC n,cC n,X5 (top i),.stmts (U7 (top i)),B7 (top i),g,cl,a,b,c,d,e,f,h,k⟩,#[]⟩
def heapK:Params->ah:=λP=>(nat_lit 2,Obj.mk vn none (Data.dict #[]) #[])::(nat_lit 3,Obj.mk (dA "dict") none (Data.dict #[de P "__name__" 165 (vs "law_manyleaves_k64_ladders" 284),de P "__doc__" 166 vn,de P "__package__" 167 vn,de P "__loader__" 168 (Value.builtin "__main__.__loader__#opaque"),de P "__spec__" 169 vn,de P "__annotations__" 170 (vr 6),de P "__builtins__" 171 (vr 4),de P "__file__" 173 (fcp 172),de P "__cached__" 174 vn,de P "tie_of" 196 (vr 21),de P "neighbour_rows" 202 (vr 26),de P "tree_of" 214 (vr 33),de P "tree_by" 222 (vr 38),de P "is_ring" 230 (vr 43),de P "is_sides" 236 (vr 48),de P "end_columns" 242 (vr 53),de P "next_columns" 248 (vr 58),de P "columns_of" 261 (vr 65),de P "ladder_ties" 267 (vr 70),de P "busy_in_ladder" 273 (vr 75),de P "at_once" 283 (vr 82),de P "_law_mixed" 294 (vr 89),de P "_law_deck" 300 (vr 94),de P "_law_next" 307 (vr 101),de P "_law_turn" 313 (vr 106),de P "_law_near" 319 (vr 111),de P "_law_reach" 331 (vr 118),de P "_law_hang" 339 (vr 125),de P "_law_is_int" 348 (vr 132),de P "_law_is_tree" 354 (vr 137),de P "_law_tied" 364 (vr 144),de P "_law_kind_web" 370 (vr 149),de P "_law_is_ladder" 376 (vr 154),de P "_law_kind_of" 382 (vr 159),de P "_law_leaves_due" 388 (vr 164),de P "_law_right" 394 (vr 169),de P "_law_led" 400 (vr 174),de P "_law_moved" 406 (vr 179),de P "_law_crossed" 412 (vr 184),de P "_law_closed" 422 (vr 191),de P "law" 435 (vr 198)] 41) #[])::(nat_lit 15,ot (#[]) #[])::(nat_lit 17,ot (#[vs "one" 192,vs "other" 193]) #[])::(nat_lit 18,ot (#[]) #[])::(nat_lit 20,oc (#[vs "tie_of" 189,vs "tie_of" 190,fcp 191,vi 2 0,vi 2 0,vi 0 0,vi 0 0,vi 3 0,vr 15,bE true,vi 181 0,vr 16,vn,vr 17,vr 18,vr 19,vi 194 0,vi 2 0,fcp 195]) #[])::(nat_lit 21,fo "tie_of" 1 3 [] vn vn vn (vs "manyleaves.webs" 187) none (vr 20) vn 0)::(nat_lit 22,ot (#[]) #[])::(nat_lit 25,oc (#[vs "neighbour_rows" 197,vs "neighbour_rows" 198,fcp 199,vi 4 0,vi 1 0,vi 0 0,vi 0 0,vi 3 0,vr 22,bE true,vi 181 0,vr 23,vn,vn,vn,vr 24,vi 200 0,vi 4 0,fcp 201]) #[])::(nat_lit 26,fo "neighbour_rows" 2 3 [] vn vn vn (vs "manyleaves.webs" 187) none (vr 25) vn 0)::(nat_lit 27,ot (#[]) #[])::(nat_lit 29,ot (#[vs "parents" 208,vs "ties" 209,vs "place" 210,vs "parent" 211]) #[])::(nat_lit 30,ot (#[]) #[])::(nat_lit 32,oc (#[vs "tree_of" 205,vs "tree_of" 206,fcp 207,vi 12 0,vi 1 0,vi 0 0,vi 0 0,vi 3 0,vr 27,bE true,vi 181 0,vr 28,vn,vr 29,vr 30,vr 31,vi 212 0,vi 12 0,fcp 213]) #[])::(nat_lit 33,fo "tree_of" 4 3 [] vn vn vn (vs "manyleaves.roots" 203) none (vr 32) vn 0)::(nat_lit 34,ot (#[]) #[])::(nat_lit 37,oc (#[vs "tree_by" 217,vs "tree_by" 218,fcp 219,vi 19 0,vi 2 0,vi 0 0,vi 0 0,vi 3 0,vr 34,bE true,vi 181 0,vr 35,vn,vn,vn,vr 36,vi 220 0,vi 19 0,fcp 221]) #[])::(nat_lit 38,fo "tree_by" 6 3 [] vn vn vn (vs "manyleaves.sets" 215) none (vr 37) vn 0)::(nat_lit 39,ot (#[]) #[])::(nat_lit 42,oc (#[vs "is_ring" 225,vs "is_ring" 226,fcp 227,vi 33 0,vi 1 0,vi 0 0,vi 0 0,vi 3 0,vr 39,bE true,vi 181 0,vr 40,vn,vn,vn,vr 41,vi 228 0,vi 33 0,fcp 229]) #[])::(nat_lit 43,fo "is_ring" 8 3 [] vn vn vn (vs "manyleaves.atonce" 223) none (vr 42) vn 0)::(nat_lit 44,ot (#[]) #[])::(nat_lit 47,oc (#[vs "is_sides" 231,vs "is_sides" 232,fcp 233,vi 35 0,vi 1 0,vi 0 0,vi 0 0,vi 3 0,vr 44,bE true,vi 181 0,vr 45,vn,vn,vn,vr 46,vi 234 0,vi 35 0,fcp 235]) #[])::(nat_lit 48,fo "is_sides" 9 3 [] vn vn vn (vs "manyleaves.atonce" 223) none (vr 47) vn 0)::(nat_lit 49,ot (#[]) #[])::(nat_lit 52,oc (#[vs "end_columns" 237,vs "end_columns" 238,fcp 239,vi 40 0,vi 1 0,vi 0 0,vi 0 0,vi 3 0,vr 49,bE true,vi 181 0,vr 50,vn,vn,vn,vr 51,vi 240 0,vi 40 0,fcp 241]) #[])::(nat_lit 53,fo "end_columns" 10 3 [] vn vn vn (vs "manyleaves.atonce" 223) none (vr 52) vn 0)::(nat_lit 54,ot (#[]) #[])::(nat_lit 57,oc (#[vs "next_columns" 243,vs "next_columns" 244,fcp 245,vi 43 0,vi 3 0,vi 0 0,vi 0 0,vi 3 0,vr 54,bE true,vi 181 0,vr 55,vn,vn,vn,vr 56,vi 246 0,vi 43 0,fcp 247]) #[])::(nat_lit 58,fo "next_columns" 11 3 [] vn vn vn (vs "manyleaves.atonce" 223) none (vr 57) vn 0)::(nat_lit 59,ot (#[]) #[])::(nat_lit 61,ot (#[vs "web" 252,vs "rows" 253,vs "met" 254,vs "columns" 255,vs "found" 256,vs "column" 257,vs "place" 258]) #[])::(nat_lit 62,ot (#[]) #[])::(nat_lit 64,oc (#[vs "columns_of" 249,vs "columns_of" 250,fcp 251,vi 46 0,vi 1 0,vi 0 0,vi 0 0,vi 3 0,vr 59,bE true,vi 181 0,vr 60,vn,vr 61,vr 62,vr 63,vi 259 0,vi 46 0,fcp 260]) #[])::(nat_lit 65,fo "columns_of" 12 3 [] vn vn vn (vs "manyleaves.atonce" 223) none (vr 64) vn 0)::(nat_lit 66,ot (#[]) #[])::(nat_lit 69,oc (#[vs "ladder_ties" 262,vs "ladder_ties" 263,fcp 264,vi 58 0,vi 1 0,vi 0 0,vi 0 0,vi 3 0,vr 66,bE true,vi 181 0,vr 67,vn,vn,vn,vr 68,vi 265 0,vi 58 0,fcp 266]) #[])::(nat_lit 70,fo "ladder_ties" 13 3 [] vn vn vn (vs "manyleaves.atonce" 223) none (vr 69) vn 0)::(nat_lit 71,ot (#[]) #[])::(nat_lit 74,oc (#[vs "busy_in_ladder" 268,vs "busy_in_ladder" 269,fcp 270,vi 63 0,vi 1 0,vi 0 0,vi 0 0,vi 3 0,vr 71,bE true,vi 181 0,vr 72,vn,vn,vn,vr 73,vi 271 0,vi 63 0,fcp 272]) #[])::(nat_lit 75,fo "busy_in_ladder" 14 3 [] vn vn vn (vs "manyleaves.atonce" 223) none (vr 74) vn 0)::(nat_lit 76,ot (#[]) #[])::(nat_lit 78,ot (#[vs "web" 277,vs "places" 278,vs "ties" 279,vs "columns" 280]) #[])::(nat_lit 79,ot (#[]) #[])::(nat_lit 81,oc (#[vs "at_once" 274,vs "at_once" 275,fcp 276,vi 67 0,vi 1 0,vi 0 0,vi 0 0,vi 3 0,vr 76,bE true,vi 181 0,vr 77,vn,vr 78,vr 79,vr 80,vi 281 0,vi 67 0,fcp 282]) #[])::(nat_lit 82,fo "at_once" 15 3 [] vn vn vn (vs "manyleaves.atonce" 223) none (vr 81) vn 0)::(nat_lit 83,ot (#[]) #[])::(nat_lit 85,ot (#[vs "_law_cell" 289,vs "_law_k" 290,vs "_law_number" 291]) #[])::(nat_lit 86,ot (#[]) #[])::(nat_lit 88,oc (#[vs "_law_mixed" 286,vs "_law_mixed" 287,fcp 288,vi 82 0,vi 2 0,vi 0 0,vi 0 0,vi 3 0,vr 83,bE true,vi 181 0,vr 84,vn,vr 85,vr 86,vr 87,vi 292 0,vi 82 0,fcp 293]) #[])::(nat_lit 89,fo "_law_mixed" 17 3 [] vn vn vn (vs "law_manyleaves_k64_ladders" 284) none (vr 88) vn 0)::(nat_lit 90,ot (#[]) #[])::(nat_lit 93,oc (#[vs "_law_deck" 295,vs "_law_deck" 296,fcp 297,vi 87 0,vi 2 0,vi 0 0,vi 0 0,vi 3 0,vr 90,bE true,vi 181 0,vr 91,vn,vn,vn,vr 92,vi 298 0,vi 87 0,fcp 299]) #[])::(nat_lit 94,fo "_law_deck" 18 3 [] vn vn vn (vs "law_manyleaves_k64_ladders" 284) none (vr 93) vn 0)::(nat_lit 95,ot (#[]) #[])::(nat_lit 97,ot (#[vs "_law_deck_here" 304]) #[])::(nat_lit 98,ot (#[]) #[])::(nat_lit 100,oc (#[vs "_law_next" 301,vs "_law_next" 302,fcp 303,vi 99 0,vi 1 0,vi 0 0,vi 0 0,vi 3 0,vr 95,bE true,vi 181 0,vr 96,vn,vr 97,vr 98,vr 99,vi 305 0,vi 99 0,fcp 306]) #[])::(nat_lit 101,fo "_law_next" 19 3 [] vn vn vn (vs "law_manyleaves_k64_ladders" 284) none (vr 100) vn 0)::(nat_lit 102,ot (#[]) #[])::(nat_lit 105,oc (#[vs "_law_turn" 308,vs "_law_turn" 309,fcp 310,vi 103 0,vi 2 0,vi 0 0,vi 0 0,vi 3 0,vr 102,bE true,vi 181 0,vr 103,vn,vn,vn,vr 104,vi 311 0,vi 103 0,fcp 312]) #[])::(nat_lit 106,fo "_law_turn" 20 3 [] vn vn vn (vs "law_manyleaves_k64_ladders" 284) none (vr 105) vn 0)::(nat_lit 107,ot (#[]) #[])::(nat_lit 110,oc (#[vs "_law_near" 314,vs "_law_near" 315,fcp 316,vi 105 0,vi 1 0,vi 0 0,vi 0 0,vi 3 0,vr 107,bE true,vi 181 0,vr 108,vn,vn,vn,vr 109,vi 317 0,vi 105 0,fcp 318]) #[])::(nat_lit 111,fo "_law_near" 21 3 [] vn vn vn (vs "law_manyleaves_k64_ladders" 284) none (vr 110) vn 0)::(nat_lit 112,ot (#[]) #[])::(nat_lit 114,ot (#[vs "_law_near_here" 323,vs "_law_start" 324,vs "_law_allowed" 325,vs "_law_found" 326,vs "_law_waiting" 327,vs "_law_other" 328]) #[])::(nat_lit 115,ot (#[]) #[])::(nat_lit 117,oc (#[vs "_law_reach" 320,vs "_law_reach" 321,fcp 322,vi 111 0,vi 3 0,vi 0 0,vi 0 0,vi 3 0,vr 112,bE true,vi 181 0,vr 113,vn,vr 114,vr 115,vr 116,vi 329 0,vi 111 0,fcp 330]) #[])::(nat_lit 118,fo "_law_reach" 22 3 [] vn vn vn (vs "law_manyleaves_k64_ladders" 284) none (vr 117) vn 0)::(nat_lit 119,ot (#[]) #[])::(nat_lit 121,ot (#[vs "_law_near_here" 335,vs "_law_places" 336]) #[])::(nat_lit 122,ot (#[]) #[])::(nat_lit 124,oc (#[vs "_law_hang" 332,vs "_law_hang" 333,fcp 334,vi 120 0,vi 2 0,vi 0 0,vi 0 0,vi 3 0,vr 119,bE true,vi 181 0,vr 120,vn,vr 121,vr 122,vr 123,vi 337 0,vi 120 0,fcp 338]) #[])::(nat_lit 125,fo "_law_hang" 23 3 [] vn vn vn (vs "law_manyleaves_k64_ladders" 284) none (vr 124) vn 0)::(nat_lit 126,ot (#[]) #[])::(nat_lit 128,ot (#[vs "_law_thing" 343,vs "_law_least" 344,vs "_law_most" 345]) #[])::(nat_lit 129,ot (#[]) #[])::(nat_lit 131,oc (#[vs "_law_is_int" 340,vs "_law_is_int" 341,fcp 342,vi 122 0,vi 3 0,vi 0 0,vi 0 0,vi 3 0,vr 126,bE true,vi 181 0,vr 127,vn,vr 128,vr 129,vr 130,vi 346 0,vi 122 0,fcp 347]) #[])::(nat_lit 132,fo "_law_is_int" 24 3 [] vn vn vn (vs "law_manyleaves_k64_ladders" 284) none (vr 131) vn 0)::(nat_lit 133,ot (#[]) #[])::(nat_lit 136,oc (#[vs "_law_is_tree" 349,vs "_law_is_tree" 350,fcp 351,vi 124 0,vi 2 0,vi 0 0,vi 0 0,vi 3 0,vr 133,bE true,vi 181 0,vr 134,vn,vn,vn,vr 135,vi 352 0,vi 124 0,fcp 353]) #[])::(nat_lit 137,fo "_law_is_tree" 25 3 [] vn vn vn (vs "law_manyleaves_k64_ladders" 284) none (vr 136) vn 0)::(nat_lit 138,ot (#[]) #[])::(nat_lit 140,ot (#[vs "_law_kind" 358,vs "_law_one" 359,vs "_law_a" 360,vs "_law_b" 361]) #[])::(nat_lit 141,ot (#[]) #[])::(nat_lit 143,oc (#[vs "_law_tied" 355,vs "_law_tied" 356,fcp 357,vi 135 0,vi 4 0,vi 0 0,vi 0 0,vi 3 0,vr 138,bE true,vi 181 0,vr 139,vn,vr 140,vr 141,vr 142,vi 362 0,vi 135 0,fcp 363]) #[])::(nat_lit 144,fo "_law_tied" 26 3 [] vn vn vn (vs "law_manyleaves_k64_ladders" 284) none (vr 143) vn 0)::(nat_lit 145,ot (#[]) #[])::(nat_lit 148,oc (#[vs "_law_kind_web" 365,vs "_law_kind_web" 366,fcp 367,vi 147 0,vi 3 0,vi 0 0,vi 0 0,vi 3 0,vr 145,bE true,vi 181 0,vr 146,vn,vn,vn,vr 147,vi 368 0,vi 147 0,fcp 369]) #[])::(nat_lit 149,fo "_law_kind_web" 27 3 [] vn vn vn (vs "law_manyleaves_k64_ladders" 284) none (vr 148) vn 0)::(nat_lit 150,ot (#[]) #[])::(nat_lit 153,oc (#[vs "_law_is_ladder" 371,vs "_law_is_ladder" 372,fcp 373,vi 153 0,vi 2 0,vi 0 0,vi 0 0,vi 3 0,vr 150,bE true,vi 181 0,vr 151,vn,vn,vn,vr 152,vi 374 0,vi 153 0,fcp 375]) #[])::(nat_lit 154,fo "_law_is_ladder" 28 3 [] vn vn vn (vs "law_manyleaves_k64_ladders" 284) none (vr 153) vn 0)::(nat_lit 155,ot (#[]) #[])::(nat_lit 158,oc (#[vs "_law_kind_of" 377,vs "_law_kind_of" 378,fcp 379,vi 172 0,vi 2 0,vi 0 0,vi 0 0,vi 3 0,vr 155,bE true,vi 181 0,vr 156,vn,vn,vn,vr 157,vi 380 0,vi 172 0,fcp 381]) #[])::(nat_lit 159,fo "_law_kind_of" 29 3 [] vn vn vn (vs "law_manyleaves_k64_ladders" 284) none (vr 158) vn 0)::(nat_lit 160,ot (#[]) #[])::(nat_lit 163,oc (#[vs "_law_leaves_due" 383,vs "_law_leaves_due" 384,fcp 385,vi 187 0,vi 2 0,vi 0 0,vi 0 0,vi 3 0,vr 160,bE true,vi 181 0,vr 161,vn,vn,vn,vr 162,vi 386 0,vi 187 0,fcp 387]) #[])::(nat_lit 164,fo "_law_leaves_due" 30 3 [] vn vn vn (vs "law_manyleaves_k64_ladders" 284) none (vr 163) vn 0)::(nat_lit 165,ot (#[]) #[])::(nat_lit 168,oc (#[vs "_law_right" 389,vs "_law_right" 390,fcp 391,vi 198 0,vi 1 0,vi 0 0,vi 0 0,vi 3 0,vr 165,bE true,vi 181 0,vr 166,vn,vn,vn,vr 167,vi 392 0,vi 198 0,fcp 393]) #[])::(nat_lit 169,fo "_law_right" 31 3 [] vn vn vn (vs "law_manyleaves_k64_ladders" 284) none (vr 168) vn 0)::(nat_lit 170,ot (#[]) #[])::(nat_lit 173,oc (#[vs "_law_led" 395,vs "_law_led" 396,fcp 397,vi 208 0,vi 2 0,vi 0 0,vi 0 0,vi 3 0,vr 170,bE true,vi 181 0,vr 171,vn,vn,vn,vr 172,vi 398 0,vi 208 0,fcp 399]) #[])::(nat_lit 174,fo "_law_led" 32 3 [] vn vn vn (vs "law_manyleaves_k64_ladders" 284) none (vr 173) vn 0)::(nat_lit 175,ot (#[]) #[])::(nat_lit 178,oc (#[vs "_law_moved" 401,vs "_law_moved" 402,fcp 403,vi 212 0,vi 2 0,vi 0 0,vi 0 0,vi 3 0,vr 175,bE true,vi 181 0,vr 176,vn,vn,vn,vr 177,vi 404 0,vi 212 0,fcp 405]) #[])::(nat_lit 179,fo "_law_moved" 33 3 [] vn vn vn (vs "law_manyleaves_k64_ladders" 284) none (vr 178) vn 0)::(nat_lit 180,ot (#[]) #[])::(nat_lit 183,oc (#[vs "_law_crossed" 407,vs "_law_crossed" 408,fcp 409,vi 225 0,vi 2 0,vi 0 0,vi 0 0,vi 3 0,vr 180,bE true,vi 181 0,vr 181,vn,vn,vn,vr 182,vi 410 0,vi 225 0,fcp 411]) #[])::(nat_lit 184,fo "_law_crossed" 34 3 [] vn vn vn (vs "law_manyleaves_k64_ladders" 284) none (vr 183) vn 0)::(nat_lit 185,ot (#[]) #[])::(nat_lit 187,ot (#[vs "_law_web" 416,vs "_law_crosswise" 417,vs "_law_columns" 418,vs "_law_more" 419]) #[])::(nat_lit 188,ot (#[]) #[])::(nat_lit 190,oc (#[vs "_law_closed" 413,vs "_law_closed" 414,fcp 415,vi 229 0,vi 2 0,vi 0 0,vi 0 0,vi 3 0,vr 185,bE true,vi 181 0,vr 186,vn,vr 187,vr 188,vr 189,vi 420 0,vi 229 0,fcp 421]) #[])::(nat_lit 191,fo "_law_closed" 35 3 [] vn vn vn (vs "law_manyleaves_k64_ladders" 284) none (vr 190) vn 0)::(nat_lit 192,ot (#[]) #[])::(nat_lit 194,ot (#[vs "_law_script" 426,vs "_law_deck_here" 427,vs "_law_turn_here" 428,vs "_law_columns" 429,vs "_law_web" 430,vs "_law_some" 431,vs "_law_one" 432]) #[])::(nat_lit 195,ot (#[]) #[])::(nat_lit 197,oc (#[vs "law" 423,vs "law" 424,fcp 425,vi 235 0,vi 1 0,vi 0 0,vi 0 0,vi 3 0,vr 192,bE true,vi 181 0,vr 193,vn,vr 194,vr 195,vr 196,vi 433 0,vi 235 0,fcp 434]) #[])::(nat_lit 198,fo "law" 36 3 [] vn vn vn (vs "law_manyleaves_k64_ladders" 284) none (vr 197) vn 0)::[]
def viewP:Program:={PySem.Challenge.pw_manyleaves_k64_ladders with main:={PySem.Challenge.pw_manyleaves_k64_ladders.main with body:=[top 1,top 2,top 4,top 6,top 8,top 9,top 10,top 11,top 12,top 13,top 14,top 15,top 17,top 18,top 19,top 20,top 21,top 22,top 23,top 24,top 25,top 26,top 27,top 28,top 29,top 30,top 31,top 32,top 33,top 34,top 35,top 36]}}
def addrs:List Addr:=[2,3,15,17,18,20,21,22,25,26,27,29,30,32,33,34,37,38,39,42,43,44,47,48,49,52,53,54,57,58,59,61,62,64,65,66,69,70,71,74,75,76,78,79,81,82,83,85,86,88,89,90,93,94,95,97,98,100,101,102,105,106,107,110,111,112,114,115,117,118,119,121,122,124,125,126,128,129,131,132,133,136,137,138,140,141,143,144,145,148,149,150,153,154,155,158,159,160,163,164,165,168,169,170,173,174,175,178,179,180,183,184,185,187,188,190,191,192,194,195,197,198]
theorem addr:∀ P,addrs=(heapK P).map (·.1):=λ_=>by kernel_rfl
abbrev A_ (K:ah)(n:Str)(f:Addr):Prop:=cA K mainGlobals n=some (some (.ref f))
abbrev L_ (K:ah)(f:Addr)(oc:Value)(od:Option Addr)(n:Str)(i:Nat)(kv dc pm:Value)(an:Option Addr)(cd ct:Value)(sl:Array (Option Value)):Prop:=K.lookup f=some ⟨oc,od,.func (eR n n (X5 (top i)) (U7 (top i)) (B7 (top i)) .none kv dc pm an cd ct),sl⟩
abbrev C_ (K:ah)(cd:Value)(n:Str):Prop:=gI K cd n=true
abbrev J_ (K:ah)(f:Addr):Prop:=gH K (.ref f)=true
theorem all_mk {l:iB}{w:World}{K:ah}{h:Heap}{mg:Str->Option Value}(X:K.In h)(G:h.Ns mainGlobals mg)(hfa:mg "law"=some (.ref fa))(a1:A_ K "neighbour_rows" f1)(l1:L_ K f1 oc1 od1 "neighbour_rows" 2 kV1 dc1 pm1 an1 cd1 ct1 sl1)(c1:C_ K cd1 "neighbour_rows")(k1:J_ K f1)(a2:A_ K "tie_of" f2)(l2:L_ K f2 oc2 od2 "tie_of" 1 kV2 dc2 pm2 an2 cd2 ct2 sl2)(c2:C_ K cd2 "tie_of")(k2:J_ K f2)(a3:A_ K "tree_of" f3)(l3:L_ K f3 oc3 od3 "tree_of" 4 kV3 dc3 pm3 an3 cd3 ct3 sl3)(c3:C_ K cd3 "tree_of")(k3:J_ K f3)(a4:A_ K "tree_by" f4)(l4:L_ K f4 oc4 od4 "tree_by" 6 kV4 dc4 pm4 an4 cd4 ct4 sl4)(c4:C_ K cd4 "tree_by")(k4:J_ K f4)(a5:A_ K "is_ring" f5)(l5:L_ K f5 oc5 od5 "is_ring" 8 kV5 dc5 pm5 an5 cd5 ct5 sl5)(c5:C_ K cd5 "is_ring")(k5:J_ K f5)(a6:A_ K "is_sides" f6)(l6:L_ K f6 oc6 od6 "is_sides" 9 kV6 dc6 pm6 an6 cd6 ct6 sl6)(c6:C_ K cd6 "is_sides")(k6:J_ K f6)(a7:A_ K "end_columns" f7)(l7:L_ K f7 oc7 od7 "end_columns" 10 kV7 dc7 pm7 an7 cd7 ct7 sl7)(c7:C_ K cd7 "end_columns")(k7:J_ K f7)(a8:A_ K "next_columns" f8)(l8:L_ K f8 oc8 od8 "next_columns" 11 kV8 dc8 pm8 an8 cd8 ct8 sl8)(c8:C_ K cd8 "next_columns")(k8:J_ K f8)(a9:A_ K "columns_of" f9)(l9:L_ K f9 oc9 od9 "columns_of" 12 kV9 dc9 pm9 an9 cd9 ct9 sl9)(c9:C_ K cd9 "columns_of")(k9:J_ K f9)(a10:A_ K "ladder_ties" f10)(l10:L_ K f10 oc10 od10 "ladder_ties" 13 kV10 dc10 pm10 an10 cd10 ct10 sl10)(c10:C_ K cd10 "ladder_ties")(k10:J_ K f10)(a11:A_ K "busy_in_ladder" f11)(l11:L_ K f11 oc11 od11 "busy_in_ladder" 14 kV11 dc11 pm11 an11 cd11 ct11 sl11)(c11:C_ K cd11 "busy_in_ladder")(k11:J_ K f11)(a12:A_ K "at_once" f12)(l12:L_ K f12 oc12 od12 "at_once" 15 kV12 dc12 pm12 an12 cd12 ct12 sl12)(c12:C_ K cd12 "at_once")(k12:J_ K f12)(a13:A_ K "_law_is_ladder" f13)(l13:L_ K f13 oc13 od13 "_law_is_ladder" 28 kV13 dc13 pm13 an13 cd13 ct13 sl13)(c13:C_ K cd13 "_law_is_ladder")(k13:J_ K f13)(a14:A_ K "_law_kind_of" f14)(l14:L_ K f14 oc14 od14 "_law_kind_of" 29 kV14 dc14 pm14 an14 cd14 ct14 sl14)(c14:C_ K cd14 "_law_kind_of")(k14:J_ K f14)(a15:A_ K "_law_leaves_due" f15)(l15:L_ K f15 oc15 od15 "_law_leaves_due" 30 kV15 dc15 pm15 an15 cd15 ct15 sl15)(c15:C_ K cd15 "_law_leaves_due")(k15:J_ K f15)(a16:A_ K "_law_mixed" f16)(l16:L_ K f16 oc16 od16 "_law_mixed" 17 kV16 dc16 pm16 an16 cd16 ct16 sl16)(c16:C_ K cd16 "_law_mixed")(k16:J_ K f16)(a17:A_ K "_law_next" f17)(l17:L_ K f17 oc17 od17 "_law_next" 19 kV17 dc17 pm17 an17 cd17 ct17 sl17)(c17:C_ K cd17 "_law_next")(k17:J_ K f17)(a18:A_ K "_law_deck" f18)(l18:L_ K f18 oc18 od18 "_law_deck" 18 kV18 dc18 pm18 an18 cd18 ct18 sl18)(c18:C_ K cd18 "_law_deck")(k18:J_ K f18)(a19:A_ K "_law_turn" f19)(l19:L_ K f19 oc19 od19 "_law_turn" 20 kV19 dc19 pm19 an19 cd19 ct19 sl19)(c19:C_ K cd19 "_law_turn")(k19:J_ K f19)(a20:A_ K "_law_near" f20)(l20:L_ K f20 oc20 od20 "_law_near" 21 kV20 dc20 pm20 an20 cd20 ct20 sl20)(c20:C_ K cd20 "_law_near")(k20:J_ K f20)(a21:A_ K "_law_near" f21)(l21:L_ K f21 oc21 od21 "_law_near" 21 kV21 dc21 pm21 an21 cd21 ct21 sl21)(c21:C_ K cd21 "_law_near")(k21:J_ K f21)(a22:A_ K "_law_reach" f22)(l22:L_ K f22 oc22 od22 "_law_reach" 22 kV22 dc22 pm22 an22 cd22 ct22 sl22)(c22:C_ K cd22 "_law_reach")(k22:J_ K f22)(a23:A_ K "_law_hang" f23)(l23:L_ K f23 oc23 od23 "_law_hang" 23 kV23 dc23 pm23 an23 cd23 ct23 sl23)(c23:C_ K cd23 "_law_hang")(k23:J_ K f23)(a24:A_ K "_law_hang" f24)(l24:L_ K f24 oc24 od24 "_law_hang" 23 kV24 dc24 pm24 an24 cd24 ct24 sl24)(c24:C_ K cd24 "_law_hang")(k24:J_ K f24)(a25:A_ K "_law_is_int" f25)(l25:L_ K f25 oc25 od25 "_law_is_int" 24 kV25 dc25 pm25 an25 cd25 ct25 sl25)(c25:C_ K cd25 "_law_is_int")(k25:J_ K f25)(a26:A_ K "_law_is_tree" f26)(l26:L_ K f26 oc26 od26 "_law_is_tree" 25 kV26 dc26 pm26 an26 cd26 ct26 sl26)(c26:C_ K cd26 "_law_is_tree")(k26:J_ K f26)(a27:A_ K "_law_tied" f27)(l27:L_ K f27 oc27 od27 "_law_tied" 26 kV27 dc27 pm27 an27 cd27 ct27 sl27)(c27:C_ K cd27 "_law_tied")(k27:J_ K f27)(a28:A_ K "_law_kind_web" f28)(l28:L_ K f28 oc28 od28 "_law_kind_web" 27 kV28 dc28 pm28 an28 cd28 ct28 sl28)(c28:C_ K cd28 "_law_kind_web")(k28:J_ K f28)(a29:A_ K "_law_right" f29)(l29:L_ K f29 oc29 od29 "_law_right" 31 kV29 dc29 pm29 an29 cd29 ct29 sl29)(c29:C_ K cd29 "_law_right")(k29:J_ K f29)(a30:A_ K "_law_led" f30)(l30:L_ K f30 oc30 od30 "_law_led" 32 kV30 dc30 pm30 an30 cd30 ct30 sl30)(c30:C_ K cd30 "_law_led")(k30:J_ K f30)(a31:A_ K "_law_moved" f31)(l31:L_ K f31 oc31 od31 "_law_moved" 33 kV31 dc31 pm31 an31 cd31 ct31 sl31)(c31:C_ K cd31 "_law_moved")(k31:J_ K f31)(a32:A_ K "_law_crossed" f32)(l32:L_ K f32 oc32 od32 "_law_crossed" 34 kV32 dc32 pm32 an32 cd32 ct32 sl32)(c32:C_ K cd32 "_law_crossed")(k32:J_ K f32)(a33:A_ K "_law_closed" f33)(l33:L_ K f33 oc33 od33 "_law_closed" 35 kV33 dc33 pm33 an33 cd33 ct33 sl33)(c33:C_ K cd33 "_law_closed")(k33:J_ K f33)(a34:A_ K "law" f34)(l34:L_ K f34 oc34 od34 "law" 36 kV34 dc34 pm34 an34 cd34 ct34 sl34)(c34:C_ K cd34 "law")(k34:J_ K f34)
  (z1:cA K mainGlobals "len"=some none) (z2:cA K mainGlobals "range"=some none) (z3:cA K mainGlobals "list"=some none) (z4:cA K mainGlobals "tuple"=some none) (z5:cA K mainGlobals "sorted"=some none) (z6:cA K mainGlobals "min"=some none) (z7:cA K mainGlobals "max"=some none) (z8:cA K mainGlobals "int"=some none) (z9:cA K mainGlobals "reversed"=some none) (z10:cA K mainGlobals "isinstance"=some none) (z11:cA K mainGlobals "bool"=some none) (z12:cA K mainGlobals "all"=some none) (z13:cA K mainGlobals "set"=some none) (z14:cA K mainGlobals "enumerate"=some none) (z15:cA K mainGlobals "zip"=some none) :
  ∃ fd:FuncData,(∀(s:Shared) (v:Value),BindsTo s fd ⟨[v],[]⟩ [("_law_script",v)])/\∀ base:Heap,K.In base->base.Ns mainGlobals mg->E1 l.prog w K mg base CX0 7 fa fd ["_law_script"] (sp_law K):=by
 have e:=hfa.symm.trans (bf X G a34);cases e;have B:Bt mg:=⟨bO X G z1,bO X G z2,bO X G z3,bO X G z4,bO X G z5,bO X G z6,bO X G z7,bO X G z8,bO X G z9⟩
 have C:Bt2 mg:=⟨bO X G z10,bO X G z11,bO X G z12,bO X G z13,bO X G z14,bO X G z15⟩
 have F1:=I0 (st:=top 2) l1 c1 k1;have D1:Df K mg "neighbour_rows" (top 2) f1 _ ["web"]:=⟨F1,F1.binds λ_ _ _ _ _ _ us hl=>L2.al1 (P:=λus=>bindArgs _ ⟨us,[]⟩=pure (cf _ us)) (λ_=>rfl) us hl,bf X G a1⟩
 have F2:=I0 (st:=top 1) l2 c2 k2;have D2:Df K mg "tie_of" (top 1) f2 _ ["one", "other"]:=⟨F2,F2.binds λ_ _ _ _ _ _ us hl=>L2.al2 (P:=λus=>bindArgs _ ⟨us,[]⟩=pure (cf _ us)) (λ_ _=>rfl) us hl,bf X G a2⟩
 have F3:=I0 (st:=top 4) l3 c3 k3;have D3:Df K mg "tree_of" (top 4) f3 _ ["parents"]:=⟨F3,F3.binds λ_ _ _ _ _ _ us hl=>L2.al1 (P:=λus=>bindArgs _ ⟨us,[]⟩=pure (cf _ us)) (λ_=>rfl) us hl,bf X G a3⟩
 have F4:=I0 (st:=top 6) l4 c4 k4;have D4:Df K mg "tree_by" (top 6) f4 _ ["web", "busy"]:=⟨F4,F4.binds λ_ _ _ _ _ _ us hl=>L2.al2 (P:=λus=>bindArgs _ ⟨us,[]⟩=pure (cf _ us)) (λ_ _=>rfl) us hl,bf X G a4⟩
 have F5:=I0 (st:=top 8) l5 c5 k5;have D5:Df K mg "is_ring" (top 8) f5 _ ["web"]:=⟨F5,F5.binds λ_ _ _ _ _ _ us hl=>L2.al1 (P:=λus=>bindArgs _ ⟨us,[]⟩=pure (cf _ us)) (λ_=>rfl) us hl,bf X G a5⟩
 have F6:=I0 (st:=top 9) l6 c6 k6;have D6:Df K mg "is_sides" (top 9) f6 _ ["web"]:=⟨F6,F6.binds λ_ _ _ _ _ _ us hl=>L2.al1 (P:=λus=>bindArgs _ ⟨us,[]⟩=pure (cf _ us)) (λ_=>rfl) us hl,bf X G a6⟩
 have F7:=I0 (st:=top 10) l7 c7 k7;have D7:Df K mg "end_columns" (top 10) f7 _ ["rows"]:=⟨F7,F7.binds λ_ _ _ _ _ _ us hl=>L2.al1 (P:=λus=>bindArgs _ ⟨us,[]⟩=pure (cf _ us)) (λ_=>rfl) us hl,bf X G a7⟩
 have F8:=I0 (st:=top 11) l8 c8 k8;have D8:Df K mg "next_columns" (top 11) f8 _ ["rows", "met", "column"]:=⟨F8,F8.binds λ_ _ _ _ _ _ us hl=>L2.al3 (P:=λus=>bindArgs _ ⟨us,[]⟩=pure (cf _ us)) (λ_ _ _=>rfl) us hl,bf X G a8⟩
 have F9:=I0 (st:=top 12) l9 c9 k9;have D9:Df K mg "columns_of" (top 12) f9 _ ["web"]:=⟨F9,F9.binds λ_ _ _ _ _ _ us hl=>L2.al1 (P:=λus=>bindArgs _ ⟨us,[]⟩=pure (cf _ us)) (λ_=>rfl) us hl,bf X G a9⟩
 have F10:=I0 (st:=top 13) l10 c10 k10;have D10:Df K mg "ladder_ties" (top 13) f10 _ ["columns"]:=⟨F10,F10.binds λ_ _ _ _ _ _ us hl=>L2.al1 (P:=λus=>bindArgs _ ⟨us,[]⟩=pure (cf _ us)) (λ_=>rfl) us hl,bf X G a10⟩
 have F11:=I0 (st:=top 14) l11 c11 k11;have D11:Df K mg "busy_in_ladder" (top 14) f11 _ ["columns"]:=⟨F11,F11.binds λ_ _ _ _ _ _ us hl=>L2.al1 (P:=λus=>bindArgs _ ⟨us,[]⟩=pure (cf _ us)) (λ_=>rfl) us hl,bf X G a11⟩
 have F12:=I0 (st:=top 15) l12 c12 k12;have D12:Df K mg "at_once" (top 15) f12 _ ["web"]:=⟨F12,F12.binds λ_ _ _ _ _ _ us hl=>L2.al1 (P:=λus=>bindArgs _ ⟨us,[]⟩=pure (cf _ us)) (λ_=>rfl) us hl,bf X G a12⟩
 have F13:=I0 (st:=top 28) l13 c13 k13;have D13:Df K mg "_law_is_ladder" (top 28) f13 _ ["_law_web", "_law_near_here"]:=⟨F13,F13.binds λ_ _ _ _ _ _ us hl=>L2.al2 (P:=λus=>bindArgs _ ⟨us,[]⟩=pure (cf _ us)) (λ_ _=>rfl) us hl,bf X G a13⟩
 have F14:=I0 (st:=top 29) l14 c14 k14;have D14:Df K mg "_law_kind_of" (top 29) f14 _ ["_law_web", "_law_near_here"]:=⟨F14,F14.binds λ_ _ _ _ _ _ us hl=>L2.al2 (P:=λus=>bindArgs _ ⟨us,[]⟩=pure (cf _ us)) (λ_ _=>rfl) us hl,bf X G a14⟩
 have F15:=I0 (st:=top 30) l15 c15 k15;have D15:Df K mg "_law_leaves_due" (top 30) f15 _ ["_law_word", "_law_near_here"]:=⟨F15,F15.binds λ_ _ _ _ _ _ us hl=>L2.al2 (P:=λus=>bindArgs _ ⟨us,[]⟩=pure (cf _ us)) (λ_ _=>rfl) us hl,bf X G a15⟩
 have F16:=I0 (st:=top 17) l16 c16 k16;have D16:Df K mg "_law_mixed" (top 17) f16 _ ["_law_cell", "_law_k"]:=⟨F16,F16.binds λ_ _ _ _ _ _ us hl=>L2.al2 (P:=λus=>bindArgs _ ⟨us,[]⟩=pure (cf _ us)) (λ_ _=>rfl) us hl,bf X G a16⟩
 have F17:=I0 (st:=top 19) l17 c17 k17;have D17:Df K mg "_law_next" (top 19) f17 _ ["_law_deck_here"]:=⟨F17,F17.binds λ_ _ _ _ _ _ us hl=>L2.al1 (P:=λus=>bindArgs _ ⟨us,[]⟩=pure (cf _ us)) (λ_=>rfl) us hl,bf X G a17⟩
 have F18:=I0 (st:=top 18) l18 c18 k18;have D18:Df K mg "_law_deck" (top 18) f18 _ ["_law_script", "_law_many"]:=⟨F18,F18.binds λ_ _ _ _ _ _ us hl=>L2.al2 (P:=λus=>bindArgs _ ⟨us,[]⟩=pure (cf _ us)) (λ_ _=>rfl) us hl,bf X G a18⟩
 have F19:=I0 (st:=top 20) l19 c19 k19;have D19:Df K mg "_law_turn" (top 20) f19 _ ["_law_deck_here", "_law_many"]:=⟨F19,F19.binds λ_ _ _ _ _ _ us hl=>L2.al2 (P:=λus=>bindArgs _ ⟨us,[]⟩=pure (cf _ us)) (λ_ _=>rfl) us hl,bf X G a19⟩
 have F20:=I0 (st:=top 21) l20 c20 k20;have D20:Df K mg "_law_near" (top 21) f20 _ ["_law_web"]:=⟨F20,F20.binds λ_ _ _ _ _ _ us hl=>L2.al1 (P:=λus=>bindArgs _ ⟨us,[]⟩=pure (cf _ us)) (λ_=>rfl) us hl,bf X G a20⟩
 have F21:=I0 (st:=top 21) l21 c21 k21;have D21:Df K mg "_law_near" (top 21) f21 _ ["_law_web"]:=⟨F21,F21.binds λ_ _ _ _ _ _ us hl=>L2.al1 (P:=λus=>bindArgs _ ⟨us,[]⟩=pure (cf _ us)) (λ_=>rfl) us hl,bf X G a21⟩
 have F22:=I0 (st:=top 22) l22 c22 k22;have D22:Df K mg "_law_reach" (top 22) f22 _ ["_law_near_here", "_law_start", "_law_allowed"]:=⟨F22,F22.binds λ_ _ _ _ _ _ us hl=>L2.al3 (P:=λus=>bindArgs _ ⟨us,[]⟩=pure (cf _ us)) (λ_ _ _=>rfl) us hl,bf X G a22⟩
 have F23:=I0 (st:=top 23) l23 c23 k23;have D23:Df K mg "_law_hang" (top 23) f23 _ ["_law_near_here", "_law_places"]:=⟨F23,F23.binds λ_ _ _ _ _ _ us hl=>L2.al2 (P:=λus=>bindArgs _ ⟨us,[]⟩=pure (cf _ us)) (λ_ _=>rfl) us hl,bf X G a23⟩
 have F24:=I0 (st:=top 23) l24 c24 k24;have D24:Df K mg "_law_hang" (top 23) f24 _ ["_law_near_here", "_law_places"]:=⟨F24,F24.binds λ_ _ _ _ _ _ us hl=>L2.al2 (P:=λus=>bindArgs _ ⟨us,[]⟩=pure (cf _ us)) (λ_ _=>rfl) us hl,bf X G a24⟩
 have F25:=I0 (st:=top 24) l25 c25 k25;have D25:Df K mg "_law_is_int" (top 24) f25 _ ["_law_thing", "_law_least", "_law_most"]:=⟨F25,F25.binds λ_ _ _ _ _ _ us hl=>L2.al3 (P:=λus=>bindArgs _ ⟨us,[]⟩=pure (cf _ us)) (λ_ _ _=>rfl) us hl,bf X G a25⟩
 have F26:=I0 (st:=top 25) l26 c26 k26;have D26:Df K mg "_law_is_tree" (top 25) f26 _ ["_law_web", "_law_thing"]:=⟨F26,F26.binds λ_ _ _ _ _ _ us hl=>L2.al2 (P:=λus=>bindArgs _ ⟨us,[]⟩=pure (cf _ us)) (λ_ _=>rfl) us hl,bf X G a26⟩
 have F27:=I0 (st:=top 26) l27 c27 k27;have D27:Df K mg "_law_tied" (top 26) f27 _ ["_law_kind", "_law_one", "_law_a", "_law_b"]:=⟨F27,F27.binds λ_ _ _ _ _ _ us hl=>L2.al4 (P:=λus=>bindArgs _ ⟨us,[]⟩=pure (cf _ us)) (λ_ _ _ _=>rfl) us hl,bf X G a27⟩
 have F28:=I0 (st:=top 27) l28 c28 k28;have D28:Df K mg "_law_kind_web" (top 27) f28 _ ["_law_kind", "_law_one", "_law_other"]:=⟨F28,F28.binds λ_ _ _ _ _ _ us hl=>L2.al3 (P:=λus=>bindArgs _ ⟨us,[]⟩=pure (cf _ us)) (λ_ _ _=>rfl) us hl,bf X G a28⟩
 have F29:=I0 (st:=top 31) l29 c29 k29;have D29:Df K mg "_law_right" (top 31) f29 _ ["_law_web"]:=⟨F29,F29.binds λ_ _ _ _ _ _ us hl=>L2.al1 (P:=λus=>bindArgs _ ⟨us,[]⟩=pure (cf _ us)) (λ_=>rfl) us hl,bf X G a29⟩
 have F30:=I0 (st:=top 32) l30 c30 k30;have D30:Df K mg "_law_led" (top 32) f30 _ ["_law_deck_here", "_law_web"]:=⟨F30,F30.binds λ_ _ _ _ _ _ us hl=>L2.al2 (P:=λus=>bindArgs _ ⟨us,[]⟩=pure (cf _ us)) (λ_ _=>rfl) us hl,bf X G a30⟩
 have F31:=I0 (st:=top 33) l31 c31 k31;have D31:Df K mg "_law_moved" (top 33) f31 _ ["_law_deck_here", "_law_web"]:=⟨F31,F31.binds λ_ _ _ _ _ _ us hl=>L2.al2 (P:=λus=>bindArgs _ ⟨us,[]⟩=pure (cf _ us)) (λ_ _=>rfl) us hl,bf X G a31⟩
 have F32:=I0 (st:=top 34) l32 c32 k32;have D32:Df K mg "_law_crossed" (top 34) f32 _ ["_law_web", "_law_k"]:=⟨F32,F32.binds λ_ _ _ _ _ _ us hl=>L2.al2 (P:=λus=>bindArgs _ ⟨us,[]⟩=pure (cf _ us)) (λ_ _=>rfl) us hl,bf X G a32⟩
 have F33:=I0 (st:=top 35) l33 c33 k33;have D33:Df K mg "_law_closed" (top 35) f33 _ ["_law_web", "_law_crosswise"]:=⟨F33,F33.binds λ_ _ _ _ _ _ us hl=>L2.al2 (P:=λus=>bindArgs _ ⟨us,[]⟩=pure (cf _ us)) (λ_ _=>rfl) us hl,bf X G a33⟩
 have F34:=I0 (st:=top 36) l34 c34 k34;refine⟨eR "law" "law" (X5 (top 36)) (U7 (top 36)) (B7 (top 36)) .none kV34 dc34 pm34 an34 cd34 ct34,λs v=>.of_eq rfl,λbase _ _=>?_⟩;have O1:=a8w (P:=l.prog) (w:=w) (base:=base) F1 B;have O2:=a8u (P:=l.prog) (w:=w) (base:=base) F2 B C;have O3:=a5H (P:=l.prog) (w:=w) (base:=base) F3 B D2 O2 C;have O4:=a7c (P:=l.prog) (w:=w) (base:=base) F4 B D1 O1 D3 O3;have O5:=a7g (P:=l.prog) (w:=w) (base:=base) F5 B D1 O1 C;have O6:=a7h (P:=l.prog) (w:=w) (base:=base) F6 B D1 O1 C;have O7:=a5J (P:=l.prog) (w:=w) (base:=base) F7 B C;have O8:=a4U (P:=l.prog) (w:=w) (base:=base) F8 B;have O9:=a7j (P:=l.prog) (w:=w) (base:=base) F9 B D1 O1 D7 O7 D8 O8 C;have O10:=a2z (P:=l.prog) (w:=w) (base:=base) F10 B D2 O2 C;have O11:=a2A (P:=l.prog) (w:=w) (base:=base) F11 B;have O12:=a7k (P:=l.prog) (w:=w) (base:=base) F12 B D5 O5 D6 O6 D4 O4 D1 O1 D9 O9 D10 O10 D11 O11 C;have O13:=a3V (P:=l.prog) (w:=w) (base:=base) F13 B C;have O14:=a5I (P:=l.prog) (w:=w) (base:=base) F14 B D13 O13 C;have O15:=a2y (P:=l.prog) (w:=w) (base:=base) F15 B C;have O16:=a8y (P:=l.prog) (w:=w) (base:=base) F16 B;have O17:=b0b (P:=l.prog) (w:=w) (base:=base) F17 B;have O18:=b0e (P:=l.prog) (w:=w) (base:=base) F18 B D16 O16;have O19:=b0a (P:=l.prog) (w:=w) (base:=base) F19 B D17 O17;have O20:=b0c (P:=l.prog) (w:=w) (base:=base) F20 B;have O21:=a8x (P:=l.prog) (w:=w) (base:=base) F21 B;have O22:=a8v (P:=l.prog) (w:=w) (base:=base) F22 B;have O23:=b0d (P:=l.prog) (w:=w) (base:=base) F23 B D22 O22;have O24:=a7i (P:=l.prog) (w:=w) (base:=base) F24 B D22 O22;have O25:=a8C (P:=l.prog) (w:=w) (base:=base) F25 B C;have O26:=a7f (P:=l.prog) (w:=w) (base:=base) F26 B D25 O25 D20 O20 D23 O23 C;have O27:=a8z (P:=l.prog) (w:=w) (base:=base) F27 B;have O28:=a8A (P:=l.prog) (w:=w) (base:=base) F28 B D27 O27;have O29:=a4V (P:=l.prog) (w:=w) (base:=base) F29 B D20 O20 D14 O14 D12 O12 D26 O26 D15 O15 C;have O30:=a7e (P:=l.prog) (w:=w) (base:=base) F30 B D19 O19 C;have O31:=a7d (P:=l.prog) (w:=w) (base:=base) F31 B D17 O17 D21 O21 D24 O24 C;have O32:=a4W (P:=l.prog) (w:=w) (base:=base) F32 B C;have O33:=a3W (P:=l.prog) (w:=w) (base:=base) F33 B C;exact a8B F34 B D18 O18 D17 O17 D28 O28 D32 O32 D33 O33 D31 O31 D30 O30 D29 O29
theorem walk {l:iB}{q:Program}{loose:List Str}{XP:(Str->Option Value)->Heap->Prop}{YP:World->Heap->Prop}{d:DefRec}{K:Params->ah}(hn:l.most=some 63)(hdf:d.params.defaults=[])
  (hY:∀(w:World) (h:Heap),YP w h->(K w.params).In h)
  (F:∀(w:World) (mg:Str->Option Value) (fa:Addr) (h:Heap),(K w.params).In h->h.Ns mainGlobals mg->mg d.name=some (.ref fa) ->
   ∃ fd:FuncData,(∀(s:Shared) (u:Value),BindsTo s fd ⟨[u],[]⟩ [("_law_script",u)])/\∀ base:Heap,(K w.params).In base->base.Ns mainGlobals mg->E1 l.prog w (K w.params) mg base CX0 7 fa fd ["_law_script"] (sp_law (K w.params))) :
  PySem.W.WalkO q loose XP YP l.row.toRowW d [] (λf vs=>jW f vs) :=
 L2.a6b (n:=63) (k:=7) (x:="_law_script") (CX:=λ_=>CX0) (sp:=λw=>sp_law (K w.params)) hn (by decide) hdf ⟨rfl,by decide,by decide,rfl⟩ hY F (λ_ _ a ns hl _ hS=>⟨a,ns,rfl,hS,hl,λ_=>rfl⟩) λ_ _ _ _ _ z=>z
end K64
end
open PySem PySem.W PyProof.Rows
set_option maxRecDepth 100000 in
set_option maxHeartbeats 0 in
theorem K64.said:PySem.Challenge.rw_manyleaves_k64_ladders.wellSaid=true:=by kernel_rfl
set_option maxRecDepth 100000 in
set_option maxHeartbeats 0 in
theorem K64.left:LeftO (iI (jw PySem.Challenge.rw_manyleaves_k64_ladders)).prog K64.viewP [] (λs=>xlAt K64.viewP [] s && recOk (RowW.records (iI (jw PySem.Challenge.rw_manyleaves_k64_ladders))) s) (Hook.obs (kHook K64.heapK K64.addrs K64.addr)) (Hook.val (kHook K64.heapK K64.addrs K64.addr)) 2022:=by intro w;kernel_rfl
set_option maxRecDepth 100000 in
set_option maxHeartbeats 0 in
theorem PySem.Challenge.cw_manyleaves_k64_ladders_holds : PySem.Challenge.rw_manyleaves_k64_ladders.Holds := by
 w_on;refine holds_law K64.said λsaid=>?_
 refine holds_open (q:=K64.viewP) (loose:=[]) (Xt:=λs=>xlAt K64.viewP [] s && recOk (RowW.records (iI (jw PySem.Challenge.rw_manyleaves_k64_ladders))) s) (XP:=XL K64.viewP []) (Yf:=Hook.obs (kHook K64.heapK K64.addrs K64.addr)) (Ya:=Hook.val (kHook K64.heapK K64.addrs K64.addr)) (YP:=Hook.says (kHook K64.heapK K64.addrs K64.addr)) (N:=2022) K64.left (Hook.of (kHook K64.heapK K64.addrs K64.addr)) (Hook.keeps (kHook K64.heapK K64.addrs K64.addr)) (λs e=>xl_of s (jN.mp e).1) XL.keeps (by rfl) (by rfl) (by rfl) (λs e=>recFacts_of (jN.mp e).2) (by rfl) said (by decide +kernel) ⟨rfl,rfl,rfl,rfl,rfl,by decide +kernel⟩ ?hw ?hc
 (case hw=>w_witness2)
 k_fill
 refine K64.walk (l:=PySem.Challenge.rw_manyleaves_k64_ladders) rfl rfl (λw h Y=>PySem.W.kIn_of Y) ?F
 case F =>
  intro w mg fa h KX G hmg;refine' K64.all_mk KX G hmg ?a1 ?l1 ?c1 ?k1 ?a2 ?l2 ?c2 ?k2 ?a3 ?l3 ?c3 ?k3 ?a4 ?l4 ?c4 ?k4 ?a5 ?l5 ?c5 ?k5 ?a6 ?l6 ?c6 ?k6 ?a7 ?l7 ?c7 ?k7 ?a8 ?l8 ?c8 ?k8 ?a9 ?l9 ?c9 ?k9 ?a10 ?l10 ?c10 ?k10 ?a11 ?l11 ?c11 ?k11 ?a12 ?l12 ?c12 ?k12 ?a13 ?l13 ?c13 ?k13 ?a14 ?l14 ?c14 ?k14 ?a15 ?l15 ?c15 ?k15 ?a16 ?l16 ?c16 ?k16 ?a17 ?l17 ?c17 ?k17 ?a18 ?l18 ?c18 ?k18 ?a19 ?l19 ?c19 ?k19 ?a20 ?l20 ?c20 ?k20 ?a21 ?l21 ?c21 ?k21 ?a22 ?l22 ?c22 ?k22 ?a23 ?l23 ?c23 ?k23 ?a24 ?l24 ?c24 ?k24 ?a25 ?l25 ?c25 ?k25 ?a26 ?l26 ?c26 ?k26 ?a27 ?l27 ?c27 ?k27 ?a28 ?l28 ?c28 ?k28 ?a29 ?l29 ?c29 ?k29 ?a30 ?l30 ?c30 ?k30 ?a31 ?l31 ?c31 ?k31 ?a32 ?l32 ?c32 ?k32 ?a33 ?l33 ?c33 ?k33 ?a34 ?l34 ?c34 ?k34 ?z1 ?z2 ?z3 ?z4 ?z5 ?z6 ?z7 ?z8 ?z9 ?z10 ?z11 ?z12 ?z13 ?z14 ?z15
  (case a1|a2|a3|a4|a5|a6|a7|a8|a9|a10|a11|a12|a13|a14|a15|a16|a17|a18|a19|a20|a21|a22|a23|a24|a25|a26|a27|a28|a29|a30|a31|a32|a33|a34=>unfold K64.A_;k_is)
  (case l1|l2|l3|l4|l5|l6|l7|l8|l9|l10|l11|l12|l13|l14|l15|l16|l17|l18|l19|l20|l21|l22|l23|l24|l25|l26|l27|l28|l29|l30|l31|l32|l33|l34=>unfold K64.L_;k_is)
  (case c1|c2|c3|c4|c5|c6|c7|c8|c9|c10|c11|c12|c13|c14|c15|c16|c17|c18|c19|c20|c21|c22|c23|c24|c25|c26|c27|c28|c29|c30|c31|c32|c33|c34=>unfold K64.C_;k_is)
  (case k1|k2|k3|k4|k5|k6|k7|k8|k9|k10|k11|k12|k13|k14|k15|k16|k17|k18|k19|k20|k21|k22|k23|k24|k25|k26|k27|k28|k29|k30|k31|k32|k33|k34=>unfold K64.J_;k_is)
  (case z1|z2|z3|z4|z5|z6|z7|z8|z9|z10|z11|z12|z13|z14|z15=>k_is)
