import PyProof.Rows.All
import Wide.All
import OpenK.AllK
import Wide.FinOn
import Lean
import PyProof.EqAt
import PyProof.EqKinds
import PyProof.TupleCall
import KE.KTabLook
import PyProof.StrLawsChain
import PyProof.StrLawsFirst
import PyProof.StrLawsJoin
import PyProof.MeetsStr2
import PyProof.ReprLen
import KE.KIntText
import PySem.Syntax
import PySem.Value
import PyProof.StrOps2
import PyProof.StrLawsIn
import PySem.Eval
import PyProof.SliceStr2
import KE.KSortTup
import PyProof.Rows.SortWalk
import PyProof.Dict
import PyProof.DictKinds
import PyProof.StrOps
import KE.KDictList
import KE.KEqDict
import PyProof.DictItems
import PyProof.FitsInt
import PyProof.ReprRoads
import PyProof.CallFns
import PyProof.MinMaxWalk
import PyProof.MeetsSeq
import PyProof.Rows.SeqMore2
import PyProof.FactsAll.str_0
import PyProof.FactsAll.str_5
import PyProof.FactsAll.str_7
import PyProof.WalksEnum
import PyProof.EnumMake
import KE.KRevIter
import PyProof.Rows.FactsT2
import PyProof.ZipIter
import PySem.Challenge.RW_pourwright_k87_runs_at_a_desk
open List renaming getElem?_cons_zero->aJ,getElem?_cons_succ->bA,getElem?_eq_some_iff->bT,length_cons->bh,getElem?_eq_getElem->dw,map_cons->aX,getElem?_set_ne->cU,nil_append->aO,length_nil->aN,length_map->aR,cons_append->bB,getElem?_append_left->dU,set_cons_succ->bZ,set_cons_zero->bY,mem_singleton->cH,replicate->bD,size_toArray->cB,map_nil->aW,mem_cons->bC,getElem?_set_self->eU,range->aU,length_append->eO,mem_cons_of_mem->jh,getElem?_append_right->nQ,getElem?_map->jy,mem_append->iY,toArray->d8,lookup_cons->jx,length->dR,mem_of_getElem?->pC,take_of_length_le->uw,range'->fZ,map_append->m5,append_assoc->qy,length_eq_zero_iff->Ao,length_take->qw,mem_map->j9,foldl_cons->qu,drop_eq_getElem_cons->Io,mem_cons_self->w7,not_mem_nil->ur,mem_filterMap->Ak,drop_eq_nil_of_le->Im,map_map->jN,append_nil->pX,pairwise_cons->yM,mem_iff_getElem->DN,mem_of_mem_drop->DK,filter_cons_of_pos->Jx,mem_filter->uJ,filter_cons->yJ,take_append_drop->Jw,set_append_right->Jv,pairwise_append->Ju,find?_cons->yG,eraseIdxIfInBounds_toArray->YT,map_congr_left->Jt,filter_cons_of_neg->QC,length_drop->Dv,range'_succ->Du,eq_nil_of_length_eq_zero->YS,zip_cons_cons->Js,dropLast_concat_getLast->YQ,getElem?_eq_none->Qz,cons_lt_cons_iff->Qy,reverse_cons->Jr,ext_getElem?->Jp,foldl_append->Jo,sum_cons->yu,range_eq_range'->Qx,mem_of_mem_take->Qw,set_append_left->Qv,mem_range->Ds,pairwise_iff_getElem->YJ,filter_eq_self->Qu,getElem?_take_of_lt->YH,getElem?_replicate->YF,lookup_append->Qq,take_succ_eq_append_getElem->afA,drop_of_length_le->Yx,eraseIdx_eq_take_drop_succ->afz,length_replicate->Yw,mem_iff_getElem?->Yv,eq_nil_or_concat->Yu,concat_eq_append->Yt,all_eq_true->Ql,any_toArray->Qk,map_snd_zip->Qi,getElem_mem->Qh,any_cons->Ji,map_take->Jf,filterMap_cons->Yp,nodup_cons->Qc,of_mem_zip->P0,forIn_cons->PX,length_pos_iff->Yn,range_succ->PK,sublist_flatten_of_mem->afx,zip_nil_right->Yl,foldl_nil->PB,getElem?_zip_eq_some->afk,nodup_append->Ye,idxOf_lt_length_iff->afh,length_range->Yb,flatten_cons->X8,lookup->I9,map_drop->Pq,flatten_eq_nil_iff->afb,any_eq_true->X6,perm_middle->X4,map_fst_zip->X3,isEmpty_nil->XR,zipWith_cons_cons->ae9,head?_eq_getElem?->ae8,dropLast_eq_take->ae2,perm_append_comm->ae1,mem_of_mem_erase->aeX,length_filter_le->aeW,map_set->Pa,nodup_nil->XD,forIn_nil->Xy,drop_zero->Xx,take_succ_cons->aeP,takeWhile_cons->aeO,dropWhile_cons->aeN,replicate_succ->aeM,getElem_of_mem->aeH,drop_succ_cons->aeE,map_singleton->aew,getElem_idxOf->aev,take_sublist->aeo,isEmpty_cons->aec,take_add_one->aeb,cons_ne_nil->ad1,drop_length->adY,take_length->adX,mem_range'->adV,foldr_cons->adU,length_set->adP,all_cons->adF,zipWith->adA,set->Wv
open PySem.Str renaming ofString->aD,length->eN,ofString_eq_toList->Yy,join->Ww
open PySem renaming wpAny_bind->aq,Shared->aj,wpAny_pure->aG,mainGlobals->aM,wpAny->ak,mem_of_lookup->jJ,sizeLine_eq->cY,Spec->ao3,Program->aZ,Around->aL,wpAny_truthy_bool->nO,model->aH,FuncData->d7,World->aQ,wpAny_newObj_type->wZ,starEach->fu,wpAny_loadPart'->Fq,wpAny_holding->kZ,codeAny_builtin->pY,argBest->cL,wpAny_mono->iu,call_meets->jt,cellsFrom->g8,wpAny_callSpecial?_slot->Jy,plainId_quiet->pW,wpAny_tryCatch->rR,wpAny_updateSeq->uI,sysModules->kW,wpAny_call_entry->yK,wpAny_Call_Name_kw->Dz,wpAny_field->n6,NameKind->gZ,compareOp->jM,wpAny_passesOwn->yE,wpAny_seqItems->yw,getItem->gk,wpAny_letGo->rP,Operator->jL,bootBuiltins->yt,typeIs_str->rN,assignEach->rM,tupleKind_room_in1->Qt,intItems->mL,codeAny->jK,sliceBounds->yr,wpAny_pyIter_list->Qn,foldedSetIterable->Qm,letOwnedTupleGo->Qf,keywordEach->Dl,wpAny_execs_nil->PL,wpAny_newFunctionEnv_cells->afv,bindArgs->rK,IsPart->jq,backTo->jo,numAt->dX,wpAny_rule->Dk,builtinsNs->Dj,wpAny_sequenceKey->Yh,seqItems?->yh,swapsWith->yg,wpAny_assign_Name->Yc,wpAny_comprehension_free->afd,IsRangeIter->Jc,intBits_le_64->Px,subscripted->Jb,valueAt->pP,Builtin->rJ,behindInMarks->Pr,noFill_tuple_add->X7,wpAny_pyIter_rangeiter->ae7,Within->Pj,pyNext->mH,rawInt->mG,codeAny_call_function->ae5,wpAny_typeOf->Pb,wpAny_isTrue_Compare1->aeZ,typeLookup->I8,wpAny_pyIter_revIter->aeS,wpAny_setField->XH,newFunctionEnv->Xz,interactive->O9,BindsTo->uD,CmpOp->jd,richCompare->O8,holding->uz,slicePicked->O7,tupleKind->I6,attributeBase->Xw,seq_tuple_add->Xu,ExceptHandler->Xp,backToKw->Dg,swappedStores->Xl,wpAny_pyIter_range->aeu,wpAny_standAt->Xk,atKey->jH,wpAny_dictEntries->aem,slot_list_getitem->ael,list_append->aej,wpAny_Return_some->aee,wpAny_pyIter_enum->aed,isTrue->rI,concat_meets->Xh,assign->rH,wpAny_pyHash_str->aea,wpAny_eqBool_int->ad9,wpAny_eqBool_str->ad8,wpAny_throw->Xc,wpAny_of_eq->Xb,Result->uy,Keyword->Dd,seqIndex_of->Xa,DictEntry->O5,stored->ux,wpAny_specialOf->adW,intItems_at->W6,updateSeq->O2,notedBy->Dc,pushCells_keeps->adS,call->W3,wpAny_Name->W0,wpAny_call->WY,closureFor->WW,leaving->I3,binaryOp->OJ,standAt->IW,setItem->IV,callWith->OD,relabel->Iw,compEnvC->Ox,bindL->rG,name_of_addr->WQ,seqIndex?->WM,putAt->rF,lastMarks->Wy,operate->Ov,storedH->Ou,dictGet->Ot,Meets->Oq,PlainL->Iu,merged->Ir,truthy->Ip
open Bool renaming and_eq_true->bM,false_eq_true->cg,false_ne_true->fH,not_eq_true'->wX,not_false->mU,not_true->kY,true_and->mR,or_eq_true->yF,false_and->yC,and_eq_true_iff->Yr,eq_iff_iff->PN,or_eq_true_iff->aeF,and_self->Xr,and_true->Xj,true_or->adB
open Nat renaming le_refl->aA,lt_of_lt_of_le->f9,le_trans->gD,lt_irrefl->jg,ne_of_lt->jf,zero_le->jG,add_sub_cancel_left->DP,le_succ_of_le->yL,le_of_lt->pU,lt_succ_of_lt->Dy,min_eq_left->yD,ne_of_gt->rQ,le_of_not_lt->Jk,le_succ->yq,lt_trans->Dp,lt_or_ge->Dn,lt_succ_self->Qj,min_eq_right->XS,le_of_ble_eq_true->aeY,eq_zero_or_pos->aes,sub_zero->Xf,zero_add->Xe,succ_le_succ->ad5,succ_ne_self->adZ,log2_lt->W9,mul_le_mul->adM,le_of_eq->adD,add_mul->ado
open PySem.W renaming Frag->aV,nsIn->bI,findIn->nM,keepIn->pB,fnOf->lN,emptyDict->wY,mg_of->pq,instObj->uq,kia_one->rT,kas_place->mQ,kas_asc->gY,codeIn->Dr,plainGet->Jl,kas_rev->jr,cellsFrom_some->YB,hasDictIn->Qp,kas_desc->nW,plainGet_of->Yo,makesIn->Qe,kas_count->uG,isFn->Je,lookIn->PJ,methodObj->Yj,plainOver->Yi,kasC_bind->yj,kas_sort->uF,takerIn->XQ,codeRec_of->aeA,kas_item->Df,kitx_list->aeh,kitx_dict->aeg,kas_descPart->Xg,handedIn->ad7,OpenLaw->I4,kasC_pure->O4,kitOne->adK,exmOne->adJ,WalkO->WR,kas_bin->IK,kas_ask->Iz,kas_tail3->WL,kas_st->CZ,kasC_cons->WD
open PySem.Heap renaming get?_push_of_some->eV,lt_size->bW,get?_push_size->gU,get?_update_other->nP,get?_update_self->yN,size_push->yx,get?_update_ne->aeJ,get?_push_ne->aei,SameBut->Xi,ExtBut->adw
open Option.some renaming inj->cM,injEq->qx
open PySem.Builtin.Str renaming strSliceIndices->lQ,occurrences->Ja,strKind->aeI,strSub->yd,tooLong->Wx
open Option renaming map_some->gR,bind_some->lO,map_eq_some_iff->Am,isSome_iff_exists->Ft,join_some->uL,bind_eq_some_iff->QG,isNone_iff_eq_none->YL,isSome_map->Qo,isSome_some->Ym,getD_none->ad6,none->adu,map->adk
open Ne renaming symm->bL
open Array renaming length_toList->tu,toList_inj->yI,getElem?_eq_some_iff->afs,perm_iff_toList_perm->afn,toList->Jd,mem_toList_iff->aeV,getElem_mem->aef,toList_map->ad0
open List.cons renaming injEq->m6,inj->Pn
open PySem.Value renaming none->fY,bool->jF,ref->nY,int->pR,str->uH,type->W4,isStrOf->adG,isInt->adx
open PySem.NameKind renaming free->mZ,cell->pA
open PySem.Around renaming under_plainId->Al,frames_deeper->Ys,under->Ph
open PyProof.Rows renaming slot_tuple_getitem->MJ,callWith_type1->QT,SortSt->cZ,seqObj->eH,envOfC->gW,AllBare->mJ,IntsAre->nU,SortKind->uE,subscriptTail_builtinR->afa,elem'->gj,subscriptTail->Xv,listUpdate_at->Xm,entry_tuple_getitem->aer,args_tuple_getitem->aek,callWith_builtin1->akR,slot_str_getitem->ad4,seqEpoch_at->W7,tupleItemsOf_->adO,Subscript_->W2,failedOf->Oz,sortRuns'->WK,pendingOf->Wz,boot_max->akK,lt_int->adq,IsTup->yc
open PySem.F renaming plainAttrs_list->DQ,plain_max_loop->uK,plain_min_loop->yH,plainAttrs_str->QB,args_tuple_add_2->YG,entry_tuple_add->YD,slot_list_index->YC,slot_tuple_add->Yz,entry_max_loop->Qg,slot_dict_contains->Yq,slot_range_iterator_next->afw,args_str_split_2->Yk,slot_dict_getitem->Pz,args_list_index_2->afl,entry_list_index->afg,slot_list_remove->afe,entry_str_split->Yd,entry_min_loop->X5,slot_str_split->Pk,slot_dict_len->ae0,args_list_append_2->aeU,args_list_extend_2->aeT,entry_list_append->aeL,entry_list_extend->aeK,slot_list_append->Xo,slot_list_extend->Xn,entry_list_pop->ad2,slot_list_pop->W8,slot_str_startswith->adR,slot_str_partition->adN,slot_list_insert->adH,slot_str_join->ady
open PySem.Obj renaming mapSeq->ig
open PySem.Builtin.Builtins renaming bindParams->QS
open PySem.MeetsSeq renaming plain_remove_loop->QM,entry_remove_loop->afm
open PySem.Calls renaming spliced_cons->DG,spliced_nil->Jq,Name_function_global->afr,Constant_str->aex,call_function_entry->adL
open PySem.Builtin.Slice renaming slicePlaces->QL,sliceAdjust->YK,sliceApplied->afu,slicePartIndex->akQ,sliceFields->akO
open PySem.Builtin.Tuple renaming tupleExact->QK,tupleItemsOf->aft,tupleIsExact->afp,tupleCompareSizes->akS
open PySem.Builtin.List renaming listTooLong->QJ,listFitsIndex->afo
open Function renaming comp_def->Dw,comp_apply->aeD
open Classical renaming propDecidable->QH
open PySem.Builtin.Range renaming rangeSize->QF,rangeFitsLong->afy,small->aeG
open PySem.PyData renaming eqv->nZ,canLay0->Dq,depth->Dm,canLayAll0->Yg,eqvAll->Pu,depthAll->XM
open ForInStep renaming yield->Dt
open Int renaming toNat_natCast->Jm,fdiv_eq_ediv_of_nonneg->YM,fmod_eq_emod_of_nonneg->afq,eq_ofNat_of_zero_le->afc,le_refl->O6,ediv_nonneg->adT
open False renaming elim->rO
open PySem.StrLaws renaming subAt_one->Jj,strSub_toList->XJ,partsFrom->I5
open Prod.mk renaming injEq->Jh
open True renaming intro->yp
open Sum renaming inr->mK,inl->pQ
open PyProof renaming noPylong_of_log2->afj
open PySem.AutoSeq1 renaming sub_tuple_tuple->afi
open PyProof.Rows.SortSt renaming mk'->Di
open PySem.Paired renaming length->Py,snoc->adt
open List.Sublist renaming length_le->ae6
open PySem.Code renaming isFrame->Pg,frames->adv
open PySem.SeqAt renaming compareEq_reads->ae4,compareNe_reads->ae3,EqAt->CW
open And renaming intro->Dh
open Char renaming toNat->I7
open PySem.W.KIN renaming val_back->aeR,call_text->akL,signs_num->akJ
open PySem.Builtin renaming bitAnd->XF
open PyProof.Rows.KTD renaming datumAt->nR,isSome_datumAt->W5
open PySem.EntryCells renaming newEntry->aeQ
open PySem.SeqAt.EqAt renaming int_str->aeC,str_int->aeB,int_int->aez,str_str->aey
open PySem.Heap.SameBut renaming refl->aep,update->akI
open List.Pairwise renaming nil->aen
open PySem.IsL renaming update->ad3
open String renaming reduceEq->adQ
open PySem.SeqAt.RcNeAt renaming lists_lengths->akP,lists->akF
open PySem.Builtin.Dict renaming pendingCount->akN,pendingKey?->akM
open List.Perm renaming refl->adI
open PySem.Walks renaming list->WX
open Prod renaming ext->O1,fst->Ow,snd->Wu
open PySem.Expr renaming ListComp->adE
open PySem.OldK renaming of_keep->adC
open PySem.Str.mk renaming injEq->adz
open PySem.CmpOp renaming NotEq->adp
open PySem.IsRange renaming new->adn
open PySem.W.Looks renaming here->akH
open PySem.SeqAt.Reads renaming unique->akG
open PySem.Heap.IsSliceOf renaming new->akE
open PySem.Within renaming cons->akD
open PySem.W.WShape renaming has->adl
open PySem.W.WData renaming int->adi
open PySem.Heap.DictOf renaming new->akC
set_option maxHeartbeats 4000000
set_option linter.all false
set_option maxRecDepth 100000
set_option exponentiation.threshold 1000
set_option Elab.async false
set_option genSizeOf false
set_option bootstrap.genMatcherCode false
set_option backward.eqns.nonrecursive false
local macro_rules|`($m:declModifiers def $x $s:optDeclSig $v:declVal)=>if m.raw.getArgs.all (·.getNumArgs==0) then `(command| noncomputable def $x $s:optDeclSig $v:declVal) else Lean.Macro.throwUnsupported
open Lean in
local macro_rules|`(#version)=>do
 let p:=`PySem.Challenge
 let t:=p.str "cw_pourwright_k87_runs_at_a_desk_holds"
 let l:=[p.str "pw_pourwright_k87_runs_at_a_desk",p.str "rw_pourwright_k87_runs_at_a_desk"]++(aU 1117).map (fun i=>t.str s!"o_{i+43}")++[47,70,85,100,115,130,145,160,175,190,205,227,249,271,319,366,422,502,547,652,735,759,837,915,1002,1012,1070,1152,1159].map (fun i:Nat=>t.str s!"tree_{i}")++[39,46,1160].map (fun i:Nat=>t.str s!"heap_{i}")++[49,71,86,101,116,131,146,161,176,191,206,228,250,272,320,367,423,503,548,739,760,838,916,1003,1015,1071,1153].map (fun i:Nat=>t.str s!"sts_{i}")++[39].map (fun i:Nat=>t.str s!"view_{i}")++[41].map (fun i:Nat=>t.str s!"env_{i}")
 let r <- l.toArray.mapM fun n=>`(command| theorem $(mkIdent (.mkSimple s!"tw{n.hash}")) : True := ⟨⟩)
 return mkNullNode r
namespace PySem.W.Fast
#version
end PySem.W.Fast
namespace L2
open PySem PySem.Spec PyProof.Rows
noncomputable abbrev Key:=Sum Int Str
def Nh:Key->Value->Bool
 | .inl k,v=>adx k v| .inr x,v=>adG x v
def aon (w:aQ):Key->Int
 | .inl k=>hashInt k| .inr x=>hashStr w x
theorem eF:∀ {k:Key} {v:Value},Nh k v=true->(∃ i t,k=pQ i/\v=pR i t)∨(∃ x t,k=mK x/\v=uH x t)
 | .inl i,v,h=>by obtain⟨t,e⟩:=Value.isInt_shape (k:=i) (v:=v) h;exact .inl ⟨i,t,rfl,e⟩| .inr x,v,h=>by obtain⟨t,e⟩:=Value.isStrOf_shape (x:=x) (v:=v) h;exact .inr ⟨x,t,rfl,e⟩
theorem abO (i:Int) (t:Tok):Nh (.inl i) (.int i t)=true:=by simp[Nh,adx]
theorem abN (x:Str) (t:Tok):Nh (.inr x) (.str x t)=true:=by simp[Nh,adG]
theorem alE (a b:Int):decide ((pQ a:Key)=pQ b)=(a==b):=by
 by_cases e:a=b
 .subst e;simp
 .have h:¬(pQ a:Key)=pQ b:=fun q=>e (Sum.inl.inj q)
  rw[decide_eq_false h];exact(beq_eq_false_iff_ne.mpr e).symm
theorem alB (a b:Str):decide ((mK a:Key)=mK b)=decide (a=b):=by
 by_cases e:a=b
 .subst e;simp
 .have h:¬(mK a:Key)=mK b:=fun q=>e (Sum.inr.inj q)
  rw[decide_eq_false h,decide_eq_false e]
theorem alD (a:Int) (b:Str):decide ((pQ a:Key)=mK b)=false:=decide_eq_false (fun q=>nomatch q)
theorem alC (a:Str) (b:Int):decide ((mK a:Key)=pQ b)=false:=decide_eq_false (fun q=>nomatch q)
def aP (prog:aZ) (w:aQ):PySem.KeyKind prog w Key where
 is:=Nh
 hash:=aon w
 inj:=fun v a b ha hb=>by
  rcases eF ha with⟨i,t,rfl,rfl⟩|⟨x,t,rfl,rfl⟩
  .rcases eF hb with⟨j,u,rfl,e⟩|⟨y,u,rfl,e⟩
   .injection e with e1 _;rw[e1]
   .exact nomatch e
  .rcases eF hb with⟨j,u,rfl,e⟩|⟨y,u,rfl,e⟩
   .exact nomatch e
   .injection e with e1 _;rw[e1]
 byValue:=fun k v h=>by rcases eF h with⟨i,t,rfl,rfl⟩|⟨x,t,rfl,rfl⟩<;>rfl
 pyHash:=fun hv h=>by
  rcases eF hv with⟨i,t,rfl,rfl⟩|⟨x,t,rfl,rfl⟩
  .exact wpAny_pyHash_int h
  .exact aea h
 eqBool:=fun hu hv h=>by
  rcases eF hu with⟨i,t,rfl,rfl⟩|⟨x,t,rfl,rfl⟩
  .rcases eF hv with⟨j,u,rfl,rfl⟩|⟨y,u,rfl,rfl⟩
   .rw[alE]at h;exact ad9 h
   .rw[alD]at h;exact aeC i t y u _ _ _ _ h
  .rcases eF hv with⟨j,u,rfl,rfl⟩|⟨y,u,rfl,rfl⟩
   .rw[alC]at h;exact aeB x t j u _ _ _ _ h
   .rw[alB]at h;exact ad8 h
 «strs»:=fun k x t v h=>by
  rcases eF h with⟨i,u,rfl,e⟩|⟨y,u,rfl,e⟩
  .exact nomatch e
  .injection e with e1 _
   subst e1;cases v<;>rfl
theorem T3 (prog:aZ) (w:aQ) (i:Int) (t:Tok):(aP prog w).is (.inl i) (.int i t)=true:=abO i t
theorem FQ (prog:aZ) (w:aQ) (x:Str) (t:Tok):(aP prog w).is (.inr x) (.str x t)=true:=abN x t
inductive V where
 |non|bl (b:Bool)|int (i:Int)|str (x:Str)|byt (b:Array UInt8)|flt (b:UInt64)|ref (a:Addr)|ty (n:String)
 deriving DecidableEq
def RelV:V->Value->Prop
 | .non,u=>u=fY| .bl b,u=>u=jF b| .int i,u=>∃ t,u=pR i t| .str x,u=>∃ t,u=uH x t| .byt b,u=>∃ t,u=Value.bytes b t| .flt b,u=>∃ t,u=Value.float b t| .ref a,u=>u=nY a| .ty n,u=>u=W4 n
noncomputable abbrev Vals:List V->List Value->Prop:=Paired RelV
theorem Vals.length {xs:List V} {us:List Value} (r:Vals xs us):xs.length=us.length:=Py r
theorem Vals.get:∀ {xs:List V} {us:List Value} {i:Nat} {x:V},Vals xs us->xs[i]?=some x->∃ u,us[i]?=some u/\RelV x u
 |_,_,_,_,.nil,e=>by simp at e|_,_,0,_,.cons r _,e=>by simp at e;subst e;exact⟨_,rfl,r⟩|_,_,i+1,x,.cons _ t,e=>by obtain⟨u,h1,h2⟩:=Vals.get (i:=i) (x:=x) t (by simpa using e);exact⟨u,by simpa using h1,h2⟩
theorem Vals.set {x:V} {u:Value} (r:RelV x u):∀ {xs:List V} {us:List Value} (i:Nat),Vals xs us->Vals (xs.set i x) (us.set i u)
 |_,_,_,.nil=>.nil|_,_,0,.cons _ t=>.cons r t|_,_,i+1,.cons q t=>.cons q (Vals.set r i t)
theorem Vals.append:∀ {xs ys:List V} {us ws:List Value},Vals xs us->Vals ys ws->Vals (xs++ys) (us++ws)
 |_,_,_,_,.nil,s=>s|_,_,_,_,.cons r t,s=>.cons r (Vals.append t s)
theorem Vals.take:∀ {xs:List V} {us:List Value} (n:Nat),Vals xs us->Vals (xs.take n) (us.take n)
 |_,_,0,_=>.nil|_,_,_+1,.nil=>.nil|_,_,n+1,.cons r t=>.cons r (Vals.take n t)
theorem Vals.drop:∀ {xs:List V} {us:List Value} (n:Nat),Vals xs us->Vals (xs.drop n) (us.drop n)
 |_,_,0,r=>r|_,_,_+1,.nil=>.nil|_,_,n+1,.cons _ t=>Vals.drop n t
def Vw:Option V->Option Value->Prop
 |some v,some u=>RelV v u|none,none=>True|_,_=>False
def KV {κ:Type}:List (κ×V)->List (κ×Value)->Prop:=Paired fun(p:κ×V) (q:κ×Value)=>p.1=q.1/\RelV p.2 q.2
def kV:Key->V
 | .inl i=>.int i| .inr x=>.str x
structure Tab where
 q:Str
 ps:Array Value
instance:HAppend Tab (Array Value) Tab:=⟨fun t m=>⟨t.q,t.ps++m⟩⟩
theorem Tab.assoc (t:Tab) (a b:Array Value):t++a++b=t++(a++b):=by show Tab.mk t.q (t.ps++a++b)=Tab.mk t.q (t.ps++(a++b));rw[Array.append_assoc]
@[simp] theorem Tab.nil (t:Tab):t++(#[]:Array Value)=t:=by show Tab.mk t.q (t.ps++ #[])=t;rw[Array.append_empty]
inductive HO where
  |lst (xs:List V)
  |tup (xs:List V)
  |dK (kvs:List (Key×V))|dT (kvs:List (List Key×V))
  |set (S:Int->Bool) (n:Nat)
  |ins (C dx:Addr) (fs:List (Str×V))
  |own (x:Addr)
  |xd (fs:List (Str×V))
  |met (f x:Addr)
  |rng (lo hi:Int)
  |Gh (o:Obj) (u:HO)
  |tbl (t:Tab)
  |ext (φ:Heap->Prop)
noncomputable abbrev Hp:=Addr->Option HO
def zN (h:Heap) (a:Addr) (items:Array Value):Prop:=∃ o,h.get? a=some o/\o.cls= .type "tuple"/\∃ n,o.data= .seq items n/\o.dict=none
theorem zN.is {h:Heap} {a:Addr} {items:Array Value} (x:zN h a items):yc h a items:=by obtain⟨o,e,c,n,d,_⟩:=x;exact⟨o,e,c,n,d⟩
theorem zN.lt {h:Heap} {a:Addr} {items:Array Value} (x:zN h a items):a<h.objs.size:=by obtain⟨o,e,_⟩:=x;exact bW e
theorem zN.new (h:Heap) (items:Array Value):zN (h.push {cls:=.type "tuple",data:=.seq items}) h.objs.size items:=⟨_,gU _ rfl,rfl,_,rfl,rfl⟩
section
variable (P:aZ) (w:aQ)
def Ci (H:Hp) (h:Heap) (a:Addr):HO->Prop
 | .lst xs=>xs.length<=sizeLine/\∃ (its:List Value) (n:Nat),Vals xs its/\h.get? a=some {cls:=.type "list",data:=.seq its.toArray n}| .tup xs=>xs.length<=sizeLine/\∃ its:List Value,Vals xs its/\zN h a its.toArray| .dK kvs=>kvs.length<=sizeLine/\(a==kW)=false/\∃ vs,KV kvs vs/\h.DictOf (aP P w) a vs| .dT kvs=>kvs.length<=sizeLine/\(a==kW)=false/\∃ xs:List (List Key×Addr×Value),
   Paired (fun(p:List Key×V) (q:List Key×Addr×Value)=>p.1=q.1/\H q.2.1=some (.tup (p.1.map kV))/\RelV p.2 q.2.2) kvs xs/\
   ∃ o es ep,h.get? a=some o/\o.ExactDict/\o.data= .dict es ep/\es.toList=xs.map (entryOfKey (I6 (aP P w)))/\(xs.map (·.1)).Nodup
 | .set S n=>h.SetOf (intKind P w) a S n| .ins C dx fs=>H dx=some (.own a)/\fs.length<=1000/\dx≠a/\h.get? a=some (uq C dx)/\
   ∃ mA,h.Ns1 dx mA/\(∀ f,Vw (fs.lookup f) (mA f))/\Pj mA (fs.map (·.1))
 | .own _=>∃ o,h.get? a=some o| .xd fs=>∃ mA,h.Ns1 a mA/\∀ f,Vw (fs.lookup f) (mA f)| .rng lo hi=>∃ t u v,h.get? a=some {cls:=.type "range",data:=.fields #[.int lo t,.int hi u,.int 1 v]}| .Gh o u=>h.get? a=some o/\Ci H h a u| .tbl t=>h.get? a=some {cls:=.none,data:=.fields t.ps}/\TriplesOk t.ps.toList/\∀ pos cv,codeAmong pos t.ps.toList=some cv->∃ c oc vs tq,cv= .ref c/\H c=some (.own a)/\h.get? c=some oc/\oc.data= .fields vs/\vs[1]?=some (.str t.q tq)| .met f x=>h.get? a=some (Yj (.ref f) (.ref x))| .ext φ=>φ h/\(∃ o,h.get? a=some o)/\∀ h1 h2:Heap,φ h1->(∀ o,h1.get? a=some o->h2.get? a=some o)->φ h2
def VF (H:Hp) (h:Heap):Prop:=∀ a o,H a=some o->Ci P w H h a o
end
section
variable {P:aZ} {w:aQ} {H H':Hp} {h h':Heap} {a:Addr} {o:HO}
theorem Ci.lt (x:Ci P w H h a o):a<h.objs.size:=by
 cases o with
 |lst xs=>obtain⟨_,_,_,_,e⟩:=x;exact bW e|tup xs=>obtain⟨_,_,_,p⟩:=x;exact p.lt|dK kvs=>obtain⟨_,_,_,_,o,_,_,e,_⟩:=x;exact bW e|dT kvs=>obtain⟨_,_,_,_,o,_,_,e,_⟩:=x;exact bW e|set S n=>obtain⟨o,_,_,_,e,_⟩:=x;exact bW e|ins C dx fs=>obtain⟨_,_,_,e,_⟩:=x;exact bW e|own y=>obtain⟨_,e⟩:=x;exact bW e|xd fs=>obtain⟨_,⟨_,_,_,e,_⟩,_⟩:=x;exact bW e|rng lo hi=>obtain⟨_,_,_,e⟩:=x;exact bW e|Gh ob u=>obtain⟨e,_⟩:=x;exact bW e|tbl t=>exact bW (show h.get? a=some _ from x.1)|met f y=>exact bW (show h.get? a=some _ from x)|ext φ=>obtain⟨_,⟨_,e⟩,_⟩:=x;exact bW e
theorem Paired.alr {α β:Type} {F G:α->β->Prop}:∀ {l₁:List α} {l₂:List β},Paired F l₁ l₂->(∀ a b,F a b->G a b)->Paired G l₁ l₂
 |_,_,.nil,_=>.nil|_,_,.cons r t,f=>.cons (f _ _ r) (Paired.alr t f)
theorem Ci.stay (x:Ci P w H h a o) (k:∀ b u,(b=a∨H b=some (.own a))->h.get? b=some u->h'.get? b=some u)
  (ho:∀ b,H b=some (.own a)->H' b=some (.own a)) (ht:∀ b xs,H b=some (.tup xs)->H' b=some (.tup xs)):Ci P w H' h' a o:=by
 induction o with
 |lst xs=>obtain⟨z,its,n,r,e⟩:=x;exact⟨z,its,n,r,k _ _ (.inl rfl) e⟩|tup xs=>obtain⟨z,its,r,ob,e,c⟩:=x;exact⟨z,its,r,ob,k _ _ (.inl rfl) e,c⟩|dK kvs=>obtain⟨z,y,vs,r,ob,es,ep,e,c⟩:=x;exact⟨z,y,vs,r,ob,es,ep,k _ _ (.inl rfl) e,c⟩|dT kvs=>obtain⟨z,y,xs,r,ob,es,ep,e,c⟩:=x;exact⟨z,y,xs,Paired.alr r fun p q z=>⟨z.1,ht _ _ z.2.1,z.2.2⟩,ob,es,ep,k _ _ (.inl rfl) e,c⟩|set S n=>obtain⟨ob,es,ep,t,e,c⟩:=x;exact⟨ob,es,ep,t,k _ _ (.inl rfl) e,c⟩|ins C dx fs=>obtain⟨d,z,ne,e,mA,⟨od,es,ep,e2,c⟩,r⟩:=x;exact⟨ho _ d,z,ne,k _ _ (.inl rfl) e,mA,⟨od,es,ep,k _ _ (.inr d) e2,c⟩,r⟩|own y=>obtain⟨ob,e⟩:=x;exact⟨ob,k _ _ (.inl rfl) e⟩|xd fs=>obtain⟨mA,⟨od,es,ep,e,c⟩,r⟩:=x;exact⟨mA,⟨od,es,ep,k _ _ (.inl rfl) e,c⟩,r⟩|rng lo hi=>obtain⟨t,u,v,e⟩:=x;exact⟨t,u,v,k _ _ (.inl rfl) e⟩|Gh ob u ih=>obtain⟨e,q⟩:=x;exact⟨k _ _ (.inl rfl) e,ih q⟩|tbl t=>obtain⟨e,z,q⟩:=x;refine⟨k a _ (.inl rfl) e,z,fun pos cv y=>?_⟩;obtain⟨c,oc,vs,tq,r1,r2,r3,r4⟩:=q pos cv y;exact⟨c,oc,vs,tq,r1,ho _ r2,k _ _ (.inr r2) r3,r4⟩|met f y=>have e:h.get? a=some (Yj (.ref f) (.ref y)):=x;show h'.get? a=some (Yj (.ref f) (.ref y));exact k a _ (.inl rfl) e|ext φ=>obtain⟨p,⟨o,e⟩,st⟩:=x;exact⟨st _ _ p fun o q=>k _ _ (.inl rfl) q,⟨o,k _ _ (.inl rfl) e⟩,st⟩
theorem VF.lt (x:VF P w H h) (e:H a=some o):a<h.objs.size:=(x a o e).lt
theorem VF.fresh (x:VF P w H h) (e:h.objs.size<=a):H a=none:=by
 cases q:H a with
 |none=>rfl|some u=>exact absurd (f9 (x.lt q) e) (jg _)
theorem VF.kept (x:VF P w H h) (k:∀ b u,h.get? b=some u->h'.get? b=some u):VF P w H h':=fun a o e=>(x a o e).stay (fun b u _ q=>k b u q) (fun _ q=>q) fun _ _ q=>q
end
def Rd (H:Hp) (a:Addr) (u:HO):Prop:=H a=some u∨∃ o,H a=some (.Gh o u)
theorem Rd.of {H:Hp} {a:Addr} {u:HO} (h:H a=some u):Rd H a u:=.inl h
theorem Rd.ok {P:aZ} {w:aQ} {H:Hp} {h:Heap} {a:Addr} {u:HO} (r:Rd H a u) (x:VF P w H h):Ci P w H h a u:=by
 rcases r with r|⟨o,r⟩
 .exact x a u r
 .obtain⟨_,q⟩:=x a _ r
  exact q
section
variable {P:aZ} {w:aQ} {H:Hp} {h h':Heap} {x e:Addr} {o':HO}
end
structure Un (fs ex:List Addr) (H H':Hp) (h h':Heap):Prop where
 keep:∀ b o,h.get? b=some o->H b=none->b∉fs->b∉ex->h'.get? b=some o
 slot:∀ b o,h.get? b=some o->H b=none->b∈fs->b∉ex->∃ sl,h'.get? b=some {o with slots:=sl}
 free:∀ b o,h.get? b=some o->H b=none->b∉ex->H' b=none
 there:∀ b o,h.get? b=some o->b∉ex->∃ o',h'.get? b=some o'
 tups:∀ b xs,H b=some (.tup xs)->H' b=some (.tup xs)
 Kh:∀ b o u,H b=some (.Gh o u)->H' b=some (.Gh o u)
 N8:∀ b ps,H b=some (.tbl ps)->∃ more:Array Value,H' b=some (.tbl (ps++more))
section
variable {fs fs' ex ex':List Addr} {H H1 H2:Hp} {h h1 h2 h':Heap} {a x e:Addr} {o:HO}
theorem Un.any (u:Un fs ex H H1 h h1) {b:Addr} {ob:Obj} (q:h.get? b=some ob) (n:H b=none) (hx:b∉ex):∃ sl,h1.get? b=some {ob with slots:=sl}:=by
 by_cases hb:b∈fs
 .exact u.slot b ob q n hb hx
 .exact⟨ob.slots,u.keep b ob q n hb hx⟩
theorem Un.trans (a:Un fs ex H H1 h h1) (b:Un fs ex H1 H2 h1 h2):Un fs ex H H2 h h2 where
 keep:=fun c ob q n hc hx=>b.keep c ob (a.keep c ob q n hc hx) (a.free c ob q n hx) hc hx
 slot:=fun c ob q n hc hx=>by obtain⟨sl,e1⟩:=a.slot c ob q n hc hx;obtain⟨sl',e2⟩:=b.slot c _ e1 (a.free c ob q n hx) hc hx;exact⟨sl',e2⟩
 free:=fun c ob q n hx=>by obtain⟨o',e1⟩:=a.there c ob q hx;exact b.free c o' e1 (a.free c ob q n hx) hx
 there:=fun c ob q hx=>by obtain⟨o',e1⟩:=a.there c ob q hx;exact b.there c o' e1 hx
 tups:=fun c xs q=>b.tups c xs (a.tups c xs q)
 Kh:=fun c ob xs q=>b.Kh c ob xs (a.Kh c ob xs q)
 N8:=fun c ps q=>by obtain⟨m1,e1⟩:=a.N8 c ps q;obtain⟨m2,e2⟩:=b.N8 c _ e1;exact⟨m1++m2,by rw[e2,Tab.assoc]⟩
theorem Un.kept (k:∀ b u,h.get? b=some u->h'.get? b=some u):Un fs ex H H h h' :=
 ⟨fun b ob q _ _ _=>k b ob q,fun b ob q _ _ _=>⟨ob.slots,k b ob q⟩,fun _ _ _ n _=>n,fun b ob q _=>⟨ob,k b ob q⟩,fun _ _ q=>q,fun _ _ _ q=>q,fun _ ps q=>⟨#[],by rw[q,Tab.nil]⟩⟩
theorem Un.refl:Un fs ex H H h h:=Un.kept fun _ _ q=>q
theorem Un.mono (u:Un fs ex H H1 h h1) (hs:∀ b∈fs,b∈fs') (hx:∀ b∈ex,b∈ex'):Un fs' ex' H H1 h h1:=
 ⟨fun b ob q n hb he=>u.keep b ob q n (fun z=>hb (hs b z)) fun z=>he (hx b z),fun _ _ q n _ he=>u.any q n fun z=>he (hx _ z),fun b ob q n he=>u.free b ob q n fun z=>he (hx b z),fun b ob q he=>u.there b ob q fun z=>he (hx b z),u.tups,u.Kh,u.N8⟩
end
def trk (h:Heap) (H:Hp):List Addr:=(aU h.objs.size).filter fun a=>(H a).isSome
def Rt (h:Heap) (H:Hp):Heap:=PySem.W.hideAll h (trk h H)
theorem abX (h:Heap) (H:Hp):(Rt h H).objs.size=h.objs.size:=PySem.W.hideAll_size _ _
theorem agv {h:Heap} {H:Hp} {b:Addr} {o:Obj} (e:h.get? b=some o) (n:H b=none):(Rt h H).get? b=some o:=
 PySem.W.hideAll_get _ e fun hm=>by have q:(H b).isSome=true:=(uJ.mp hm).2;rw[n]at q;simp at q
theorem aip {h:Heap} {H:Hp} {b:Addr} {o:Obj} (e:(Rt h H).get? b=some o):h.get? b=some o/\H b=none:=by
 have e':h.get? b=some o:=PySem.W.of_hideAll (trk h H) e;refine⟨e',?_⟩;cases q:H b with
 |none=>rfl|some x=>have hm:b∈trk h H:=uJ.mpr ⟨Ds.mpr (bW e'),by simp[q]⟩;have z:(Rt h H).get? b=none:=PySem.W.hideAll_none (trk h H) hm;rw[z]at e;cases e
def ajl (g h:Heap) (L:Addr):List (Addr×Obj):=(aU h.objs.size).filterMap fun a=>if a=L∨(g.get? a).isSome=true then none else(h.get? a).map fun o=>(a,o)
def rest (g h:Heap) (L d:Addr):List (Addr×Obj):=(ajl g h L).filter fun p=>decide (p.1≠d)
def tL (A:aL) (h:Heap):Prop:=∀ v,A.handled=some v->∃ x o vs,v= .ref x/\h.get? x=some o/\o.data= .fields vs/\vs[2]?=some .none
section
variable {prog:aZ} {w:aQ} {A:aL} {E:Value->aj->Prop} {s:aj}
theorem Ly:entryFor table "proto.unchain"=some rJ.«proto.unchain»:=entryFor_of_tree (by kernel_rfl)
theorem adh {α:Type} {a:Addr} {o:Obj} {vs:Array Value} {Q:α->aj->Prop} (hh:tL A s.heap) (ho:s.heap.get? a=some o) (hd:o.data= .fields vs) (hz:2<vs.size)
  (hE:∀ h' o',h'.get? a=some o'->o'.cls=o.cls->Xi a s.heap h'->E (.ref a) {s with heap:=h' }):ak (aH prog w) A (raiseNew (.ref a)) Q E s:=by
 obtain⟨oc,od,dt,sl⟩:=o;cases hd;unfold raiseNew;refine aq (wpAny_handled ?_);cases q:A.handled with
 |none=>exact Xc (hE s.heap _ ho rfl (aep ..))|some v=>
  obtain⟨x,ox,ws,rfl,hx,hxd,hx2⟩:=hh v q;show ak _ _ (if(nY x !=nY a)=true then _ else _) _ _ s;by_cases e:(nY x !=nY a)=true
  .rw[if_pos e]
   refine aq (kZ (wpAny_runValue (pY Ly ?_)));unfold rJ.«proto.unchain»;refine aq (n6 hx hxd hx2 ?_);refine aG ?_;show ak _ _ (updateField a 2 (.ref x)>>=_) _ _ s;unfold updateField;refine aq (aq (wpAny_load ho ?_));show ak _ _ (if 2<vs.size then _ else _) _ _ s;rw[if_pos hz];refine wpAny_update ho (Xc ?_);exact hE _ _ (yN _ ho rfl) rfl (akI ..)
  .rw[if_neg e]
   exact Xc (hE s.heap _ ho rfl (aep ..))
theorem abm {α:Type} {it:Addr} {Q:α->aj->Prop} (hh:tL A s.heap) (k:∀ h' a o,h'.get? a=some o->o.cls= .type "StopIteration"->adw it s.heap h'->E (.ref a) {s with heap:=h' }):
  ak (aH prog w) A (do let e<-newExc (.type "StopIteration") [];raiseNew e) Q E s:=by
 refine aq ?_;simp only[newExc,newTuple];refine aq (wZ (aq (m:=firstArgMember _ _) (Xb (a:=fY) (by first|rfl|(simp only[firstArgMember];rfl)) (wZ ?_ (by size_fits)))) (by size_fits));refine adh (vs:=#[.ref s.heap.objs.size,.none,.none,.none,.bool false,.none]++ownMembersOf (.type "StopIteration") []) (fun v q=>?_) (gU _ rfl) rfl (by simp[ownMembersOf]) fun h' o' e1 e2 sb=>k _ _ _ e1 e2 fun b o hb e=>?_
 .obtain⟨x,o,vs,e,h1,h2,h3⟩:=hh v q
  exact⟨x,o,vs,e,eV _ (eV _ h1),h2,h3⟩
 .refine(sb.2 b ?_).trans (eV _ (eV _ e))
  have h2:(s.heap.push {cls:=.type "tuple",data:=.seq #[]}).objs.size=s.heap.objs.size+1:=by simp[Heap.push]
  have h3:s.heap.objs.size<=(s.heap.push {cls:=.type "tuple",data:=.seq #[]}).objs.size:=by lia
  rintro rfl;exact absurd (f9 (bW e) h3) (jg _)
theorem Wr {it:Addr} {x left c:Int} {Q:Option Value->aj->Prop} (hh:tL A s.heap) (hI:Jc s.heap it x left c) (z:left<=0) (k:∀ h',adw it s.heap h'->Q none {s with heap:=h' }):ak (aH prog w) A (mH (.ref it)) Q E s:=by have ty:s.TypeIs (.ref it) "range_iterator":=⟨_,hI,rfl⟩;unfold mH;refine aq (wpAny_attempt (Jy (name:=aD "__next__") ty afw (yK afw ty F.entry_range_iterator_next ?_ (F.args_range_iterator_next_1 _))));refine(show ak _ _ (do let a<-field (.ref it) 0;_) _ _ s from aq (n6 hI rfl (x:=mG x) rfl ?_));refine(show ak _ _ (do let a<-field (.ref it) 1;_) _ _ s from aq (n6 hI rfl (x:=mG left) rfl ?_));refine(show ak _ _ (do let a<-field (.ref it) 2;_) _ _ s from aq (n6 hI rfl (x:=mG c) rfl ?_));show ak _ _ (ite (left<=0) _ _) _ _ s;rw[if_pos z];refine aq (Dk (aq (abm (it:=it) hh fun h' a o e1 e2 eb=>?_)));exact aq (wpAny_isInstance (T:="StopIteration") (b:=true) ⟨_,e1,e2⟩ isSubtype_stop (aG (k _ eb)))
end
structure Mod (K:aV) (mg:Str->Option Value) (base:Heap):Prop where
 kin:K.In base
 glob:base.Ns aM mg
 blt:∃ mb,base.Ns Dj mb/\∀ x:Str,x≠"__name__"->mb x=yt x
 nolimit:base.NoLimit
 apM:∃ mm,base.Ns kW mm
def ZX (A:aL) (H:Hp):Prop:=∀ v,A.handled=some v->∃ x o u vs,v= .ref x/\H x=some (.Gh o u)/\o.data= .fields vs/\vs[2]?=some .none
theorem ZX.mono {A:aL} {H H':Hp} (x:ZX A H) (f:∀ b o u,H b=some (.Gh o u)->H' b=some (.Gh o u)):ZX A H':=fun v q=>let⟨x,o,u,vs,e,h,r⟩:=x v q;⟨x,o,u,vs,e,f _ _ _ h,r⟩
theorem ZX.hds {P:aZ} {w:aQ} {A:aL} {H:Hp} {h:Heap} (x:ZX A H) (k:VF P w H h):tL A h:=fun v q=>let⟨x,o,u,vs,e,y,r⟩:=x v q;⟨x,o,vs,e,(show Ci P w H h x (.Gh o u)from k _ _ y).1,r⟩
structure Cx where
 prog:aZ
 w:aQ
 K:aV
 mg:Str->Option Value
 base:Heap
 A:aL
 N:List Str
 s₀:aj
 H₀:Hp
 env:Env
 outer:List Env
 stack:List Env
 ex:List Addr
 fn:Str->Bool
 calm:Bool
 pn:List (Addr×Obj)
 xe:Value->aj->Prop
def frs (l:List Env):List Addr:=l.filterMap (·.frame)
noncomputable abbrev Cx.fs (X:Cx):List Addr:=frs X.outer
def wz (sc:Scope) (x:Str):Prop:=sc.names.lookup x=some .local∨sc.names.lookup x=some .cell∨sc.names.lookup x=some .free
def Loc (sc:Scope) (x:Str):Prop:=sc.names.lookup x=some .local∨sc.names.lookup x=some .cell
def Look (env:Env) (h:Heap) (m:Str->Option Value) (x:Str) (u:Value):Prop:=
 (env.kindOf x=some .local/\m x=some u)∨((env.kindOf x=some .cell∨env.kindOf x=some .free)/\∃ c,env.cells.lookup x=some c/\h.IsCell c (some u))
structure Cx.Ok (X:Cx):Prop where
 mod:Mod X.K X.mg X.base
 kind:X.env.scope.kind= .function
 glob:X.env.globals=aM
 blt:X.env.builtins=Dj
 above:X.s₀.heap.objs.size<=X.env.locals
 inj:∀ x y c,X.env.cells.lookup x=some c->X.env.cells.lookup y=some c->x=y
 has:∀ x,(X.env.kindOf x=some .cell∨X.env.kindOf x=some .free)->∃ c,X.env.cells.lookup x=some c
 cab:∀ x c,X.fn x=true->X.env.cells.lookup x=some c->X.s₀.heap.objs.size<=c
 hd:X.calm=true->X.A.handled=none
 frames:X.A.frames=some X.stack
 stk:X.stack=X.outer∨(X.stack=X.env::X.outer/\X.env.frame=some X.env.locals)
 exf:∀ b∈X.ex,b≠X.env.locals/\∀ x c,X.env.cells.lookup x=some c->c≠b
 bs:∀ b o,X.base.get? b=some o->X.s₀.heap.get? b=some o/\X.H₀ b=none
 bsz:X.base.objs.size<=X.s₀.heap.objs.size
 air:∀ b o,X.base.get? b=some o->b∉X.ex
 alY:∀ b∈X.ex,b∉X.fs
 Eo:X.s₀.heap.FunFrames X.base X.outer
 frf:∀ b∈X.fs,X.H₀ b=none
structure Inv (X:Cx) (pins:List (Addr×Obj)) (σ:List (Option V)) (H:Hp) (s:aj):Prop where
 ok:X.Ok
 os:s.os=X.s₀.os
 bare:mJ s.gens
 base:Un X.fs X.ex X.H₀ H X.s₀.heap s.heap
 loc:∃ m,s.heap.Ns X.env.locals m/\∀ (i:Nat) (x:Str) (v:V),X.N[i]?=some x->σ[i]?=some (some v)->wz X.env.scope x->∃ u,RelV v u/\Look X.env s.heap m x u
 cell:∀ x c,X.env.cells.lookup x=some c->∃ v,s.heap.IsCell c v
 free:H X.env.locals=none
 U4:∀ x c,X.env.cells.lookup x=some c->H c=none
 pin:∀ p∈X.pn++pins,s.heap.get? p.1=some p.2/\H p.1=none/\p.1≠X.env.locals/\p.1∉X.fs/\∀ v,p.2.data≠.cell v
 hok:VF X.prog X.w H s.heap
 len:σ.length=X.N.length
 hh:ZX X.A H
section
variable {X:Cx} {pins:List (Addr×Obj)} {σ:List (Option V)} {H H':Hp} {s:aj} {h':Heap}
theorem Cx.Ok.aoj (ok:X.Ok) {b:Addr} {o:Obj} (e:X.base.get? b=some o):b∉X.fs:=fun hb=>by have:=(ok.Eo.mem hb).1;rw[e]at this;cases this
theorem Inv.bs (I:Inv X pins σ H s):∀ b o,X.base.get? b=some o->s.heap.get? b=some o/\H b=none:=fun b o e=>⟨I.base.keep b o (I.ok.bs b o e).1 (I.ok.bs b o e).2 (I.ok.aoj e) (I.ok.air b o e),I.base.free b o (I.ok.bs b o e).1 (I.ok.bs b o e).2 (I.ok.air b o e)⟩
theorem Inv.bk (I:Inv X pins σ H s):∀ b o,X.base.get? b=some o->s.heap.get? b=some o:=fun b o e=>(I.bs b o e).1
theorem Inv.mod (I:Inv X pins σ H s):Mod X.K X.mg X.base:=I.ok.mod
theorem Inv.Cp (I:Inv X pins σ H s):X.K.In s.heap:=I.ok.mod.kin.keeps I.bk
theorem Inv.nolimit (I:Inv X pins σ H s):s.heap.NoLimit:=I.ok.mod.nolimit.keeps I.bk
theorem Inv.fr (I:Inv X pins σ H s):∃ m,Fr X.base X.env.locals s.heap m:=
 let⟨m,hn,_⟩:=I.loc
 ⟨m,hn,I.bk,gD I.ok.bsz I.ok.above⟩
theorem Inv.lt (I:Inv X pins σ H s):X.env.locals<s.heap.objs.size:=let⟨_,hn,_⟩:=I.loc;hn.lt
theorem Inv.sz (I:Inv X pins σ H s):X.s₀.heap.objs.size<=s.heap.objs.size:=gD I.ok.above (pU I.lt)
theorem Inv.aoi (I:Inv X pins σ H s) {a:Addr} (h:s.heap.objs.size<=a):a∉X.fs:=fun hb=>by obtain⟨_,o,ho,_⟩:=I.ok.Eo.mem hb;exact absurd (f9 (bW ho) (gD I.sz h)) (jg _)
theorem Inv.cne (I:Inv X pins σ H s):∀ x c,X.env.cells.lookup x=some c->c≠X.env.locals:=fun x c e z=>by obtain⟨v,o,ho,hd⟩:=I.cell x c e;obtain⟨m,⟨o',es,ep,ho',hd',_⟩,_⟩:=I.loc;rw[z,ho']at ho;cases ho;rw[hd']at hd;cases hd
theorem Inv.Eo (I:Inv X pins σ H s):s.heap.FunFrames X.base X.outer:=by
 have all:∀ (l:List Env),(∀ b∈frs l,b∈X.fs)->X.s₀.heap.FunFrames X.base l->s.heap.FunFrames X.base l:=by
  intro l;induction l with
  |nil=>intro _ _;trivial|cons env r ih=>intro hs hl;obtain⟨hk,⟨L,o,hf,hn,ho,hd⟩,hr⟩:=hl;have hL:L∈X.fs:=hs L (by unfold frs;rw[Yp,hf];exact w7);obtain⟨sl,e⟩:=I.base.slot L o ho (I.ok.frf L hL) hL fun z=>I.ok.alY L z hL;exact⟨hk,⟨L,_,hf,hn,e,hd⟩,ih (fun b hb=>hs b (by unfold frs;rw[Yp,hf];exact jh _ hb)) hr⟩
 exact all X.outer (fun _ hb=>hb) I.ok.Eo
theorem Inv.stack (I:Inv X pins σ H s):s.heap.FunFrames X.base X.stack:=by
 rcases I.ok.stk with e|⟨e,hf⟩
 .rw[e];exact I.Eo
 .rw[e]
  obtain⟨m,hn,_⟩:=I.loc;refine .cons (by rw[I.ok.kind];decide) hf hn ?_ I.Eo;exact Heap.get?_none_of_le (gD I.ok.bsz I.ok.above)
theorem Inv.akn (I:Inv X pins σ H s):∀ b∈frs X.stack,b∈X.env.locals::X.fs:=fun b hb=>by
 rcases I.ok.stk with e|⟨e,hf⟩
 .rw[e]at hb;exact jh _ hb
 .rw[e]at hb
  unfold frs at hb;rw[Yp,hf]at hb;exact hb
theorem Inv.step {g':Array GenState} {t':Nat} {d':Drawn} {ch:List Addr} (I:Inv X pins σ H s)
  (hch:∀ b∈ch,(b∈X.ex∨X.s₀.heap.objs.size<=b)/\b≠X.env.locals/\(∀ x c,X.env.cells.lookup x=some c->c≠b)/\∀ p∈X.pn++pins,p.1≠b)
  (keep:∀ b o,b≠X.env.locals->b∉X.fs->b∉ch->s.heap.get? b=some o->H b=none->h'.get? b=some o)
  (slot:∀ b o,b≠X.env.locals->b∈X.fs->b∉ch->s.heap.get? b=some o->H b=none->∃ sl,h'.get? b=some {o with slots:=sl}) (free:∀ b o,b∉ch->s.heap.get? b=some o->H b=none->H' b=none)
  (there:∀ b o,b∉ch->s.heap.get? b=some o->∃ o',h'.get? b=some o')
  (tups:∀ b xs,H b=some (.tup xs)->H' b=some (.tup xs)) (Kh:∀ b o u,H b=some (.Gh o u)->H' b=some (.Gh o u)) (N8:∀ b ps,H b=some (.tbl ps)->∃ more:Array Value,H' b=some (.tbl (ps++more)))
  (ns:∀ m,s.heap.Ns X.env.locals m->h'.Ns X.env.locals m) (hok:VF X.prog X.w H' h') (hg:mJ g'):
  Inv X pins σ H' {s with heap:=h',gens:=g',drawn:=d',toks:=t' }:=by
 have neL:∀ b o,X.s₀.heap.get? b=some o->b≠X.env.locals:=fun b o e=>jf (f9 (bW e) I.ok.above);have neC:∀ b o,X.s₀.heap.get? b=some o->b∉X.ex->b∉ch:=fun b o e hx hb=>by
  rcases(hch b hb).1 with z|z
  .exact hx z
  .exact absurd (f9 (bW e) z) (jg _)
 have cellK:∀ x c,X.env.cells.lookup x=some c->∀ v,s.heap.IsCell c v->h'.IsCell c v:=fun x c e v ⟨o,ho,hd⟩=>by
  have nch:c∉ch:=fun z=>(hch c z).2.2.1 x c e rfl;by_cases hc:c∈X.fs
  .obtain⟨sl,q⟩:=slot c o (I.cne x c e) hc nch ho (I.U4 x c e)
   exact⟨_,q,hd⟩
  .exact⟨o,keep c o (I.cne x c e) hc nch ho (I.U4 x c e),hd⟩
 refine⟨I.ok,I.os,hg,⟨fun b o e n hb hx=>?_,fun b o e n hb hx=>?_,fun b o e n hx=>?_,fun b o e hx=>?_,fun b xs e=>tups b xs (I.base.tups b xs e),fun b o xs e=>Kh b o xs (I.base.Kh b o xs e),fun b ps e=>?_⟩,?_,fun x c e=>?_,?_,fun x c e=>?_,fun p hp=>?_,hok,I.len,I.hh.mono Kh⟩
 .exact keep b o (neL b o e) hb (neC b o e hx) (I.base.keep b o e n hb hx) (I.base.free b o e n hx)
 .obtain⟨sl,e1⟩:=I.base.slot b o e n hb hx
  obtain⟨sl',e2⟩:=slot b _ (neL b o e) hb (neC b o e hx) e1 (I.base.free b o e n hx);exact⟨sl',e2⟩
 .obtain⟨o',e1⟩:=I.base.there b o e hx
  exact free b o' (neC b o e hx) e1 (I.base.free b o e n hx)
 .obtain⟨o',e1⟩:=I.base.there b o e hx
  exact there b o' (neC b o e hx) e1
 .obtain⟨m1,e1⟩:=I.base.N8 b ps e
  obtain⟨m2,e2⟩:=N8 b _ e1;exact⟨m1++m2,by rw[e2,Tab.assoc]⟩
 .obtain⟨m,hn,hl⟩:=I.loc
  refine⟨m,ns m hn,fun i x v e1 e2 e3=>?_⟩;obtain⟨u,r,l⟩:=hl i x v e1 e2 e3;refine⟨u,r,?_⟩;rcases l with l|⟨k,c,e,z⟩
  .exact .inl l
  .exact .inr ⟨k,c,e,cellK x c e _ z⟩
 .obtain⟨v,z⟩:=I.cell x c e
  exact⟨v,cellK x c e v z⟩
 .obtain⟨m,⟨o,_,_,ho,_⟩,_⟩:=I.loc
  exact free _ o (fun z=>(hch _ z).2.1 rfl) ho I.free
 .obtain⟨v,o,ho,hd⟩:=I.cell x c e
  exact free c o (fun z=>(hch c z).2.2.1 x c e rfl) ho (I.U4 x c e)
 .obtain⟨e,n,ne,nf,d⟩:=I.pin p hp
  have nch:p.1∉ch:=fun z=>(hch p.1 z).2.2.2 p hp rfl;exact⟨keep p.1 p.2 ne nf nch e n,free p.1 p.2 nch e n,ne,nf,d⟩
theorem Inv.un {t':Nat} (I:Inv X pins σ H s) (u:Un X.fs [] H H' s.heap h') (hok:VF X.prog X.w H' h'):Inv X pins σ H' {s with heap:=h',toks:=t' }:=by obtain⟨m,⟨o,es,ep,ho,r⟩,_⟩:=id I.loc;obtain⟨sl,hL⟩:=u.any ho I.free (by simp);exact I.step (g':=s.gens) (d':=s.drawn) (ch:=[]) (fun _ z=>nomatch z) (fun b o _ hb _ e n=>u.keep b o e n hb (by simp)) (fun b o _ hb _ e n=>u.slot b o e n hb (by simp)) (fun b o _ e n=>u.free b o e n (by simp)) (fun b o _ e=>u.there b o e (by simp)) u.tups u.Kh u.N8 (fun m' hm=>by obtain⟨o',es',ep',ho',r'⟩:=hm;rw[ho]at ho';cases ho';exact⟨_,es',ep',hL,r'⟩) hok I.bare
theorem Inv.call {g':Array GenState} {t':Nat} {d':Drawn} {ch:List Addr} (I:Inv X pins σ H s) (u:Un (frs X.stack) ch H H' s.heap h') (hok:VF X.prog X.w H' h') (hg:mJ g')
  (hch:∀ b∈ch,(b∈X.ex∨X.s₀.heap.objs.size<=b)/\b≠X.env.locals/\(∀ x c,X.env.cells.lookup x=some c->c≠b)/\∀ p∈X.pn++pins,p.1≠b):
  Inv X pins σ H' {s with heap:=h',gens:=g',drawn:=d',toks:=t' }:=by
 obtain⟨m,⟨o,es,ep,ho,r⟩,_⟩:=id I.loc;obtain⟨sl,hL⟩:=u.any ho I.free fun z=>(hch _ z).2.1 rfl;exact I.step (ch:=ch) hch (fun b o hL hb hc e n=>u.keep b o e n (fun z=>(bC.mp (I.akn b z)).elim hL hb) hc) (fun b o _ _ hc e n=>u.any e n hc) (fun b o hc e n=>u.free b o e n hc) (fun b o hc e=>u.there b o e hc) u.tups u.Kh u.N8 (fun m' hm=>by obtain⟨o',es',ep',ho',r'⟩:=hm;rw[ho]at ho';cases ho';exact⟨_,es',ep',hL,r'⟩) hok hg
theorem Inv.tok (I:Inv X pins σ H s) (t:Nat):Inv X pins σ H {s with toks:=t}:=I.un (h':=s.heap) (t':=t) Un.refl I.hok
theorem Inv.kept {t':Nat} (I:Inv X pins σ H s) (k:∀ b u,s.heap.get? b=some u->h'.get? b=some u):Inv X pins σ H {s with heap:=h',toks:=t' }:=I.un (Un.kept k) (I.hok.kept k)
theorem Tz {N:List Str} (hN:N.Nodup) {i j:Nat} {x:Str} (a:N[i]?=some x) (b:N[j]?=some x):i=j:=by obtain⟨h1,e1⟩:=bT.mp a;obtain⟨h2,e2⟩:=bT.mp b;exact(List.getElem_inj hN).mp (e1.trans e2.symm)
end
noncomputable abbrev XK:=Value->Option Addr->Hp->Prop
noncomputable abbrev St:=List (Option V)
noncomputable abbrev VK:=V->Hp->Prop
noncomputable abbrev TE:=St->Hp->VK->Prop
noncomputable abbrev TT:=St->Hp->(Bool->Hp->Prop)->Prop
noncomputable abbrev TA:=St->Hp->(List V->Hp->Prop)->Prop
structure Ends where
 nx:St->Hp->Prop
 rt:VK
 bk:St->Hp->Prop:=fun _ _=>False
 ct:St->Hp->Prop:=fun _ _=>False
noncomputable abbrev TS:=Ends->St->Hp->Prop
def EP (X:Cx) (pins:List (Addr×Obj)) (σ:St) (Q:VK) (u:Value) (s':aj):Prop:=∃ v H',Inv X pins σ H' s'/\RelV v u/\Q v H'
def TP (X:Cx) (pins:List (Addr×Obj)) (σ:St) (Q:Bool->Hp->Prop) (b:Bool) (s':aj):Prop:=∃ H',Inv X pins σ H' s'/\Q b H'
def SP (X:Cx) (pins:List (Addr×Obj)) (D:Ends) (f:Flow) (s':aj):Prop:=
 match f with
 | .next=>∃ σ' H',Inv X pins σ' H' s'/\D.nx σ' H'| .brk=>∃ σ' H',Inv X pins σ' H' s'/\D.bk σ' H'| .cont=>∃ σ' H',Inv X pins σ' H' s'/\D.ct σ' H'| .ret u=>∃ v σ' H',Inv X pins σ' H' s'/\RelV v u/\D.rt v H'
def PE (X:Cx) (e:Expr) (t:TE):Prop:=
 ∀ (pins:List (Addr×Obj)) (s:aj) (σ:St) (H:Hp) (Q:VK),Inv X pins σ H s->t σ H Q->ak (aH X.prog X.w) X.A (eval e X.env) (EP X pins σ Q) X.xe s
def PT (X:Cx) (e:Expr) (t:TT):Prop:=
 ∀ (pins:List (Addr×Obj)) (s:aj) (σ:St) (H:Hp) (Q:Bool->Hp->Prop),Inv X pins σ H s->t σ H Q->ak (aH X.prog X.w) X.A (rI e X.env (eval e X.env)) (TP X pins σ Q) X.xe s
def PW (X:Cx) (e:Expr) (t:TT):Prop:=
 ∀ (whole:Sem Value) (pins:List (Addr×Obj)) (s:aj) (σ:St) (H:Hp) (Q:Bool->Hp->Prop),Inv X pins σ H s->t σ H Q->ak (aH X.prog X.w) X.A (rI e X.env whole) (TP X pins σ Q) X.xe s
theorem PW.pt {X:Cx} {e:Expr} {t:TT} (h:PW X e t):PT X e t:=h _
def VB (X:Cx) (st:List Stmt) (t:TS):Prop:=
 ∀ (pins:List (Addr×Obj)) (s:aj) (σ:St) (H:Hp) (D:Ends),Inv X pins σ H s->t D σ H->ak (aH X.prog X.w) X.A (execs st X.env) (SP X pins D) X.xe s
theorem thn {α:Type} {t:Sem α} {Q Q':α->aj->Prop} {M:Model} {A:aL} {E:Value->aj->Prop} {s:aj} (h:ak M A t Q E s) (hQ:∀ a s,Q a s->Q' a s):ak M A t Q' E s:=iu h hQ fun _ _ x=>x
section
variable {X:Cx}
theorem bin {a b:Expr} {ta tb:TE} (ha:PE X a ta) (hb:PE X b tb) {pins:List (Addr×Obj)} {s:aj} {σ:St} {H:Hp} {R:V->V->Hp->Prop} (I:Inv X pins σ H s) (h:ta σ H fun x H1=>tb σ H1 fun y H2=>R x y H2)
  {α:Type} {Q:α->aj->Prop} {f:Value->Value->Sem α}
  (hf:∀ v u s2 x y H2,Inv X pins σ H2 s2->RelV x v->RelV y u->R x y H2->ak (aH X.prog X.w) X.A (f v u) Q X.xe s2):
  ak (aH X.prog X.w) X.A (eval a X.env) (fun v s₁=>ak (aH X.prog X.w) X.A (eval b X.env) (fun u s₂=>ak (aH X.prog X.w) X.A (f v u) Q X.xe s₂) X.xe s₁) X.xe s:=by
 refine thn (ha pins s σ H _ I h) fun v s1 ⟨x,H1,I1,r1,q1⟩=>?_;refine thn (hb pins s1 σ H1 _ I1 q1) fun u s2 ⟨y,H2,I2,r2,q2⟩=>?_;exact hf v u s2 x y H2 I2 r1 r2 q2
variable {a b:Expr} {ta tb:TE} {pos:Pos}
variable {tA tB':TT} {rest:List Expr}
end
def SqL (K:aV) (H:Hp) (a:Addr) (xs:List V):Prop:=
 Rd H a (.lst xs)∨
  ∃ (o:Obj) (its:Array Value) (n:Nat),K.lookup a=some o/\o.cls= .type "list"/\o.dict=none/\o.data= .seq its n/\its.size<=sizeLine/\Vals xs its.toList
def SqT (K:aV) (H:Hp) (a:Addr) (xs:List V):Prop:=
 Rd H a (.tup xs)∨
  ∃ (o:Obj) (its:Array Value) (n:Nat),K.lookup a=some o/\o.cls= .type "tuple"/\o.data= .seq its n/\its.size<=sizeLine/\Vals xs its.toList
def aoK:Value->Option V
 | .none=>some .non| .bool b=>some (.bl b)| .int i _=>some (.int i)| .str x _=>some (.str x)| .bytes b _=>some (.byt b)| .float b _=>some (.flt b)| .ref a=>some (.ref a)| .type n=>some (.ty n)|_=>none
theorem RelV.abs {x:V} {u:Value} (r:RelV x u):aoK u=some x:=by
 cases x with
 |non=>cases r;rfl
 |bl _=>cases r;rfl
 |int _=>obtain⟨t,rfl⟩:=r;rfl|str _=>obtain⟨t,rfl⟩:=r;rfl|byt _=>obtain⟨t,rfl⟩:=r;rfl|flt _=>obtain⟨t,rfl⟩:=r;rfl|ref _=>cases r;rfl
 |ty _=>cases r;rfl
theorem RelV.inj {x y:V} {u:Value} (r:RelV x u) (q:RelV y u):x=y:=cM (r.abs.symm.trans q.abs)
theorem Vals.inj:∀ {xs ys:List V} {us:List Value},Vals xs us->Vals ys us->xs=ys
 |_,_,_,.nil,.nil=>rfl|_,_,_,.cons r t,.cons r' t'=>by rw[r.inj r',Vals.inj t t']
section
variable {X:Cx} {pins:List (Addr×Obj)} {σ:St} {H:Hp} {s:aj} {a:Addr} {xs ys:List V}
theorem SqL.of {K:aV} (h:H a=some (.lst xs)):SqL K H a xs:=.inl (.inl h)
theorem SqT.of {K:aV} (h:H a=some (.tup xs)):SqT K H a xs:=.inl (.inl h)
theorem Inv.list (I:Inv X pins σ H s) (h:SqL X.K H a xs):∃ its:List Value,Vals xs its/\Iu s.heap a its.toArray/\xs.length<=sizeLine:=by
 rcases h with h|⟨o,its,n,hk,hc,hd,hs,hz,r⟩
 .obtain⟨z,its,n,r,e⟩:=h.ok I.hok
  exact⟨its,r,⟨_,n,e,rfl,rfl,rfl⟩,z⟩
 .refine⟨its.toList,r,⟨o,n,I.Cp a o hk,hc,hd,by simpa using hs⟩,?_⟩
  have e:=r.length;simp only[tu]at e;lia
theorem Inv.tuple (I:Inv X pins σ H s) (h:SqT X.K H a xs):∃ its:List Value,Vals xs its/\yc s.heap a its.toArray/\xs.length<=sizeLine:=by
 rcases h with h|⟨o,its,n,hk,hc,hs,hz,r⟩
 .obtain⟨z,its,r,p⟩:=h.ok I.hok
  exact⟨its,r,p.is,z⟩
 .refine⟨its.toList,r,⟨o,I.Cp a o hk,hc,n,by simpa using hs⟩,?_⟩
  have e:=r.length;simp only[tu]at e;lia
end
noncomputable abbrev Cx.wish (X:Cx) (E:Value->aj->Prop):Cx:={X with xe:=E}
noncomputable abbrev Cx.nox (X:Cx):Cx:=X.wish fun _ _=>False
theorem Cx.Ok.wish {X:Cx} (ok:X.Ok) (E:Value->aj->Prop):(X.wish E).Ok:=
 ⟨ok.mod,ok.kind,ok.glob,ok.blt,ok.above,ok.inj,ok.has,ok.cab,ok.hd,ok.frames,ok.stk,ok.exf,ok.bs,ok.bsz,ok.air,ok.alY,ok.Eo,ok.frf⟩
theorem Cx.Ok.pO {X:Cx} {E:Value->aj->Prop} (ok:(X.wish E).Ok):X.Ok:=
 ⟨ok.mod,ok.kind,ok.glob,ok.blt,ok.above,ok.inj,ok.has,ok.cab,ok.hd,ok.frames,ok.stk,ok.exf,ok.bs,ok.bsz,ok.air,ok.alY,ok.Eo,ok.frf⟩
section
variable {X:Cx} {pins:List (Addr×Obj)} {σ:St} {H:Hp} {s:aj} {E:Value->aj->Prop}
theorem Inv.wish (I:Inv X pins σ H s) (E:Value->aj->Prop):Inv (X.wish E) pins σ H s:=⟨I.ok.wish E,I.os,I.bare,I.base,I.loc,I.cell,I.free,I.U4,I.pin,I.hok,I.len,I.hh⟩
theorem Inv.pO (I:Inv (X.wish E) pins σ H s):Inv X pins σ H s:=⟨I.ok.pO,I.os,I.bare,I.base,I.loc,I.cell,I.free,I.U4,I.pin,I.hok,I.len,I.hh⟩
theorem SP.pO {D:Ends} {f:Flow} {s':aj} (h:SP (X.wish E) pins D f s'):SP X pins D f s':=by
 cases f with
 |next=>obtain⟨σ',H',I,q⟩:=h;exact⟨σ',H',I.pO,q⟩|brk=>obtain⟨σ',H',I,q⟩:=h;exact⟨σ',H',I.pO,q⟩|cont=>obtain⟨σ',H',I,q⟩:=h;exact⟨σ',H',I.pO,q⟩|ret u=>obtain⟨v,σ',H',I,r,q⟩:=h;exact⟨v,σ',H',I.pO,r,q⟩
theorem PE.nox {e:Expr} {t:TE} (h:PE X.nox e t):PE X e t:=fun pins s σ H Q I hw=>iu (h pins s σ H Q (I.wish _) hw) (fun _ _ ⟨v,H',I',r,q⟩=>⟨v,H',I'.pO,r,q⟩) fun _ _ z=>rO z
theorem PT.nox {e:Expr} {t:TT} (h:PT X.nox e t):PT X e t:=fun pins s σ H Q I hw=>iu (h pins s σ H Q (I.wish _) hw) (fun _ _ ⟨H',I',q⟩=>⟨H',I'.pO,q⟩) fun _ _ z=>rO z
theorem VB.nox {st:List Stmt} {t:TS} (h:VB X.nox st t):VB X st t:=fun pins s σ H D I hw=>iu (h pins s σ H D (I.wish _) hw) (fun _ _ q=>q.pO) fun _ _ z=>rO z
end
section
variable {X:Cx} {st:Stmt} {rest:List Stmt} {t u:TS} {e:Expr} {te:TE} {pos:Pos}
theorem Inv.quiet {pins:List (Addr×Obj)} {σ:St} {H:Hp} {s:aj} (I:Inv X pins σ H s):O9 X.env=false:=by simp[O9,I.ok.kind]
end
section
variable {X:Cx} {pos:Pos}
end
section
variable {X:Cx} {pos:Pos}
end
structure It where
 go:Nat->Hp->Prop
 yld:Nat->Hp->V->Hp->Prop
 stop:Nat->Hp->Prop
def zO (X:Cx) (pins:List (Addr×Obj)) (H:Hp) (b:Addr):Prop:=
 H b=none/\b≠X.env.locals/\b∉X.fs/\(b∈X.ex∨X.s₀.heap.objs.size<=b)/\(∀ x c,X.env.cells.lookup x=some c->c≠b)/\∀ p∈X.pn++pins,p.1≠b
theorem Inv.qP {X:Cx} {pins:List (Addr×Obj)} {σ:St} {H H':Hp} {s:aj} {b:Addr} (I:Inv X pins σ H s) (hb:s.heap.objs.size<=b) (hn:H' b=none):zO X pins H' b:=by
 refine⟨hn,rQ (f9 I.lt hb),I.aoi hb,.inr (gD I.sz hb),fun x c e z=>?_,fun p hp z=>?_⟩
 .obtain⟨v,q⟩:=I.cell x c e
  exact absurd (f9 q.lt (by rw[z];exact hb)) (jg _)
 .exact absurd (f9 (bW (I.pin p hp).1) (by rw[z];exact hb)) (jg _)
noncomputable abbrev TI:=St->Hp->(It->Hp->Prop)->Prop
theorem Bs {M:Model} {A:aL} {E:Value->aj->Prop} {s:aj} {tg:Expr} {it:Addr} {u:Value} {o:Obj} {n:String} {vs:Array Value} {Q:Unit->aj->Prop} (ho:s.heap.get? it=some o) (hc:o.cls= .type n) (hd:o.data= .fields vs)
    (hn:["enumerate","zip","dict_itemiterator","dict_reverseitemiterator","odict_iterator","itertools.zip_longest","itertools.pairwise"].contains n=false) (hQ:Q () s):ak M A (Qf tg (.ref it) u) Q E s:=by
  unfold Qf;cases tg<;>first
    |exact aG hQ
    |(cases u<;>first
        |exact aG hQ
        | (refine aq (wpAny_load ho ?_)
           rw[hc,hd];show ak M A (if(["enumerate","zip","dict_itemiterator","dict_reverseitemiterator","odict_iterator","itertools.zip_longest","itertools.pairwise"].contains n&&vs[0]?==some (mG _))=true then _ else _) Q E s;rw[if_neg (by intro h;rw[hn,yC]at h;cases h)];exact aG hQ))
section
variable {X:Cx} {tg:Expr}
end
noncomputable abbrev R2:=V->V->Hp->VK->Prop
def OpR (X:Cx) (f:Value->Value->Sem Value) (r:R2):Prop:=
 ∀ (pins:List (Addr×Obj)) (s:aj) (σ:St) (H:Hp) (x y:V) (v u:Value) (Q:VK),Inv X pins σ H s->RelV x v->RelV y u->r x y H Q->
  ak (aH X.prog X.w) X.A (f v u) (EP X pins σ Q) X.xe s
def aa8 (X:Cx) (f:Value) (r:List V->Hp->VK->Prop):Prop:=
 ∀ (pins:List (Addr×Obj)) (s:aj) (σ:St) (H:Hp) (xs:List V) (us:List Value) (Q:VK),Inv X pins σ H s->Vals xs us->r xs H Q->
  ak (aH X.prog X.w) X.A (call f us) (EP X pins σ Q) X.xe s
section
variable {X:Cx} {a b c:Expr} {ta tb tc:TE} {pos:Pos}
def ano (i j:Int):Prop:=(-(2 ^ 64)<i/\i<2 ^ 64)∨(-(2 ^ 64)<j/\j<2 ^ 64)
theorem ano.ok {i j:Int} (h:ano i j):IntMulOk i j:=by
 rcases h with⟨h1,h2⟩|⟨h1,h2⟩
 .exact .of_left (Px h1 h2)
 .exact .of_right (Px h1 h2)
end
section
variable {X:Cx} {a b c:Expr} {ta tb tc:TE} {pos:Pos}
theorem OpR.or {f:Value->Value->Sem Value} {r r':R2} (h:OpR X f r) (h':OpR X f r'):OpR X f (fun x y H Q=>r x y H Q∨r' x y H Q):=by
 intro pins s σ H x y v u Q I rx ry q;rcases q with q|q
 .exact h pins s σ H x y v u Q I rx ry q
 .exact h' pins s σ H x y v u Q I rx ry q
end
structure RZ (h:Heap) (x dx C:Addr) (mA:Str->Option Value):Prop where
 obj:h.get? x=some (uq C dx)
 ns:h.Ns1 dx mA
 ne:dx≠x
theorem abM {h:Heap} {dx:Addr} {mA:Str->Option Value} (n:h.Ns1 dx mA):∃ od,h.get? dx=some od/\∀ name,PJ name od=some (mA name):=by
 obtain⟨o,es,ep,ho,hd,hk,_,hm⟩:=n;refine⟨o,ho,fun name=>?_⟩;have e:=hm name;unfold nsFind findBy at e;rw[<-Array.find?_toList]at e;unfold PJ;rw[hd];dsimp only;split
 .rename_i y q
  rw[q]at e;exact congrArg some e
 .rename_i q
  rw[q]at e;have a:es.toList.any (·.refKey)=false:=by rw[List.any_eq_false];intro y hy;obtain⟨z,t,hkey⟩:=hk y (aeV.mp hy);simp[DictEntry.refKey,hkey]
  have a':¬es.toList.any (·.refKey)=true:=by rw[a];exact fH
  rw[if_neg a'];exact congrArg some e
theorem RZ.look {h:Heap} {x dx C:Addr} {mA:Str->Option Value} (I:RZ h x dx C mA):∃ od,PySem.W.InstAt h x (uq C dx) C (some od)/\∀ name,PJ name od=some (mA name):=
 let⟨od,ho,hl⟩:=abM I.ns
 ⟨od,⟨I.obj,rfl,rfl,ho⟩,hl⟩
section
variable {prog:aZ} {w:aQ} {A:aL} {E:Value->aj->Prop} {s:aj} {K:aV} {x dx C f:Addr} {mA:Str->Option Value} {name:Str} {v:Value}
theorem get_map {expr:Bool} {Q:Value->aj->Prop} (X:K.In s.heap) (I:RZ s.heap x dx C mA) (hg:Jl K C name=true) (hh:Qp K C=true)
  (ha:nM K (.ref C) name=some none) (hv:mA name=some v) (hv':ad7 v=true) (h:Q v {s with toks:=s.toks+1}):
  ak (aH prog w) A (getAttr (.ref x) name expr) Q E s:=by
 obtain⟨od,J,hl⟩:=I.look;exact PySem.W.get_value X J (Yo hg).1 (PySem.W.findObj_own hh ha rfl (by rw[hl,hv])) hv' h
theorem agz {pl:Sem Bool} {Q:Value×List Value->aj->Prop} (X:K.In s.heap) (I:RZ s.heap x dx C mA) (hg:Jl K C name=true)
  (hf:nM K (.ref C) name=some (some (.ref f))) (ht:Je K (.ref f)=true) (hv:mA name=none) (h:Q (.ref f,[.ref x]) s):
  ak (aH prog w) A (getMethod (.ref x) name pl) Q E s:=by
 obtain⟨od,J,hl⟩:=I.look;exact PySem.W.method_fn X J (Yo hg).1 (Yo hg).2 hf (beq_iff_eq.mp ht) (by show(PJ name od).map (·.isSome)=some false;rw[hl,hv];rfl) h
theorem ahR {ns:List Str} {Q:Unit->aj->Prop} (X:K.In s.heap) (I:RZ s.heap x dx C mA)
  (hs:nM K (.ref C) "__setattr__"=some (some (.builtin "object.__setattr__"))) (hp:Yi K C=true) (ht:XQ K C name=some none) (hh:Qp K C=true)
  (hw:Pj mA ns) (hsz:ns.length<=sizeLine)
  (h:∀ h',RZ h' x dx C (fun y=>if y=name then some v else mA y)->Xi dx s.heap h'->Q () {s with heap:=h',toks:=s.toks+2}):
  ak (aH prog w) A (setAttr (.ref x) name v) Q E s:=by
 obtain⟨od,J,hl⟩:=I.look;refine PySem.W.set_plain X J hs (PySem.W.osa_open (s:={s with toks:=s.toks+1}) (r:=none) X J hp ht fun b=>?_);obtain⟨cd,hc,hd'⟩:=PySem.W.any_some hh;have hx:s.heap.get? x=some ⟨.ref C,some dx,.plain,#[]⟩:=I.obj;refine aq (aG (aq (aq (wpAny_loadPart hx (aq (akH (s:={s with toks:=s.toks+1}) (PySem.W.looks_clsIn X hc) ?_))))));rw[hd'];refine aG (a:=some dx) (aq (aG (aq ?_)));refine wpAny_nsSet1 (s:={s with toks:=s.toks+1}) I.ns fun h' hn2 hs2=>?_;obtain⟨oD,esD,epD,hoD,hdD,hcD⟩:=hn2.count (akD name v hw);refine aq (wpAny_lookBehind hoD (by rw[hdD];exact pastItsLine_dict (gD hcD (by rw[bh];lia))) ?_);exact aG (h _ ⟨(hs2.2 _ (bL I.ne)).trans I.obj,hn2,I.ne⟩ hs2)
theorem af9 {R:uy->aj->Prop} {vs:List Value} {kw:List (Str×Value)} (X:K.In s.heap) (hm:Qe K C=true)
  (hi:nM K (.ref C) "__init__"=some (some (.ref f))) (hf:PySem.W.typeIn K (.ref f)=some (.type "function"))
  (h:jK (aH prog w) (A.under (.builtin "type.__call__" ⟨.ref C::vs,kw⟩)) (.call (.ref f) ⟨.ref (s.heap.objs.size+1)::vs,kw⟩) (PySem.W.InitBack (s.heap.objs.size+1) R)
   {s with heap:=(s.heap.push wY).push (uq C s.heap.objs.size)}):
  jK (aH prog w) A (.call (.ref C) ⟨vs,kw⟩) R s:=by
 obtain⟨hh,g,d,t,os⟩:=s;exact PySem.W.make_core (PySem.W.makes_of X hm) (PySem.W.looks_findIn X hi) (fun self=>PySem.W.bind_fn X self hf) (.inl rfl) h
end
section
variable {P:aZ} {w:aQ} {H H':Hp} {h h':Heap} {a C dx:Addr} {fs fs':List (Str×V)}
end
structure Cls (K:aV) (C:Addr):Prop where
 pg:Jl K C Str.empty=true
 hd:Qp K C=true
 po:Yi K C=true
 sa:nM K (.ref C) "__setattr__"=some (some (.builtin "object.__setattr__"))
theorem Cls.get {K:aV} {C:Addr} (c:Cls K C) (f:Str):Jl K C f=true:=c.pg
def je (K:aV) (C:Addr) (f:Str):Prop:=nM K (.ref C) f=some none
theorem je.taker {K:aV} {C:Addr} {f:Str} (n:je K C f):XQ K C f=some none:=by unfold XQ;rw[show nM K (.ref C) f=some none from n];rfl
structure Fe (K:aV) (C:Addr) (f:Str) (v:V) (u:Value):Prop where
 at_:nM K (.ref C) f=some (some u)
 rel:RelV v u
 get:PySem.W.specialIn K u "__get__"=some none
 cp:PySem.W.copiedNames.contains f=false
structure Meth (K:aV) (C:Addr) (m:Str) (f:Addr):Prop where
 at_:nM K (.ref C) m=some (some (.ref f))
 fn:Je K (.ref f)=true
 kp:pB K (.ref f)=true
section
variable {X:Cx} {pins:List (Addr×Obj)} {σ:St} {H:Hp} {s:aj} {a C dx:Addr} {fs:List (Str×V)} {f:Str} {v:V} {A:aL} {E:Value->aj->Prop}
theorem ajg {prog:aZ} {w:aQ} {env:Env} {e:Expr} {f:Str} {pos:Pos} {s:aj} {Q:Value->aj->Prop} (hb:Xw e f env (eval e env)=eval e env)
  (h:ak (aH prog w) A (eval e env) (fun o s₁=>ak (aH prog w) A (getAttr o f true) Q E s₁) E s):ak (aH prog w) A (eval (.Attribute e f pos) env) Q E s:=
 Attribute_any_ h (by rw[arm_eval_Attribute,hb])
end
section
variable {X:Cx} {o e value:Expr} {f:Str} {pos pos' tpos:Pos} {ta tv:TE}
end
section
variable {X:Cx} {pins:List (Addr×Obj)} {σ:St} {H:Hp} {s:aj} {A:aL} {E:Value->aj->Prop} {Q:Value->aj->Prop} {c:Value} {b:Bool}
end
structure cG (k:Nat) (A:aL):Prop where
 hd:16<=k->A.handled=none
 dp:A.depth+3*k+5<recursionLimit
 un:A.units+16*k+200<cLine
 gd:A.guards=some []
theorem cG.mono {j k:Nat} {A:aL} (r:cG k A) (h:j<=k):cG j A:=⟨fun z=>r.hd (gD z h),by have:=r.dp;lia,by have:=r.un;lia,r.gd⟩
theorem cG.deeper {k:Nat} {A:aL} (r:cG (k+1) A) (env:Env):cG k (A.deeper env):=
 ⟨fun z=>r.hd (yL z),by have:=r.dp;show A.depth+1+3*k+5<_;lia,by have:=r.un;show A.units+3+16*k+200<_;lia,r.gd⟩
theorem cG.in1 {k:Nat} {A:aL} (r:cG (k+1) A):cG k A.in1:=
 ⟨fun z=>r.hd (yL z),by have:=r.dp;show A.depth+3*k+5<_;lia,by have:=r.un;show A.units+1+16*k+200<_;lia,r.gd⟩
theorem Zc {A:aL} {C:Addr} {us:List Value} {kw:List (Str×Value)}:(A.under (.builtin "type.__call__" ⟨.ref C::us,kw⟩)).depth=A.depth+1:=by first|rfl|simp[Ph,Code.weight,Code.isCreation,Code.isGuard,Code.isCaller,adv,Pg,guardIds]
theorem Zb {A:aL} {C:Addr} {us:List Value} {kw:List (Str×Value)}:(A.under (.builtin "type.__call__" ⟨.ref C::us,kw⟩)).units=A.units+1:=by first|rfl|simp[Ph,Code.cUnits,adv,Pg]
theorem cG.make {k:Nat} {A:aL} (r:cG (k+1) A) (C:Addr) (us:List Value) (kw:List (Str×Value)):cG k (A.under (.builtin "type.__call__" ⟨.ref C::us,kw⟩)):=
 ⟨fun z=>r.hd (yL z),by have:=r.dp;rw[Zc];lia,by have:=r.un;rw[Zb];lia,r.gd⟩
theorem cG.depth {k:Nat} {A:aL} (r:cG k A):A.depth<recursionLimit:=by have:=r.dp;lia
theorem cG.units {k:Nat} {A:aL} (r:cG k A):A.units+64<cLine:=by have:=r.un;lia
section
variable {X:Cx} {e:Expr} {es:List Expr} {te:TE} {t:TA} {pos:Pos}
end
noncomputable abbrev Sp:=List V->Hp->VK->XK->Prop
noncomputable abbrev CXT:=List Env->Hp->aj->XK->Value->aj->Prop
structure R0 (P:aZ) (w:aQ) (K:aV) (mg:Str->Option Value) (base:Heap) (A:aL) (outer:List Env) (s:aj) (H:Hp):Prop where
 frames:A.frames=some outer
 mod:Mod K mg base
 bs:∀ b o,base.get? b=some o->s.heap.get? b=some o/\H b=none
 bsz:base.objs.size<=s.heap.objs.size
 Eo:s.heap.FunFrames base outer
 frf:∀ b∈frs outer,H b=none
 hok:VF P w H s.heap
 bare:mJ s.gens
 hh:ZX A H
def CE (outer:List Env) (P:aZ) (w:aQ) (H:Hp) (s:aj) (Q:VK) (u:Value) (s':aj):Prop:=
 ∃ v H',s'.os=s.os/\mJ s'.gens/\Un (frs outer) [] H H' s.heap s'.heap/\VF P w H' s'.heap/\RelV v u/\Q v H'
def CR (CX:CXT) (outer:List Env) (P:aZ) (w:aQ) (H:Hp) (s:aj) (Q:VK) (E:XK) (r:uy) (s':aj):Prop:=
 match r with
 | .ok (.ret u)=>CE outer P w H s Q u s'| .ok _=>False| .error e=>CX outer H s E e s'
structure fG (P:aZ) (w:aQ) (K:aV) (mg:Str->Option Value) (base:Heap) (CX:CXT) (k:Nat) (f:Addr) (fd:d7) (ps:List Str) (sp:Sp):Prop where
 len:∀ vs H Q E,sp vs H Q E->vs.length=ps.length
 run:∀ (A:aL) (outer:List Env) (s:aj) (H:Hp) (args:Args) (us:List Value) (vs:List V) (Q:VK) (E:XK),cG k A->R0 P w K mg base A outer s H->uD s fd args (ps.zip us)->Vals vs us->sp vs H Q E->
  jK (aH P w) A (.call (.ref f) args) (CR CX outer P w H s Q E) s
theorem fG.mono {P:aZ} {w:aQ} {K:aV} {mg:Str->Option Value} {base:Heap} {CX:CXT} {j k:Nat} {f:Addr} {fd:d7} {ps:List Str} {sp:Sp} (F:fG P w K mg base CX j f fd ps sp) (h:j<=k):
  fG P w K mg base CX k f fd ps sp:=⟨F.len,fun A outer s H args us vs Q E hr=>F.run A outer s H args us vs Q E (hr.mono h)⟩
theorem fG.imp {P:aZ} {w:aQ} {K:aV} {mg:Str->Option Value} {base:Heap} {CX:CXT} {k:Nat} {f:Addr} {fd:d7} {ps:List Str} {sp Tc:Sp} (F:fG P w K mg base CX k f fd ps sp)
  (h:∀ vs H Q E,Tc vs H Q E->sp vs H Q E):fG P w K mg base CX k f fd ps Tc:=
 ⟨fun vs H Q E q=>F.len vs H Q E (h _ _ _ _ q),fun A outer s H args us vs Q E hr he hb hv hs=>F.run A outer s H args us vs Q E hr he hb hv (h _ _ _ _ hs)⟩
theorem R0.make {P:aZ} {w:aQ} {K:aV} {mg:Str->Option Value} {base:Heap} {A:aL} {outer:List Env} {s:aj} {H:Hp} (e:R0 P w K mg base A outer s H) (C:Addr) (us:List Value) (kw:List (Str×Value)):
  R0 P w K mg base (A.under (.builtin "type.__call__" ⟨.ref C::us,kw⟩)) outer s H:=⟨by first|exact e.frames|(simpa[Ph,Code.envs,Pg,pushEnvs]using e.frames),e.mod,e.bs,e.bsz,e.Eo,e.frf,e.hok,e.bare,e.hh⟩
theorem R0.in1 {P:aZ} {w:aQ} {K:aV} {mg:Str->Option Value} {base:Heap} {A:aL} {outer:List Env} {s:aj} {H:Hp} (e:R0 P w K mg base A outer s H):
  R0 P w K mg base A.in1 outer s H:=⟨e.frames,e.mod,e.bs,e.bsz,e.Eo,e.frf,e.hok,e.bare,e.hh⟩
section
variable {X:Cx} {pins:List (Addr×Obj)} {σ:St} {H:Hp} {s s':aj}
end
def Binds (K:aV) (fd:d7) (ps:List Str) (ds:List Value):Prop:=
 ∀ (s:aj) (us:List Value),K.In s.heap->(us++ds).length=ps.length->uD s fd ⟨us,[]⟩ (ps.zip (us++ds))
theorem Binds.all {K:aV} {fd:d7} {ps:List Str} (h:∀ us:List Value,us.length=ps.length->rK fd ⟨us,[]⟩=pure (ps.zip us)):Binds K fd ps []:=fun s us _ hl=>by rw[pX]at hl ⊢;exact .of_eq (h us hl)
section
variable {X:Cx} {CX:CXT} {k:Nat} {f C:Addr} {fd:d7} {ps:List Str} {sp:Sp} {dvs:List V} {ds:List Value} {E:XK} {x m:Str} {p pos apos:Pos} {e o:Expr} {es:List Expr} {ta:TE} {t:TA}
structure Mk (K:aV) (C f:Addr):Prop where
 makes:Qe K C=true
 init:nM K (.ref C) "__init__"=some (some (.ref f))
 fn:Je K (.ref f)=true
 kp:pB K (.ref C)=true
end
section
variable {X:Cx} {CX:CXT} {k:Nat} {f C:Addr} {fd:d7} {ps ks:List Str} {sp:Sp} {E:XK} {x m:Str} {p pos apos kpos:Pos} {e o:Expr} {es:List Expr} {kws:List Dd} {te ta:TE} {t tk:TA} {nm:Option Str}
variable {g:List Value->List Value->List Value} {gV:List V->List V->List V}
end
structure dj (N P:List Str) (sc:Scope):Prop where
 kind:sc.kind= .function
 co:sc.isCoroutine=false
 gen:sc.isGenerator=false
 nd:N.Nodup
 pre:N.take P.length=P
 par:∀ x∈P,sc.names.lookup x=some .local∨sc.names.lookup x=some .cell
 afU:∀ y∈sc.names,y.2≠.free
theorem Nr {kindOf:Str->Option gZ} {x:Str}:∀ {binds:List (Str×Value)} {m:Str->Option Value},(∀ v,(x,v)∉binds)->rG kindOf binds m x=m x
 |[],_,_=>rfl|(n,v)::r,m,h=>by
  unfold rG;rw[Nr fun w hw=>h w (jh _ hw)];split
  .have:x≠n:=by rintro rfl;exact h v w7
   simp[this]
  .rfl
theorem Nt {kindOf:Str->Option gZ} {x:Str}:∀ {binds:List (Str×Value)} {m:Str->Option Value},(∀ v,(x,v)∉binds)->bindC kindOf binds m x=m x
 |[],_,_=>rfl|(n,v)::r,m,h=>by
  unfold bindC;rw[Nt fun w hw=>h w (jh _ hw)];split
  .rfl
  .have:x≠n:=by rintro rfl;exact h v w7
   simp[this]
theorem vZ {kindOf:Str->Option gZ} {x:Str} {v:Value}:∀ {P:List Str} {vs:List Value} {i:Nat} {m:Str->Option Value},P.Nodup->P[i]?=some x->vs[i]?=some v->kindOf x=some .local->
  rG kindOf (P.zip vs) m x=some v
 |[],_,_,_,_,h,_,_=>by simp at h|_::_,[],_,_,_,_,h,_=>by simp at h|p::P,w::vs,0,m,nd,h1,h2,hk=>by simp at h1 h2;subst h1;subst h2;show rG kindOf ((p,w)::P.zip vs) m p=_;unfold rG;rw[Nr fun v hv=>(Qc.mp nd).1 (P0 hv).1,if_pos hk];simp|p::P,w::vs,i+1,m,nd,h1,h2,hk=>by show rG kindOf ((p,w)::P.zip vs) m x=_;unfold rG;exact vZ (i:=i) (Qc.mp nd).2 (by simpa using h1) (by simpa using h2) hk
theorem wg {kindOf:Str->Option gZ} {x:Str} {v:Value}:∀ {P:List Str} {vs:List Value} {i:Nat} {m:Str->Option Value},P.Nodup->P[i]?=some x->vs[i]?=some v->kindOf x≠some .local->
  bindC kindOf (P.zip vs) m x=some v
 |[],_,_,_,_,h,_,_=>by simp at h|_::_,[],_,_,_,_,h,_=>by simp at h|p::P,w::vs,0,m,nd,h1,h2,hk=>by simp at h1 h2;subst h1;subst h2;show bindC kindOf ((p,w)::P.zip vs) m p=_;unfold bindC;rw[Nt fun v hv=>(Qc.mp nd).1 (P0 hv).1,if_neg hk];simp|p::P,w::vs,i+1,m,nd,h1,h2,hk=>by show bindC kindOf ((p,w)::P.zip vs) m x=_;unfold bindC;exact wg (i:=i) (Qc.mp nd).2 (by simpa using h1) (by simpa using h2) hk
def start (N:List Str) (vs:List V):St:=vs.map some++bD (N.length -vs.length) none
def ace (CX:CXT) (P:aZ) (w:aQ) (K:aV) (mg:Str->Option Value) (base:Heap) (N:List Str) (qual:Str) (scope:Scope) (f:Addr) (cd:Value) (A:aL) (outer:List Env) (s:aj) (H:Hp) (E:XK):Cx where
 prog:=P
 w:=w
 K:=K
 mg:=mg
 base:=base
 A:=A.deeper (gW qual scope s.heap.objs.size f cd)
 N:=N
 s₀:=s
 H₀:=H
 env:=gW qual scope s.heap.objs.size f cd
 outer:=outer
 stack:=gW qual scope s.heap.objs.size f cd::outer
 ex:=[]
 calm:=A.handled.isNone
 fn:=fun _=>true
 pn:=[]
 xe:=fun e s'=>ak (aH P w) (A.deeper (gW qual scope s.heap.objs.size f cd)) (I3 (gW qual scope s.heap.objs.size f cd) e) (fun _ s''=>CX outer H s E e s'') (fun e' s''=>CX outer H s E e' s'') s'
theorem vD {sc:Scope} {n:Nat} {x:Str} (h:sc.names.lookup x=some .cell):∃ c,(g8 n sc.names []).lookup x=some c:=by have q:=YB sc.names n [] (.inl h);exact Ft.mp q
theorem abT {CX:CXT} {P:aZ} {w:aQ} {K:aV} {mg:Str->Option Value} {base:Heap} {N ps:List Str} {qual:Str} {scope:Scope} {f:Addr} {cd:Value} {A:aL} {outer:List Env} {s s1:aj} {H:Hp} {E:XK} {us:List Value} {vs:List V}
  (S:dj N ps scope) (e0:R0 P w K mg base A outer s H) (hl:vs.length=ps.length) (r:Vals vs us)
  (x:InCallC s s.heap.objs.size (rG (gW qual scope s.heap.objs.size f cd).kindOf (ps.zip us) fun _=>none) (g8 (s.heap.objs.size+1) scope.names []) (bindC (gW qual scope s.heap.objs.size f cd).kindOf (ps.zip us) fun _=>none) s1):
  Inv (ace CX P w K mg base N qual scope f cd A outer s H E) [] (start N vs) H s1:=by
 have hpl:ps.length<=N.length:=by have:=congrArg dR S.pre;rw[qw]at this;lia
 obtain⟨h1,tk,rfl,hk⟩:=x.done;have noA:∀ b:Addr,b∉(ace CX P w K mg base N qual scope f cd A outer s H E).ex:=fun b z=>absurd (show b∈([]:List Addr)from z) (by simp);refine⟨⟨e0.mod,S.kind,rfl,rfl,aA _,fun y z c h1 h2=>?_,fun y hy=>?_,fun y c _ h=>?_,fun z=>YL.mp z,Ys e0.frames,.inr ⟨rfl,rfl⟩,fun b z=>absurd z (noA b),e0.bs,e0.bsz,fun b _ _=>noA b,fun b z=>absurd z (noA b),e0.Eo,e0.frf⟩,
  rfl,e0.bare,Un.kept hk,⟨_,x.toInCall.ns,fun i y v h1 h2 h3=>?_⟩,fun y c h=>⟨_,x.cell y c h⟩,e0.hok.fresh (aA _),fun y c h=>?_,fun p hp=>absurd (show p∈([]:List (Addr×Obj))from hp) (by simp),e0.hok.kept hk,?_,e0.hh⟩
 .exact WQ x.apart (jJ h1) (jJ h2)
 .have hy:scope.names.lookup y=some .cell∨scope.names.lookup y=some .free:=hy
  rcases hy with hy|hy
  .exact vD hy
  .exact absurd rfl (S.afU _ (jJ hy))
 .exact pU (x.above y c (jJ h))
 .have hi:i<vs.length:=by
   unfold start at h2;by_cases hi:i<vs.length
   .exact hi
   .rw[nQ (by simpa using hi)]at h2
    rw[YF]at h2;split at h2<;>cases h2
  have ha:vs[i]?=some v:=by
   unfold start at h2;rw[dU (by simpa using hi),jy]at h2;cases e:vs[i]? with
   |none=>rw[e]at h2;cases h2
   |some a=>rw[e]at h2;cases h2;rfl
  obtain⟨u,hu,rv⟩:=r.get ha;have hp:ps[i]?=some y:=by rw[<-S.pre,YH (by lia)];exact h1
  have ndP:ps.Nodup:=by rw[<-S.pre];exact S.nd.sublist (aeo _ _)
  refine⟨u,rv,?_⟩;rcases S.par y (pC hp)with k|k
  .exact .inl ⟨k,vZ ndP hp hu k⟩
  .obtain⟨c,e⟩:=vD (n:=s.heap.objs.size+1) k
   refine .inr ⟨.inl k,c,e,?_⟩;have q:=x.cell y c e;rw[wg ndP hp hu (by show scope.names.lookup y≠_;rw[k];decide)]at q;exact q
 .exact e0.hok.fresh (pU (x.above y c (jJ h)))
 .unfold start
  show _=N.length;rw[eO,aR,Yw];lia
theorem agH {CX:CXT} {P:aZ} {w:aQ} {K:aV} {mg:Str->Option Value} {base:Heap} {k:Nat} {f:Addr} {name qual:Str} {params:Arguments} {body:List Stmt} {scope:Scope} {dV kV doc pm cdv ct oc:Value} {an od:Option Addr}
  {osl:Array (Option Value)} {N ps:List Str} {sp:Sp} (lk:K.lookup f=some ⟨oc,od,.func (lN name qual params body scope dV kV doc pm an cdv ct),osl⟩) (hcd:Dr K cdv qual=true) (S:dj N ps scope)
  (len:∀ vs H Q E,sp vs H Q E->vs.length=ps.length)
  (hbody:∀ (A:aL) (outer:List Env) (s:aj) (H:Hp) (vs:List V) (Q:VK) (E:XK),cG k (A.deeper (gW qual scope s.heap.objs.size f cdv))->sp vs H Q E->
   ∃ t,VB (ace CX P w K mg base N qual scope f cdv A outer s H E) body t/\t {nx:=fun _ H'=>Q .non H',rt:=Q} (start N vs) H):
  fG P w K mg base CX (k+1) f (lN name qual params body scope dV kV doc pm an cdv ct) ps sp:=by
 refine⟨len,fun A outer s H args us vs Q E hr e0 hb r hsp=>?_⟩;have hl:=len _ _ _ _ hsp;have KX:K.In s.heap:=e0.mod.kin.keeps fun b o e=>(e0.bs b o e).1;have lim:s.heap.NoLimit:=e0.mod.nolimit.keeps fun b o e=>(e0.bs b o e).1;have hkind:∀ y∈ps.zip us,scope.names.lookup y.1=some .local∨(scope.names.lookup y.1=some .cell/\((g8 (s.heap.objs.size+1) scope.names []).lookup y.1).isSome=true):=fun⟨n,v⟩ hy=>by
  rcases S.par n (P0 hy).1 with q|q
  .exact .inl q
  .exact .inr ⟨q,YB _ _ _ (.inl q)⟩
 refine ae5 hr.depth (KX _ _ lk) rfl S.co S.gen rfl (aeA KX hcd) (hb _ _ _ _ ?_);refine afv S.kind hkind fun env he s1 x=>?_;subst he;refine⟨lim.keeps x.toInCall.keep,codeAny_func ?_⟩;obtain⟨t,ht,hq⟩:=hbody A outer s H vs Q E (hr.deeper _) hsp;have I:Inv (ace CX P w K mg base N qual scope f cdv A outer s H E) [] (start N vs) H s1:=abT S e0 hl r x;refine iu (ht [] s1 (start N vs) H _ I hq) (fun fl s' hs=>?_) fun e s' hs=>hs;have fin:∀ {σ':St} {H':Hp} {v:V} {u:Value},Inv (ace CX P w K mg base N qual scope f cdv A outer s H E) [] σ' H' s'->RelV v u->Q v H'->CE outer P w H s Q u s' :=
  fun {σ' H' v u} J rv q=>⟨v,H',J.os,J.bare,J.base,J.hok,rv,q⟩
 cases fl with
 |ret u=>obtain⟨v,σ',H',J,rv,q⟩:=hs;exact fin J rv q|next=>obtain⟨σ',H',J,q⟩:=hs;exact fin (v:=V.non) (u:=fY) J rfl q|brk=>obtain⟨_,_,_,q⟩:=hs;exact rO q|cont=>obtain⟨_,_,_,q⟩:=hs;exact rO q
section
variable {X:Cx} {x:Str} {p pos:Pos} {e:Expr} {es:List Expr} {t:TA} {id T:String} {r:List V->Hp->VK->Prop}
end
end L2
namespace HT
open PySem PyProof.Rows
section
open PySem.SeqAt
open PySem.AutoSeq1 (wpAny_loadPart')
open PySem.MeetsSeq PySem.MeetsSeq2 PySem.MeetsSeq3
end
section
variable {prog:aZ} {w:aQ} {A:aL} {E:Value->aj->Prop} {s:aj}
def oW (n d:Nat):Option Int->Nat
 |none=>d|some v=>if v<0 then(v+(n:Int)).toNat else min v.toNat n
theorem akz (n d:Nat) (hd:d<=n) (o:Option Int):oW n d o<=n:=by
 cases o with
 |none=>exact hd|some v=>
  show(if v<0 then(v+(n:Int)).toNat else min v.toNat n)<=n;by_cases hv:v<0
  .rw[if_pos hv];lia
  .rw[if_neg hv];exact Nat.min_le_right _ _
theorem aa0 (v:Int) (n d:Nat):(if v<0 then max (v+(n:Int)) 0 else min v (n:Int))=((oW n d (some v):Nat):Int):=by
 show(if v<0 then max (v+(n:Int)) 0 else min v (n:Int))=(((if v<0 then(v+(n:Int)).toNat else min v.toNat n):Nat):Int);by_cases hv:v<0
 .simp only[if_pos hv];lia
 .simp only[if_neg hv];lia
theorem ZV (lo hi:Option Int) (n:Nat):YK lo hi 1 (n:Int)=(((oW n 0 lo:Nat):Int),((oW n n hi:Nat):Int)):=by
 have h1:¬((1:Int)<0):=by lia
 unfold YK;simp only[h1,if_false];refine O1 ?_ ?_
 .cases lo with|none=>rfl|some v=>exact aa0 v n 0
 .cases hi with|none=>rfl|some v=>exact aa0 v n n
theorem YX (i j:Nat):QL (i:Int) (j:Int) 1=j -i:=by
 unfold QL;have h1:(1:Int)>0:=by lia
 simp only[h1,if_true,Int.ediv_one];split<;>lia
theorem Ib {v:Value} {o:Option Int} {Q:Option Int->aj->Prop} (p:jq v o) (h:Q o s):ak (aH prog w) A (akQ v) Q E s:=by
 cases p with
 |none=>exact slicePart_none h|int i t=>exact slicePart_int h
theorem qp {sl:Addr} {vl vu:Value} {lo hi:Option Int} {n:Nat} {Q:Int×Int×Nat->aj->Prop} (hs:s.heap.IsSliceOf sl vl vu .none) (pl:jq vl lo) (pu:jq vu hi)
  (h:Q (((oW n 0 lo:Nat):Int),1,oW n n hi -oW n 0 lo) s):ak (aH prog w) A (afu (.ref sl) (pure (n:Int))) Q E s:=by
 obtain⟨os,hos,hcs,hds⟩:=id hs;unfold afu akO;refine aq (aq (n6 hos hds (x:=vl) rfl (aq (n6 hos hds (x:=vu) rfl (aq (n6 hos hds (x:=.none) rfl (aG ?_)))))));refine aq (slicePart_none ?_);show ak _ _ (if((1:Int)==0)=true then _ else _) _ _ s;rw[if_neg (by decide)];refine aq (Ib pl (aq (Ib pu (aq (aG ?_)))));show ak _ _ (match YK lo hi 1 (n:Int)with|(lo,hi)=>pure (lo,(1:Int),QL lo hi 1)) _ _ s;rw[ZV lo hi n];show ak _ _ (pure (((oW n 0 lo:Nat):Int),(1:Int),QL ((oW n 0 lo:Nat):Int) ((oW n n hi:Nat):Int) 1)) _ _ s;rw[YX];exact aG h
theorem afK (xs:Array Value) (i k:Nat):((aU k).filterMap fun(m:Nat)=>xs[((i:Int)+(m:Int)*1).toNat]?).toArray=((xs.toList.drop i).take k).toArray:=by
 have e:(fun(m:Nat)=>xs[((i:Int)+(m:Int)*1).toNat]?)=fun m=>xs[i+m]?:=by
  funext m;have:((i:Int)+(m:Int)*1).toNat=i+m:=by lia
  rw[this]
 rw[e];have:=pick_run xs i k;rw[List.filterMap_map]at this;have e2:((fun x=>xs[x]?) ∘ fun x=>i+x)=fun m=>xs[i+m]?:=rfl;rw[e2]at this;rw[this]
theorem Bv {t sl:Addr} {items:Array Value} {vl vu:Value} {lo hi:Option Int} {Q:Value->aj->Prop} (ht:yc s.heap t items) (hs:s.heap.IsSliceOf sl vl vu .none) (pl:jq vl lo) (pu:jq vu hi)
  (hw:¬(oW items.size 0 lo=0/\oW items.size items.size hi=items.size))
  (h:Q (.ref s.heap.objs.size) {s with heap:=s.heap.push {cls:=.type "tuple",data:=.seq ((items.toList.drop (oW items.size 0 lo)).take (oW items.size items.size hi -oW items.size 0 lo)).toArray}})
  (hsz:items.size<=sizeLine):ak (aH prog w) A (gk (.ref t) (.ref sl)) Q E s:=by
 have aaN:sizeOk (.seq ((items.toList.drop (oW items.size 0 lo)).take (oW items.size items.size hi -oW items.size 0 lo)).toArray):=by show((items.toList.drop (oW items.size 0 lo)).take (oW items.size items.size hi -oW items.size 0 lo)).toArray.size<=sizeLine;rw[cB,qw,Dv,tu];lia
 have hj:oW items.size items.size hi<=items.size:=akz _ _ (aA _) hi;obtain⟨os,hos,hcs,hds⟩:=id hs;have hTs:s.TypeIs (.ref sl) "slice":=⟨os,hos,hcs⟩;unfold gk;try with_reducible refine kZ ?_
 first|refine aq (aG ?_)|skip
 refine aq (Yh ht.typeIs (by decide) ?_);refine aq (Jy (name:=aD "__getitem__") ht.typeIs MJ
  (yK MJ ht.typeIs aer ?_ (aek _ _)))
 show ak _ _ (aft (.ref t)>>=_) _ _ s;refine aq (adO ht ?_);refine aq (Pb hTs ?_);rw[if_pos (by decide)];refine aq (qp hs pl pu ?_);have hno:¬((((oW items.size 0 lo:Nat):Int)==0&&(1:Int)==1&&(oW items.size items.size hi -oW items.size 0 lo)==items.size)=true):=by intro q;rw[bM,bM]at q;have q1:((oW items.size 0 lo:Nat):Int)=0:=eq_of_beq q.1.1;have q2:oW items.size items.size hi -oW items.size 0 lo=items.size:=eq_of_beq q.2;exact hw ⟨by lia,by lia⟩
 show ak _ _ (if(((oW items.size 0 lo:Nat):Int)==0&&(1:Int)==1&&(oW items.size items.size hi -oW items.size 0 lo)==items.size)=true then _ else _) _ _ s;rw[if_neg hno,afK];first
  |exact aq (m:=QK _) (wZ (aG ⟨_,rfl,aG h⟩) aaN)
  |exact aq (m:=QK _) (wZ (aq (aG (aG ⟨_,rfl,aG h⟩))) aaN)
  |exact aq (aq (m:=QK _) (wZ (aG (aG ⟨_,rfl,aG h⟩)) aaN))
  |exact aq (aq (m:=QK _) (wZ (aG ⟨_,rfl,aG h⟩) aaN))
end
end HT
namespace L2
open PySem PySem.Spec PyProof.Rows
noncomputable abbrev TO:=St->Hp->(Option Int->Hp->Prop)->Prop
section
variable {X:Cx} {e:Expr} {te:TE} {lo hi:Option Expr} {tl th:TO} {pos p2:Pos}
def SlR (X:Cx) (r:V->Option Int->Option Int->Hp->VK->Prop):Prop:=
 ∀ (pins:List (Addr×Obj)) (s:aj) (σ:St) (H:Hp) (x:V) (v vl vu:Value) (lo hi:Option Int) (sl:Addr) (Q:VK),Inv X pins σ H s->RelV x v->s.heap.IsSliceOf sl vl vu .none->jq vl lo->jq vu hi->r x lo hi H Q->
  ∃ T id,I8 (.type T) "__getitem__"=pure (some (.builtin id))/\s.TypeIs v T/\ak (aH X.prog X.w) X.A (gk v (.ref sl)) (EP X pins σ Q) X.xe s
theorem SlR.or {r r':V->Option Int->Option Int->Hp->VK->Prop} (h:SlR X r) (h':SlR X r'):SlR X (fun x lo hi H Q=>r x lo hi H Q∨r' x lo hi H Q):=by
 intro pins s σ H x v vl vu lo hi sl Q I rx hs pl pu q;rcases q with q|q
 .exact h pins s σ H x v vl vu lo hi sl Q I rx hs pl pu q
 .exact h' pins s σ H x v vl vu lo hi sl Q I rx hs pl pu q
end
def ixN (n:Nat) (i:Int):Option Nat:=if 0<=i then(if i<n then some i.toNat else none)else if -(n:Int)<=i then some (i+n).toNat else none
theorem aiK {n:Nat} {i:Int} {j:Nat} (h:ixN n i=some j):WM i n=some j/\j<n/\-(n:Int)<=i/\i<n:=by
 unfold ixN at h;by_cases h0:0<=i
 .rw[if_pos h0]at h
  by_cases h1:i<n
  .rw[if_pos h1]at h
   have e:i.toNat=j:=cM h;exact⟨by rw[Xa h0 h1,e],by lia,by lia,h1⟩
  .rw[if_neg h1]at h;cases h
 .rw[if_neg h0]at h
  by_cases h1: -(n:Int)<=i
  .rw[if_pos h1]at h
   have e:(i+n).toNat=j:=cM h;exact⟨by rw[seqIndex_neg (by lia) h1,e],by lia,h1,by lia⟩
  .rw[if_neg h1]at h;cases h
def IxR (X:Cx) (r:R2):Prop:=
 ∀ (value slice:Expr) (pins:List (Addr×Obj)) (s:aj) (σ:St) (H:Hp) (x y:V) (v u:Value) (Q:VK),Inv X pins σ H s->RelV x v->RelV y u->r x y H Q->
  Jb slice false v u=Ov [v,u] (gk v u)->ak (aH X.prog X.w) X.A (Xv value slice v u) (EP X pins σ Q) X.xe s
def MtR (X:Cx) (id:String) (r:V->List V->Hp->VK->Prop):Prop:=
 ∀ (pins:List (Addr×Obj)) (s:aj) (σ:St) (H:Hp) (x:V) (xs:List V) (v:Value) (us:List Value) (Q:VK),Inv X pins σ H s->RelV x v->Vals xs us->r x xs H Q->
  ak (aH X.prog X.w) X.A (call (.builtin id) (v::us)) (EP X pins σ Q) X.xe s
section
variable {X:Cx} {a b:Expr} {ta tb:TE} {pos:Pos}
theorem IxR.or {r r':R2} (h:IxR X r) (h':IxR X r'):IxR X (fun x y H Q=>r x y H Q∨r' x y H Q):=by
 intro value slice pins s σ H x y v u Q I rx ry q hs;rcases q with q|q
 .exact h value slice pins s σ H x y v u Q I rx ry q hs
 .exact h' value slice pins s σ H x y v u Q I rx ry q hs
theorem MtR.or {id:String} {r r':V->List V->Hp->VK->Prop} (h:MtR X id r) (h':MtR X id r'):MtR X id (fun x xs H Q=>r x xs H Q∨r' x xs H Q):=by
 intro pins s σ H x xs v us Q I rx rs q;rcases q with q|q
 .exact h pins s σ H x xs v us Q I rx rs q
 .exact h' pins s σ H x xs v us Q I rx rs q
theorem Inv.lst {pins:List (Addr×Obj)} {σ:St} {H:Hp} {s:aj} {p:Addr} {xs:List V} (I:Inv X pins σ H s) (h:H p=some (.lst xs)):
  ∃ (its:List Value) (n:Nat),Vals xs its/\s.heap.get? p=some {cls:=.type "list",data:=.seq its.toArray n}/\xs.length<=sizeLine:=by
 obtain⟨z,its,n,r,e⟩:=I.hok p _ h;exact⟨its,n,r,e,z⟩
theorem Oh (lo hi:Option Int) (n:Nat):(yr lo hi none n).1=((HT.oW n 0 lo:Nat):Int)/\(yr lo hi none n).2.1=((HT.oW n n hi:Nat):Int)/\(yr lo hi none n).2.2=1:=by
 refine⟨?_,?_,rfl⟩
 .cases lo with
  |none=>simp[yr,HT.oW]|some i=>
   simp only[yr,HT.oW,ad6,show(1:Int)>0 by decide,if_true];by_cases h:i<0
   .simp only[h,if_true]<;>lia
   .simp only[h,if_false]<;>lia
 .cases hi with
  |none=>simp[yr,HT.oW]|some i=>
   simp only[yr,HT.oW,ad6,show(1:Int)>0 by decide,if_true];by_cases h:i<0
   .simp only[h,if_true]<;>lia
   .simp only[h,if_false]<;>lia
theorem Lf (its:List Value) (lo hi:Option Int):slicePick its.toArray lo hi none=((its.drop (HT.oW its.length 0 lo)).take (HT.oW its.length its.length hi -HT.oW its.length 0 lo)).toArray:=by obtain⟨h1,h2,h3⟩:=Oh lo hi its.toArray.size;unfold slicePick;rw[h1,h2,h3];simp only[sliceRange_one,pick_run,cB]<;>rfl
theorem aa8.or {f:Value} {r r':List V->Hp->VK->Prop} (h:aa8 X f r) (h':aa8 X f r'):aa8 X f (fun xs H Q=>r xs H Q∨r' xs H Q):=by
 intro pins s σ H xs us Q I rs q;rcases q with q|q
 .exact h pins s σ H xs us Q I rs q
 .exact h' pins s σ H xs us Q I rs q
variable {o e:Expr} {es:List Expr} {to:TE} {t:TA} {name:Str} {apos cpos:Pos} {T id:String} {r:V->List V->Hp->VK->Prop}
end
theorem Vals.one:∀ {x:V} {us:List Value},Vals [x] us->∃ u,us=[u]/\RelV x u
 |_,_,.cons r .nil=>⟨_,rfl,r⟩
theorem Vals.two:∀ {x y:V} {us:List Value},Vals [x,y] us->∃ u v,us=[u,v]/\RelV x u/\RelV y v
 |_,_,_,.cons r (.cons q .nil)=>⟨_,_,rfl,r,q⟩
theorem Vals.dropLast {xs:List V} {us:List Value} (h:Vals xs us):Vals xs.dropLast us.dropLast:=by
 induction h with
 |nil=>exact .nil|cons r t ih=>
  cases t with
  |nil=>exact .nil|cons q t'=>exact .cons r ih
theorem Vals.eraseIdx:∀ {xs:List V} {us:List Value} (i:Nat),Vals xs us->Vals (xs.eraseIdx i) (us.eraseIdx i)
 |_,_,_,.nil=>.nil|_,_,0,.cons _ t=>t|_,_,i+1,.cons r t=>.cons r (Vals.eraseIdx i t)
theorem Vals.reverse {xs:List V} {us:List Value} (h:Vals xs us):Vals xs.reverse us.reverse:=by
 induction h with
 |nil=>exact .nil|cons r t ih=>rw[Jr,Jr];exact Vals.append ih (.cons r .nil)
theorem Zr {α:Type} (l:List α):l.eraseIdx (l.length -1)=l.dropLast:=by
 induction l with
 |nil=>rfl|cons a r ih=>
  cases r with
  |nil=>rfl|cons b r=>
   have e:(a::b::r).length -1=((b::r).length -1)+1:=by have h1:(a::b::r).length=r.length+2:=rfl;have h2:(b::r).length=r.length+1:=rfl;lia
   rw[e,List.eraseIdx_cons_succ,ih];all_goals rfl
theorem Nf {α:Type}:∀ (l:List α) (i:Nat),(l.eraseIdx i).length<=l.length
 |[],_=>aA _|_::_,0=>yq _|_::r,i+1=>ad5 (Nf r i)
section
variable {X:Cx} {pins:List (Addr×Obj)} {σ:St} {H:Hp} {s:aj} {l b:Addr} {xs ys zs:List V}
theorem Inv.fresh (I:Inv X pins σ H s):H s.heap.objs.size=none:=I.hok.fresh (aA _)
end
section
variable {X:Cx}
end
section
variable {prog:aZ} {w:aQ} {A:aL} {E:Value->aj->Prop} {s:aj}
end
section
variable {X:Cx}
end
end L2
namespace Att
open PySem PySem.W PySem.Calls PyProof.Rows
theorem Gx {P:Params} {h:Heap}:∀ (ns:List Int) (vs:List Value),WellAll P h vs (ns.map adi)->nU vs ns:=by
 intro ns;induction ns with
 |nil=>intro vs w;rw[aW]at w;cases w;exact .nil
 |cons n ns ih=>
  intro vs w;rw[aX]at w;cases w with
  |cons a b=>cases a;exact .cons _ _ (ih _ b)
theorem abp {l:I4} {n:Nat} (hn:l.most=some n) {P:Params} {h:Heap} {args:List WData} {vals:List Value}
  (hpre:l.row.toRowW.claim.pre args=true) (hwl:WellAll P h vals args):
  ∃ a vs ns,vals=[nY a]/\args=[WData.list (ns.map adi)]/\h.get? a=some {cls:=.type "list",data:=.seq vs.toArray}/\nU vs ns/\ns.length<=n:=by
 have hsh:WShape.hasAll [] args [.list .int]=true:=(pre_splitW hpre).1;have hc:l.pre.holds [] {args:=args}=true:=(pre_splitW hpre).2;obtain⟨d,r,rfl,h1,h2⟩:=hasAllW_cons hsh;obtain rfl:=hasAllW_nil h2;obtain⟨xs,rfl,h3⟩:=hasW_list h1;obtain⟨ns,rfl⟩:=items_int h3;have hlen:ns.length<=n:=by
  unfold OpenLaw.pre at hc;have h4:(WTm.not (.lt (.lit (.int (n:Int))) (.len (.arg 0)))).holds [] {args:=[.list (ns.map .int)]}=true:=by have h4:=(holds_andW hc).1;rw[hn]at h4;exact h4
  have h5:=condW_of h4 (w_not (w_lt w_lit (w_len_list (w_arg rfl))));rw[aR]at h5;refine Jk fun q=>?_;have q':(n:Int)<((ns.length:Nat):Int):=by lia
  first
   |(rw[decide_eq_true q']at h5;exact absurd h5 (by decide))
   |(simp at h5;lia)
 cases hwl with
 |cons w1 w2=>
  cases w2;cases w1 with
  |list ho hall=>exact⟨_,_,ns,rfl,rfl,ho,Gx ns _ hall,hlen⟩
theorem abu (l:I4) (args:List WData):l.row.toRowW.claim.post args (.bool true) args=true:=
 postW_of (r:=l.row.toRowW) (X:=(true==true))
  (show adl [] (.bool true) .bool=true by first|rfl|decide|simp[adl,WShape.arms,WShape.armsAll])
  (show(WTm.eq .res (.lit (.bool true))).value [] {args:=args,res:=some (.bool true),after:=args}=some (.bool (true==true))from w_eq_bool (w_res rfl) w_lit) rfl
theorem Gj {l:I4} {n:Nat} {q:aZ} {loose:List Str} {XP:(Str->Option Value)->Heap->Prop} {YP:aQ->Heap->Prop} {d:DefRec}
  (hn:l.most=some n) (hdf:d.params.defaults=[])
  (call:∀ (w:aQ) (s₀ s₁:aj) (mg mb:Str->Option Value) (fa:Addr) (o:Obj) (pm cd doc:Value) (a:Addr) (vs:List Value) (ns:List Int),
   Ground q loose [] XP w s₀ mg mb s₁.heap->YP w s₁.heap->
   s₁.heap.get? fa=some o->o.data= .func (docDef d.name d.params d.body d.scope pm cd doc)->s₁.heap.CodeRec cd d.name->mg d.name=some (.ref fa)->
   s₁.heap.get? a=some {cls:=.type "list",data:=.seq vs.toArray}->nU vs ns->ns.length<=n->s₁.gens= #[]->
   jK (aH l.prog w) callerA (.call (.ref fa) ⟨[.ref a],[]⟩) (fun r s'=>r= .ok (.ret (.bool true))/\OldK s₁.heap s'.heap/\s'.os=s₁.os/\mJ s'.gens) s₁):
  WR q loose XP YP l.row.toRowW d [] (fun f vs=>W3 f vs):=by
 intro w s₀ s₁ mg mb G Y fa o pm cd doc dV kV ho hd hcd hD hmg hg args vals as hpre hlay hrd hwl hlo;obtain rfl:dV= .none:=Dflts.none hD hdf;obtain rfl:kV= .none:=Dflts.noKw hD;obtain⟨a,vs,ns,rfl,rfl,hobj,hints,hlen⟩:=abp hn hpre hwl;refine enter_call (codeAny_mono (call w s₀ s₁ mg mb fa o pm cd doc a vs ns G Y ho (fd_plain hd) hcd hmg hobj hints hlen hg) fun r s' hq=>?_);obtain⟨rfl,h2,h3,h4⟩:=hq;exact⟨.inl ⟨.bool true,.bool true,[],rfl,fun _=>rfl,.bool true,abu l _,fun _=>⟨aen,fun _ hm=>(nomatch hm)⟩⟩,h2,h3,h4⟩
section
variable {prog:aZ} {w:aQ} {A:aL} {E:Value->aj->Prop} {s:aj} {K:aV}
def ledger (h:Heap) (L d:Addr):List (Addr×Obj):=(aU h.objs.size).filterMap fun a=>if a=L∨a=d then none else(h.get? a).map fun o=>(a,o)
end
end Att
namespace L2
open PySem PySem.Spec PyProof.Rows
theorem Ml:∀ {vs:List Value} {ns:List Int},nU vs ns->Vals (ns.map V.int) vs
 |_,_,.nil=>.nil|_,_,.cons n t h=>.cons ⟨t,rfl⟩ (Ml h)
def Only (H:Hp):Prop:=∀ b,H b=none∨∃ o xs,H b=some (.Gh o (.lst xs))
theorem JT {P:aZ} {w:aQ} {K:aV} {mg mb:Str->Option Value} {CX:CXT} {k:Nat} {fa a:Addr} {fd:d7} {x:Str} {sp:Sp} {s₁:aj} {vs:List Value} {ns:List Int}
  (KX:K.In s₁.heap) (hns:s₁.heap.Ns aM mg) (hb:s₁.heap.Ns Dj mb) (hbb:∀ x:Str,x≠"__name__"->mb x=yt x) (hlim:s₁.heap.NoLimit) (hsy:∃ mm,s₁.heap.Ns kW mm) (hg:s₁.gens= #[])
  (ha:s₁.heap.get? a=some {cls:=.type "list",data:=.seq vs.toArray}) (hi:nU vs ns) (hl:ns.length<=sizeLine) (hr:cG k callerA)
  (F:∀ base:Heap,K.In base->base.Ns aM mg->fG P w K mg base CX k fa fd [x] sp) (hbind:∀ (s:aj) (u:Value),uD s fd ⟨[u],[]⟩ [(x,u)])
  (hsp:∀ H:Hp,Only H->SqL K H a (ns.map V.int)->sp [.ref a] H (fun v _=>v= .bl true) fun _ _ _=>False)
  (hCX:∀ H e s',CX [] H s₁ (fun _ _ _=>False) e s'->False):
  jK (aH P w) callerA (.call (.ref fa) ⟨[.ref a],[]⟩) (fun r s'=>r= .ok (.ret (.bool true))/\OldK s₁.heap s'.heap/\s'.os=s₁.os/\mJ s'.gens) s₁:=by
 have rv:=Ml hi;have lenV:=hi.length;have core:∀ H:Hp,Only H->SqL K H a (ns.map V.int)->VF P w H s₁.heap->(∀ b,H b≠none->b=a)->(H a≠none->K.lookup a=none)->
   jK (aH P w) callerA (.call (.ref fa) ⟨[.ref a],[]⟩) (fun r s'=>r= .ok (.ret (.bool true))/\OldK s₁.heap s'.heap/\s'.os=s₁.os/\mJ s'.gens) s₁:=by
  intro H hO hS hok hA hK;have aa4:∀ {b:Addr} {o:Obj},s₁.heap.get? b=some o->H b=none->(Rt s₁.heap H).get? b=some o:=fun e n=>agv e n;have noA:∀ {b:Addr} {o:Obj} {es:Array O5} {ep:Nat},s₁.heap.get? b=some o->o.data= .dict es ep->H b=none:=fun {b o es ep} e d=>by
   cases q:H b with
   |none=>rfl|some u=>have e':b=a:=hA b (by rw[q];simp);subst e';rw[ha]at e;cases e;have d':Data.seq vs.toArray _=Data.dict es ep:=d;cases d'
  have nsK:∀ {b:Addr} {m:Str->Option Value},s₁.heap.Ns b m->(Rt s₁.heap H).Ns b m:=fun {b m} ⟨o,es,ep,e,d,r⟩=>⟨o,es,ep,aa4 e (noA e d),d,r⟩;have hKb:K.In (Rt s₁.heap H):=fun b o e=>aa4 (KX b o e) (by
   cases q:H b with
   |none=>rfl|some u=>have e':b=a:=hA b (by rw[q];simp);subst e';rw[hK (by rw[q];simp)]at e;cases e)
  have hM:Mod K mg (Rt s₁.heap H):=⟨hKb,nsK hns,⟨mb,nsK hb,hbb⟩,let⟨mc,h1,h2⟩:=hlim;⟨mc,nsK h1,h2⟩,let⟨mm,h1⟩:=hsy;⟨mm,nsK h1⟩⟩;have e0:R0 P w K mg (Rt s₁.heap H) callerA [] s₁ H:=⟨rfl,hM,fun b o e=>aip e,adD (abX _ _),trivial,fun b hb=>absurd (show b∈([]:List Addr)from hb) (by simp),hok,.of_eq hg,fun v q=>nomatch q⟩;refine codeAny_mono ((F _ hKb (nsK hns)).run callerA [] s₁ H ⟨[.ref a],[]⟩ [.ref a] [.ref a] _ _ hr e0 (hbind s₁ (.ref a)) (.cons rfl .nil) (hsp H hO hS)) fun r s' h=>?_;cases r with
  |error e=>exact(hCX H e s' h).elim|ok fl=>
   cases fl with
   |next=>exact rO h|brk=>exact rO h|cont=>exact rO h|ret u=>
    obtain⟨v,H',os,bare,un,hok',r',q⟩:=h;have q':v= .bl true:=q;subst q';obtain rfl:u=jF true:=r';refine⟨rfl,adC fun b o e=>?_,os,bare⟩;cases q:H b with
    |none=>exact un.keep b o e q (by intro z;exact absurd (show b∈([]:List Addr)from z) (by simp)) (by simp)|some u=>
     rcases hO b with z|⟨ob,xs,z⟩
     .rw[q]at z;cases z
     .have z2:=un.Kh b ob _ z
      obtain⟨e1,_⟩:=hok b _ z;obtain⟨e2,_⟩:=hok' b _ z2;rw[e]at e1;cases e1;exact e2
 cases hk:K.lookup a with
 |some o=>have e:=KX a o hk;rw[ha]at e;cases e;refine core (fun _=>none) (fun _=>.inl rfl) (.inr ⟨_,vs.toArray,_,hk,rfl,rfl,rfl,by rw[cB,lenV];exact hl,by simpa using rv⟩) (fun b u z=>by have z':(none:Option HO)=some u:=z;cases z') (fun b z=>absurd rfl z) fun z=>absurd rfl z
 |none=>
  refine core (fun b=>if b=a then some (.Gh {cls:=.type "list",data:=.seq vs.toArray} (.lst (ns.map V.int)))else none) (fun b=>?_) (.inl (.inr ⟨{cls:=.type "list",data:=.seq vs.toArray},if_pos rfl⟩)) (fun b u z=>?_) (fun b z=>?_) fun _=>hk
  .by_cases hb:b=a
   .exact .inr ⟨_,_,if_pos hb⟩
   .exact .inl (if_neg hb)
  .by_cases hb:b=a
   .have z':=(if_pos hb).symm.trans z
    cases z';subst hb;exact⟨ha,by rw[aR];exact hl,vs,_,rv,ha⟩
   .have z':=(if_neg hb).symm.trans z
    cases z'
  .by_cases hb:b=a
   .exact hb
   .exact absurd (if_neg hb) z
noncomputable abbrev KOf {K:aV} {h:Heap} (_:K.In h):aV:=K
theorem anq {l:I4} {n k:Nat} {q:aZ} {loose:List Str} {XP:(Str->Option Value)->Heap->Prop} {YP:aQ->Heap->Prop} {d:DefRec} {K:Params->aV} {CX:aQ->CXT} {sp:aQ->Sp} {x:Str}
  (hI:importsNone q=true) (hn:l.most=some n) (hn2:n<=sizeLine) (hdf:d.params.defaults=[]) (hr:cG k callerA)
  (hY:∀ (w:aQ) (h:Heap),YP w h->(K w.params).In h)
  (F:∀ (w:aQ) (mg:Str->Option Value) (fa:Addr) (h:Heap),(K w.params).In h->h.Ns aM mg->mg d.name=some (.ref fa)->
   ∃ fd:d7,(∀ (s:aj) (u:Value),uD s fd ⟨[u],[]⟩ [(x,u)])/\
    ∀ base:Heap,(K w.params).In base->base.Ns aM mg->fG l.prog w (K w.params) mg base (CX w) k fa fd [x] (sp w))
  (hsp:∀ (w:aQ) (H:Hp) (a:Addr) (ns:List Int),ns.length<=n->Only H->SqL (K w.params) H a (ns.map V.int)->sp w [.ref a] H (fun v _=>v= .bl true) fun _ _ _=>False)
  (hCX:∀ (w:aQ) (H:Hp) (s:aj) (e:Value) (s':aj),CX w [] H s (fun _ _ _=>False) e s'->False):
  WR q loose XP YP l.row.toRowW d [] (fun f vs=>W3 f vs):=by
 refine Att.Gj hn hdf fun w s₀ s₁ mg mb fa o pm cd doc a vs ns G Y ho hd hcd hmg hobj hints hlen hg=>?_;have KX:=hY w _ Y;obtain⟨fd,hb,hF⟩:=F w mg fa _ KX G.T.g hmg;exact JT KX G.T.g G.T.b G.T.builtins G.T.nolimit (let⟨mm,z,_⟩:=(G.T.seer hI).mods;⟨mm,z⟩) hg hobj hints (gD hlen hn2) hr hF hb (fun H hO hS=>hsp w H a ns hlen hO hS) fun H e s'=>hCX w H s₁ e s'
def inClass (s:Stmt) (j:Nat):Stmt:=match s with| .ClassDef _ _ _ body _ _ _ _ _ _ _=>body.getD j (.Pass ⟨0,0,0,0⟩)|_=>.Pass ⟨0,0,0,0⟩
def fQ (s:Stmt):Arguments:=match s with| .FunctionDef _ a _ _ _ _ _ _ _ _=>a|_=>{posonlyargs:=[],args:=[],vararg:=none,kwonlyargs:=[],kw_defaults:=[],kwarg:=none,defaults:=[]}
def bO (s:Stmt):List Stmt:=match s with| .FunctionDef _ _ b _ _ _ _ _ _ _=>b|_=>[]
def aF (s:Stmt):Scope:=match s with| .FunctionDef _ _ _ _ _ _ sc _ _ _=>sc|_=>{kind:=.function,names:=[],isGenerator:=false,isCoroutine:=false}
noncomputable abbrev CX0:CXT:=fun _ _ _ _ _ _=>False
structure Vx (K:aV) (x qual:Str) (st:Stmt) (f:Addr) (fd:d7):Prop where
 ex:∃ (oc:Value) (od:Option Addr) (kV doc pm:Value) (an:Option Addr) (cdv ct:Value) (osl:Array (Option Value)),
  fd=lN x qual (fQ st) (bO st) (aF st) .none kV doc pm an cdv ct/\K.lookup f=some ⟨oc,od,.func fd,osl⟩/\Dr K cdv qual=true
 kp:pB K (.ref f)=true
section
variable {P:aZ} {w:aQ} {K:aV} {mg:Str->Option Value} {base:Heap}
theorem Vx.ok {x qual:Str} {st:Stmt} {f:Addr} {fd:d7} {N ps:List Str} {k:Nat} {sp:Sp} (F:Vx K x qual st f fd) (S:dj N ps (aF st)) (len:∀ vs H Q E,sp vs H Q E->vs.length=ps.length)
  (hbody:∀ (cdv:Value) (A:aL) (outer:List Env) (s:aj) (H:Hp) (vs:List V) (Q:VK) (E:XK),cG k (A.deeper (gW qual (aF st) s.heap.objs.size f cdv))->sp vs H Q E->
   ∃ t,VB (ace CX0 P w K mg base N qual (aF st) f cdv A outer s H E).nox (bO st) t/\t {nx:=fun _ H'=>Q .non H',rt:=Q} (start N vs) H):fG P w K mg base CX0 (k+1) f fd ps sp:=by
 obtain⟨oc,od,kV,doc,pm,an,cdv,ct,osl,rfl,lk,hcd⟩:=F.ex;refine agH lk hcd S len fun A outer s H vs Q E hr hsp=>?_;obtain⟨t,h,q⟩:=hbody cdv A outer s H vs Q E hr hsp;exact⟨t,h.nox,q⟩
theorem Zn {x qual:Str} {st:Stmt} {f:Addr} {oc:Value} {od an:Option Addr} {osl:Array (Option Value)} {kV doc pm cdv ct:Value} (l:K.lookup f=some ⟨oc,od,.func (lN x qual (fQ st) (bO st) (aF st) .none kV doc pm an cdv ct),osl⟩)
  (c:Dr K cdv qual=true) (k:pB K (.ref f)=true):Vx K x qual st f (lN x qual (fQ st) (bO st) (aF st) .none kV doc pm an cdv ct):=⟨⟨oc,od,kV,doc,pm,an,cdv,ct,osl,rfl,l,c⟩,k⟩
end
section
variable {X:Cx}
end
def Same (H H':Hp):Prop:=∀ b o,H b=some o->H' b=some o
theorem Same.refl (H:Hp):Same H H:=fun _ _ h=>h
theorem Same.trans {H H1 H2:Hp} (a:Same H H1) (b:Same H1 H2):Same H H2:=fun c o h=>b c o (a c o h)
theorem Same.free {H H':Hp} (e:Same H H') {l:Addr} (h:H' l=adu):H l=adu:=by
 cases q:H l with
 |none=>rfl|some o=>rw[e l o q]at h;cases h
theorem Same.seq {K:aV} {H H':Hp} {a:Addr} {xs:List V} (e:Same H H') (h:SqL K H a xs):SqL K H' a xs:=by
 rcases h with(h|⟨o,h⟩)|h
 .exact .inl (.inl (e _ _ h))
 .exact .inl (.inr ⟨o,e _ _ h⟩)
 .exact .inr h
section
variable {κ:Type} [DecidableEq κ]
def Sg (kvs:List (κ×V)) (k:κ):Option V:=(kvs.find? fun kv=>decide (kv.1=k)).map (·.2)
def putK (kvs:List (κ×V)) (k:κ) (v:V):List (κ×V):=
 if(kvs.any fun kv=>decide (kv.1=k))=true then kvs.map (fun kv=>if kv.1=k then(kv.1,v)else kv)else kvs++[(k,v)]
def ajJ (kvs:List (κ×V)) (k:κ):List (κ×V):=kvs.filter fun kv=>decide (kv.1≠k)
theorem Hx {p:κ×V} {r:List (κ×V)} {k:κ} (e:p.1=k):Sg (p::r) k=some p.2:=by simp[Sg,yG,e]
theorem Hy {p:κ×V} {r:List (κ×V)} {k:κ} (e:¬p.1=k):Sg (p::r) k=Sg r k:=by simp[Sg,yG,e]
theorem Sd (k:κ):∀ kvs:List (κ×V),(kvs.any fun kv=>decide (kv.1=k))=(Sg kvs k).isSome
 |[]=>rfl|p::r=>by
  rw[Ji];by_cases e:p.1=k
  .simp only[Hx e,decide_eq_true e,adB,Ym]
  .rw[Hy e,decide_eq_false e,Bool.false_or];exact Sd k r
theorem Vw.abS {o:Option V} {u:Option Value} (r:Vw o u):o.isSome=u.isSome:=by
 cases o with
 |none=>cases u with|none=>rfl|some _=>exact(show False from r).elim
 |some _=>cases u with|none=>exact(show False from r).elim|some _=>rfl
theorem Vw.getD {o:Option V} {u:Option Value} {d:V} {d':Value} (r:Vw o u) (rd:RelV d d'):RelV (o.getD d) (u.getD d'):=by
 cases o with
 |none=>cases u with|none=>exact rd|some _=>exact(show False from r).elim
 |some _=>cases u with|none=>exact(show False from r).elim|some _=>exact r
theorem KV.val {kvs:List (κ×V)} {vs:List (κ×Value)} (r:KV kvs vs) (k:κ):Vw (Sg kvs k) (pP vs k):=by
 unfold KV at r;induction r with
 |nil=>exact yp| @cons p q ps qs h t ih=>
  obtain⟨h1,h2⟩:=h;by_cases e:p.1=k
  .have e':q.1=k:=h1.symm.trans e
   (have b:pP (q::qs) k=some q.2:=by simp[pP,yG,e']);rw[Hx e,b];exact h2
  .have e':¬q.1=k:=fun z=>e (h1.trans z)
   (have b:pP (q::qs) k=pP qs k:=by simp[pP,yG,e']);rw[Hy e,b];exact ih
theorem KV.any {kvs:List (κ×V)} {vs:List (κ×Value)} (r:KV kvs vs) (k:κ):(kvs.any fun kv=>decide (kv.1=k))=vs.any fun kv=>decide (kv.1=k):=by
 unfold KV at r;induction r with
 |nil=>rfl|cons h t ih=>rw[Ji,Ji,ih,h.1]
theorem KV.repl {kvs:List (κ×V)} {vs:List (κ×Value)} (r:KV kvs vs) (k:κ) {y:V} {u:Value} (ry:RelV y u):
  KV (kvs.map fun kv=>if kv.1=k then(kv.1,y)else kv) (vs.map fun kv=>if kv.1=k then(kv.1,u)else kv):=by
 unfold KV at r ⊢;induction r with
 |nil=>exact .nil| @cons p q ps qs h t ih=>
  rw[aX,aX];refine .cons ?_ ih;obtain⟨h1,h2⟩:=h;by_cases e:p.1=k
  .rw[if_pos e,if_pos (h1.symm.trans e)];exact⟨h1,ry⟩
  .rw[if_neg e,if_neg (fun z=>e (h1.trans z))];exact⟨h1,h2⟩
theorem KV.put {kvs:List (κ×V)} {vs:List (κ×Value)} (r:KV kvs vs) (k:κ) {y:V} {u:Value} (ry:RelV y u):KV (putK kvs k y) (ux vs k u):=by
 unfold putK ux;rw[r.any k];by_cases e:(vs.any fun kv=>decide (kv.1=k))=true
 .rw[if_pos e,if_pos e];exact r.repl k ry
 .rw[if_neg e,if_neg e];exact adt r ⟨rfl,ry⟩
theorem KV.drop {kvs:List (κ×V)} {vs:List (κ×Value)} (r:KV kvs vs) (k:κ):KV (ajJ kvs k) (without vs k):=by
 unfold KV at r ⊢;unfold ajJ without;induction r with
 |nil=>exact .nil| @cons p q ps qs h t ih=>
  obtain⟨h1,h2⟩:=h;rw[yJ,yJ];by_cases e:p.1=k
  .have a:¬decide (p.1≠k)=true:=by simp[e]
   (have b:¬decide (q.1≠k)=true:=by simp[h1.symm.trans e]);rw[if_neg a,if_neg b];exact ih
  .have e':¬q.1=k:=fun z=>e (h1.trans z)
   (have a:decide (p.1≠k)=true:=by simp[e]);(have b:decide (q.1≠k)=true:=by simp[e']);rw[if_pos a,if_pos b];exact .cons ⟨h1,h2⟩ ih
theorem KV.length {kvs:List (κ×V)} {vs:List (κ×Value)} (r:KV kvs vs):kvs.length=vs.length:=Py r
end
noncomputable abbrev KT (H:Hp):List (List Key×V)->List (List Key×Addr×Value)->Prop:=Paired fun p q=>p.1=q.1/\H q.2.1=some (.tup (p.1.map kV))/\RelV p.2 q.2.2
theorem KT.val {H:Hp} {kvs:List (List Key×V)} {xs:List (List Key×Addr×Value)} (r:KT H kvs xs) (k:List Key):Vw (Sg kvs k) ((jH xs k).map (·.2)):=by
 induction r with
 |nil=>exact yp| @cons p q ps qs h t ih=>
  obtain⟨h1,_,h2⟩:=h;by_cases e:p.1=k
  .have e':q.1=k:=h1.symm.trans e
   (have b:jH (q::qs) k=some q.2:=by simp[jH,yG,e']);rw[Hx e,b];exact h2
  .have e':¬q.1=k:=fun z=>e (h1.trans z)
   (have b:jH (q::qs) k=jH qs k:=by simp[jH,yG,e']);rw[Hy e,b];exact ih
theorem KT.repl {H:Hp} {kvs:List (List Key×V)} {xs:List (List Key×Addr×Value)} (r:KT H kvs xs) (k:List Key) {y:V} {u:Value} (ry:RelV y u):
  KT H (kvs.map fun kv=>if kv.1=k then(kv.1,y)else kv) (xs.map (rF k u)):=by
 induction r with
 |nil=>exact .nil| @cons p q ps qs h t ih=>
  rw[aX,aX];refine .cons ?_ ih;obtain⟨h1,h2,h3⟩:=h;unfold rF;by_cases e:p.1=k
  .rw[if_pos e,if_pos (h1.symm.trans e)];exact⟨h1,h2,ry⟩
  .rw[if_neg e,if_neg (fun z=>e (h1.trans z))];exact⟨h1,h2,h3⟩
theorem KT.put {H:Hp} {kvs:List (List Key×V)} {xs:List (List Key×Addr×Value)} (r:KT H kvs xs) (k:List Key) {b:Addr} {y:V} {u:Value} (hb:H b=some (.tup (k.map kV))) (ry:RelV y u):
  KT H (putK kvs k y) (Ou xs k b u):=by
 have e:(kvs.any fun kv=>decide (kv.1=k))=(jH xs k).isSome:=by rw[Sd,(r.val k).abS,Qo]
 unfold putK Ou;rw[e];by_cases q:(jH xs k).isSome=true
 .rw[if_pos q,if_pos q];exact r.repl k ry
 .rw[if_neg q,if_neg q];exact adt r ⟨rfl,hb,ry⟩
theorem KT.keeps {H H':Hp} {kvs:List (List Key×V)} {xs:List (List Key×Addr×Value)} (r:KT H kvs xs) (ht:∀ b ys,H b=some (.tup ys)->H' b=some (.tup ys)):KT H' kvs xs:=
 Paired.alr r fun _ _ z=>⟨z.1,ht _ _ z.2.1,z.2.2⟩
section
variable {P:aZ} {w:aQ} {H:Hp} {h:Heap} {a:Addr}
end
section
variable {X:Cx} {pins:List (Addr×Obj)} {σ:St} {H:Hp} {s:aj} {a:Addr} {y v:V} {u r:Value} {o:Option V} {A:aL} {E:Value->aj->Prop}
theorem Inv.big (I:Inv X pins σ H s):kW<s.heap.objs.size:=by have h:aM<s.heap.objs.size:=(I.mod.glob.keeps I.bk).lt;exact Dp (by decide) h
end
section
variable {X:Cx} {pins:List (Addr×Obj)} {σ:St} {H:Hp} {s:aj} {a:Addr} {kvs:List (Key×V)} {k:Key} {u:Value} {A:aL} {E:Value->aj->Prop}
end
def aoQ (i:Expr):Prop:=∀ ov iv,Jb i false ov iv=Ov [ov,iv] (gk ov iv)
theorem aae {prog:aZ} {w:aQ} {A:aL} {E:Value->aj->Prop} {s:aj} {env:Env} {value slice:Expr} {pos:Pos} {T id:String} {Q:Value->aj->Prop}
  (hl:I8 (.type T) "__getitem__"=pure (some (.builtin id))) (hs:aoQ slice)
  (h:ak (aH prog w) A (eval value env) (fun o s₁=>ak (aH prog w) A (eval slice env) (fun i s₂=>s₂.TypeIs o T/\ak (aH prog w) A (gk o i) Q E s₂) E s₁) E s):
  ak (aH prog w) A (eval (.Subscript value slice pos) env) Q E s:=by
 refine W2 (iu h (fun o s₁ h₁=>iu h₁ (fun i s₂ h₂=>?_) fun _ _ x=>x) fun _ _ x=>x);obtain⟨hT,h₂⟩:=h₂;unfold Xv;refine aq ?_;rw[getitemInPython_of_ne hT.not_modules];refine aq (adW hT hl ?_);have fin:ak (aH prog w) A (Jb slice false o i) (fun r s₃=>ak (aH prog w) A (letTemporaryGo value o r>>=fun _=>pure r) Q E s₃) E s₂:=by rw[hs o i];exact wpAny_operating (iu h₂ (fun r s₃ h₃=>aq (wpAny_letTemporaryGo (aG h₃))) fun _ _ x=>x)
 first
  |exact aG (aq fin)
  |exact aq (aG (aq fin))
  |exact aq fin
section
variable {X:Cx} {o i e value:Expr} {pos pos' tpos:Pos} {td ty tv:TE}
end
section
variable {X:Cx} {pos:Pos}
end
def alq (kvs more:List (Key×V)):List (Key×V):=more.foldl (fun acc kv=>putK acc kv.1 kv.2) kvs
theorem KV.merge:∀ {more:List (Key×V)} {rs:List (Key×Value)} {kvs:List (Key×V)} {vs:List (Key×Value)},KV more rs->KV kvs vs->KV (alq kvs more) (Ir vs rs):=by
 intro more rs kvs vs r;unfold KV at r;induction r generalizing kvs vs with
 |nil=>intro q;exact q| @cons p q ps qs h t ih=>
  intro r0;have e:KV (putK kvs p.1 p.2) (ux vs q.1 q.2):=by have:=r0.put p.1 h.2;rw[<-h.1];exact this
  exact ih e
section
variable {X:Cx} {pins:List (Addr×Obj)} {σ:St} {H:Hp} {s:aj} {a:Addr} {y d:V} {u r:Value} {o:Option V} {A:aL} {E:Value->aj->Prop}
end
section
variable {X:Cx} {o e f:Expr} {apos cpos:Pos} {td ty tx:TE}
end
section
variable {X:Cx} {pins:List (Addr×Obj)} {σ:St} {H:Hp} {s:aj} {a:Addr} {kvs:List (Key×V)} {A:aL} {E:Value->aj->Prop}
end
section
variable {X:Cx} {pins:List (Addr×Obj)} {σ:St} {H:Hp} {s:aj} {a:Addr} {y:V} {u:Value} {A:aL} {E:Value->aj->Prop}
end
end L2
namespace DW
open PySem PySem.Spec PyProof.Rows PyProof.Rows.KTD L2
def qT (K:aV) (a:Addr):List (Str×Addr):=match K.lookup a with
 |some o=>(match o.data with
  | .dict es _=>es.toList.filterMap fun e=>(match e.key with| .str x _=>(match e.val with| .ref f=>some (x,f)|_=>none)|_=>none)
  |_=>[])
 |none=>[]
def aof (f:Addr) (v:Value):Bool:=v== .ref f
def Kq (K:aV) (a:Addr):Bool:=tabLook aof (fun b=>K.lookup b) a (qT K a)&&(qT K a).all fun p=>pB K (.ref p.2)
section
variable {prog:aZ} {w:aQ} {A:aL} {E:Value->aj->Prop} {s:aj} {K:aV} {a:Addr} {k:Str} {tk:Tok}
theorem Hl (h:Kq K a=true) (X:K.In s.heap):TabOf (fun f v=>v=nY f) s.heap a (qT K a):=
 tab_of_look (fun f v e=>eq_of_beq e) X (Yr.mp h).1
theorem agU (h:Kq K a=true) (hf:nR k (qT K a)=some f):pB K (.ref f)=true:=by
 have h2:=Ql.mp (Yr.mp h).2;have:∀ {D:List (Str×Addr)},nR k D=some f->∃ p∈D,p.2=f:=by
  intro D;induction D with
  |nil=>intro e;cases e
  |cons p D ih=>
   intro e;by_cases hx:k=p.1
   .simp[nR,hx]at e;exact⟨p,by simp,e⟩
   .simp[nR,hx]at e
    obtain⟨q,hq,e⟩:=ih e;exact⟨q,by simp[hq],e⟩
 obtain⟨p,hp,rfl⟩:=this hf;exact h2 p hp
theorem HX (T:TabOf R s.heap a D):s.TypeIs (.ref a) "dict":=by obtain⟨_,o,_,_,ho,hc,_⟩:=T;exact⟨o,ho,hc.1⟩
theorem aad (T:TabOf R s.heap a D) (h1:∀ d v,nR k D=some d->R d v->Q (some v) {s with toks:=s.toks+1})
  (h2:nR k D=none->Q none {s with toks:=s.toks+1}):ak (aH prog w) A (Ot a (.str k tk)) Q E s:=by
 obtain⟨_,o,⟨l⟩,ep,ho,hc,hd,hr⟩:=T;unfold Ot;refine kZ (aq (aea (aq (kt_dictFind_strs (s:={s with toks:=s.toks+1}) ho hd (by simpa using hr.exact) ?_))));have hq:Q (findBy (fun k v=>v.isStr k) ⟨l⟩ k) {s with toks:=s.toks+1}:=by
  rw[show findBy (fun k v=>v.isStr k) ⟨l⟩ k=(l.find? fun e=>e.key.isStr k).map (·.val) by simp[findBy]]
  cases e:nR k D with
  |some d=>obtain⟨v,hv,hf⟩:=hr.find_some e;rw[hv];exact h1 d v e hf|none=>rw[hr.find_none e];exact h2 e
 rw[findBy_of_findIdx?]at hq;cases hi:(⟨l⟩:Array O5).findIdx? fun e=>e.key.isStr k with
 |none=>rw[hi]at hq;exact aG hq|some i=>rw[hi]at hq;exact aq (aem (s:={s with toks:=s.toks+1}) ho hd (aG hq))
theorem ac0 (T:TabOf R s.heap a D) (hd:nR k D=some d) (h:∀ v,R d v->Q v {s with toks:=s.toks+1}):
  ak (aH prog w) A (gk (.ref a) (.str k tk)) Q E s:=by
 have hT:=HX T;unfold gk;refine kZ (aq (Yh hT (by decide) (aq (Jy (name:=aD "__getitem__") hT Pz (yK Pz hT entry_dict_getitem ?_ (args_dict_getitem _ _))))));show ak _ _ (Ot a (.str k tk)>>=_) _ _ s;refine aq (aad T (fun d' v e hv=>aG ⟨v,rfl,aG ?_⟩) fun hn=>absurd (hd.symm.trans hn) (by simp));rw[hd]at e;cases e;exact h v hv
theorem ac1 (T:TabOf R s.heap a D) (h:Q (.bool (inKeys k D)) {s with toks:=s.toks+1}):
  ak (aH prog w) A (jM .In (.str k tk) (.ref a)) Q E s:=by
 have hT:=HX T;show ak _ _ (do return .bool (<-contains (.ref a) (.str k tk))) Q E s;unfold contains;refine aq (kZ (aq (adW hT Yq.lookup ?_)));show ak _ _ (if(some (Value.builtin "dict.__contains__")==some fY)=true then _ else _) _ E s;rw[if_neg (by rw[beq_builtin_none];exact fH)];refine aq (wpAny_callSpecialUnlessNone?_slot (name:=aD "__contains__") hT Yq (yK Yq hT entry_dict_contains ?_ (args_dict_contains _ _)));show ak _ _ (Ot a (.str k tk)>>=_) _ _ s;refine aq (aad T (fun d v e _=>?_) fun hn=>?_)
 .rw[show inKeys k D=true by rw[<-W5,e];rfl]at h
  exact aG ⟨_,rfl,nO (aG h)⟩
 .rw[show inKeys k D=false by rw[<-W5,hn];rfl]at h
  show ak _ _ (akM a (.str k tk)>>=_) _ _ _;exact aq (wpAny_pendingKey_other T.1 (aG ⟨_,rfl,nO (aG h)⟩))
end
theorem sy:∀ {D:List (Str×Addr)},inKeys k D=(D.map fun p=>p.1.cps.toList).contains k.cps.toList
 |[]=>rfl|p::D=>by
  show(decide (k=p.1)||inKeys k D)=_;rw[sy,aX,List.contains_cons];congr 1;by_cases h:k=p.1
  .subst h;simp
  .have:¬k.cps.toList=p.1.cps.toList:=fun e=>h (by obtain⟨⟨a⟩⟩:=k;obtain⟨⟨b⟩,d⟩:=p;simp at e;subst e;rfl)
   simp[h];exact fun e=>this (by rw[e])
section
variable {X:Cx} {x:Str} {a:Addr} {i:Expr} {p pos:Pos} {ti:TE}
end
end DW
namespace DW
open PySem PySem.Spec PyProof.Rows L2
def TrX (B:Heap) (e:Addr) (ob:Obj) (vs:Array Value) (fl:Value) (h:Heap):Prop:=
 ∃ T oT ts,h.get? e=some {ob with data:=.fields (vs.setIfInBounds 1 (.ref T))}/\B.get? T=none/\T≠e/\h.get? T=some oT/\oT.data= .fields ts/\ts[3]?=some fl
structure K8 (B:Heap) (l:List Env) (e:Addr) (ob:Obj) (vs:Array Value) (fl:Value) (h:Heap):Prop where
 stay:B.StaysIn h
 new:B.get? e=none
 alT:h.FunFrames B l
 tr:TrX B e ob vs fl h
 two:2<vs.size
theorem TrX.there (x:TrX B e ob vs fl h):∃ T,h.get? e=some {ob with data:=.fields (vs.setIfInBounds 1 (.ref T))}:=let⟨T,_,_,q,_⟩:=x;⟨T,q⟩
theorem CT {h:Heap} {b e:Addr} {o oe:Obj} {vs:Array Value} (hb:h.get? b=some o) (hn:∀ vs,o.data≠.fields vs) (he:h.get? e=some oe) (hd:oe.data= .fields vs):b≠e:=fun z=>by subst z;rw[hb]at he;cases he;exact hn vs hd
theorem YZ {B:Heap} {b e:Addr} {o:Obj} (hb:B.get? b=some o) (he:B.get? e=none):b≠e:=fun z=>by subst z;rw[hb]at he;cases he
section
variable {M:Model} {A:aL} {E:Value->aj->Prop} {s:aj} {B:Heap} {env:Env} {outer:List Env} {L e:Addr} {ob:Obj} {ws vs:Array Value} {Q:Unit->aj->Prop}
theorem jk {h:Heap} {a:Addr} {f:Obj->Obj}:∀ b,b≠a->(h.update a f).get? b=h.get? b:=fun b hb=>nP _ _ (bL hb)
theorem aaW {hd:Value} {hn:Bool} (fr:A.frames=some (env::outer)) (F:s.heap.FunFrames B (env::outer)) (hf:env.frame=some L) (he:s.heap.get? e=some {ob with data:=.fields ws}) (st:B.StaysIn s.heap) (new:B.get? e=none)
  (z:2<ws.size) (k:∀ h',K8 B (env::outer) e ob ws (mG L) h'->s.heap.UpToSlots h'->Q () {s with heap:=h' }):
  ak M A (do let a<-frameOf env;let pl<-entryPlaceOf L hn;let b<-aeQ hd a .none (mG L) .none pl;setField (.ref e) 1 b) Q E s:=by
 have eo:e∉(env::outer).filterMap (·.frame):=fun m=>let⟨_,o,ho,nf⟩:=F.mem m;by rw[he]at ho;cases ho;exact nf ws rfl
 refine aq (wpAny_frameOf_fun fr F hf fun g1 sl1=>aq (wpAny_entryPlaceOf fun pl ip=>?_));unfold aeQ newFields;refine aq (wZ ?_ (ip.sizeOk5 _ _ _ _ _));have e1:g1.get? e=some {ob with data:=.fields ws}:=by rw[sl1.2.1 e eo];exact he
 have st1:B.StaysIn g1:=fun b o q=>by rw[sl1.2.1 b fun m=>(by rw[(F.mem m).1]at q;cases q)];exact st b o q
 generalize hN:({cls:=.type "traceback",dict:=none,data:=.fields ([hd,.ref L,.none,mG L,.none]++(if pl.isEmpty then bD 6 fY else pl)).toArray}:Obj)=N;have dN:N.data= .fields ([hd,.ref L,.none,mG L,.none]++(if pl.isEmpty then bD 6 fY else pl)).toArray:=by rw[<-hN]
 have nN:N.isFreed=false:=by rw[<-hN];rfl
 have lt:=bW e1;have Te:g1.objs.size≠e:=rQ lt;refine XH (eV (h:=g1) N e1) rfl (by lia) (k _ ⟨?_,new,?_,?_,z⟩ ?_)
 .intro b o q
  rw[jk b (YZ q new)];exact eV _ (st1 b o q)
 .refine F.of_keeps fun b o hb nf=>?_
  obtain⟨sl,q⟩:=sl1.2.2 b o hb;exact⟨{o with slots:=sl},by rw[jk b (CT hb nf he rfl)];exact eV _ q,rfl⟩
 .refine⟨g1.objs.size,N,_,yN _ (eV (h:=g1) N e1) rfl,st1.fresh,Te,?_,dN,?_⟩
  .rw[jk _ Te];exact gU g1 nN
  .rcases ip with rfl|⟨_,_,_,_,_,_,_,rfl⟩<;>simp
 .intro b o hb nf
  obtain⟨sl,q⟩:=sl1.2.2 b o hb;exact⟨sl,by rw[jk b (CT hb nf he rfl)];exact eV _ q⟩
theorem ac8 (z:2<ws.size):(ws.setIfInBounds 1 x)[1]?=some x:=by rw[Array.getElem?_setIfInBounds];simp;lia
theorem set_same:(ws.setIfInBounds 1 x).setIfInBounds 1 y=ws.setIfInBounds 1 y:=by simp
theorem alm (fr:A.frames=some (env::outer)) (F:s.heap.FunFrames B (env::outer)) (hf:env.frame=some L) (he:s.heap.get? e=some {ob with data:=.fields ws}) (st:B.StaysIn s.heap) (new:B.get? e=none) (z:2<ws.size)
  (h1:ws[1]?=some .none∨∃ T oT ts,ws[1]?=some (.ref T)/\B.get? T=none/\T≠e/\s.heap.get? T=some oT/\oT.data= .fields ts/\ts[3]?=some .none)
  (k:∀ h',K8 B (env::outer) e ob ws (mG L) h'->s.heap.UpToSlots h'->Q () {s with heap:=h' }):ak M A (noteFrame (.ref e) env) Q E s:=by
 unfold noteFrame;simp only[hf];rcases h1 with h1|⟨T,oT,ts,h1,nT,ne,hT,dT,h3⟩
 .refine aq (n6 he rfl h1 ?_)
  rw[if_neg (by decide)];exact aaW fr F hf he st new z k
 .refine aq (n6 he rfl h1 ?_)
  rw[if_pos (by simp:(nY T !=fY)=true)];refine aq (n6 hT dT h3 ?_);rw[if_neg (by simp[mG]:¬(fY==mG L)=true)];refine aq (XH hT dT (afs.mp h3).1 ?_);refine aaW (s:={s with heap:=s.heap.update T _}) fr (F.of_keeps fun b o hb nf=>⟨o,by rw[jk b (CT hb nf hT dT)];exact hb,rfl⟩) hf (by rw[jk e (bL ne)];exact he) (fun b o q=>by rw[jk b (YZ q nT)];exact st b o q) new z fun h' x u=>k h' x ?_;intro b o hb nf;exact u b o (by rw[jk b (CT hb nf hT dT)];exact hb) nf
theorem alx {l:List Env} {fl:Value} (x:K8 B l e ob vs fl s.heap) (k:∀ h',K8 B l e ob vs .none h'->s.heap.UpToSlots h'->Q () {s with heap:=h' }):ak M A (setFlight (.ref e) none) Q E s:=by obtain⟨st,new,F,⟨T,oT,ts,he,nT,ne,hT,dT,h3⟩,z⟩:=x;unfold setFlight;have z3:=(afs.mp h3).1;refine aq (n6 he rfl (x:=.ref T) (ac8 z) ?_);rw[if_pos (by simp:(nY T !=fY)=true)];obtain⟨c,d,dt,sl⟩:=oT;cases dT;refine XH hT rfl z3 (k _ ⟨fun b o q=>by rw[jk b (YZ q nT)];exact st b o q,new,F.of_keeps fun b o hb nf=>⟨o,by rw[jk b (CT hb nf hT rfl)];exact hb,rfl⟩,⟨T,_,_,by rw[jk e (bL ne)];exact he,nT,ne,yN _ hT rfl,rfl,by simp[z3]⟩,z⟩ fun b o hb nf=>⟨o.slots,by rw[jk b (CT hb nf hT rfl)];exact hb⟩)
theorem aiB (fr:A.frames=some (env::outer)) (F:s.heap.FunFrames B (env::outer)) (hf:env.frame=some L) (he:s.heap.get? e=some {ob with data:=.fields ws}) (st:B.StaysIn s.heap) (new:B.get? e=none) (z:2<ws.size)
  (h1:ws[1]?=some .none∨∃ T oT ts,ws[1]?=some (.ref T)/\B.get? T=none/\T≠e/\s.heap.get? T=some oT/\oT.data= .fields ts/\ts[3]?=some .none)
  (k:∀ h',K8 B outer e ob ws .none h'->s.heap.UpToSlots h'->Q () {s with heap:=h' }):ak M A (I3 env (.ref e)) Q E s:=by
 unfold I3;refine aq (alm fr F hf he st new z h1 fun h' x u=>alx (s:={s with heap:=h' }) x fun h2 y v=>k h2 ⟨y.stay,y.new,?_,y.tr,y.two⟩ (u.trans v));obtain⟨_,_,q⟩:=y.alT;exact q
theorem TrX.re (y:TrX B e ob (vs.setIfInBounds 1 x) fl h):TrX B e ob vs fl h:=by obtain⟨T,oT,ts,he,r⟩:=y;rw[set_same]at he;exact⟨T,oT,ts,he,r⟩
theorem K8.re (y:K8 B l e ob (vs.setIfInBounds 1 x) fl h):K8 B l e ob vs fl h:=⟨y.stay,y.new,y.alT,y.tr.re,by have:=y.two;simpa using this⟩
theorem agc (fr:A.frames=some (env::outer)) (hf:env.frame=some L) (x:K8 B (env::outer) e ob vs .none s.heap) (k:∀ h',K8 B outer e ob vs .none h'->s.heap.UpToSlots h'->Q () {s with heap:=h' }):
  ak M A (I3 env (.ref e)) Q E s:=by
 obtain⟨T,oT,ts,he,r⟩:=x.tr;have z:=x.two;exact aiB fr x.alT hf he x.stay x.new (by simpa using z) (.inr ⟨T,oT,ts,ac8 z,r⟩) fun h' y u=>k h' y.re u
end
end DW
namespace DW
open PySem PySem.StrLaws PySem.Builtin PySem.Builtin.Str
def cQ (c:Nat):List Nat->List (List Nat)
 |[]=>[[]]|x::xs=>if x=c then []::cQ c xs else match cQ c xs with|p::ps=>(x::p)::ps|[]=>[[x]]
def Lg (c:Nat) (x:List Nat):List Nat:=x.takeWhile (·!=c)
def postC (c:Nat) (x:List Nat):List Nat:=(x.dropWhile (·!=c)).drop 1
def dW (sep:List Nat):List (List Nat)->List Nat
 |[]=>[]|[x]=>x|x::y::r=>x++sep++dW sep (y::r)
def R5 (x:List Nat) (c:Nat) (l:List Nat):List Nat:=l.filter fun i=>x[i]?==some c
theorem JD (x:Str) (c limit:Nat):∀ (l:List Nat) (st:Array Nat×Nat),l.Pairwise (·<·)->(∀ i∈l,st.2<=i)->st.1.size+l.length<=limit->
  (forIn l st (occBody x ⟨#[c]⟩ x.length limit)).run.fst.toList=st.1.toList++R5 x.cps.toList c l
 |[],st,_,_,_=>by simp[R5]|a::l,st,hp,hf,hl=>by
  rw[PX];unfold occBody;simp only[yM]at hp;have h1:=Jj x c a;by_cases hc:x.cps.toList[a]?=some c
  .have h2:=h1.mpr hc
   have c1:((st.fst.size<limit/\st.snd<=a)/\a+(⟨#[c]⟩:Str).length<=x.length)/\subAt x ⟨#[c]⟩ a=true:=⟨⟨⟨by simp at hl;lia,hf a (by simp)⟩,h2.1⟩,h2.2⟩;rw[if_pos c1];have ih:=JD x c limit l (st.fst.push a,a+(⟨#[c]⟩:Str).length) hp.2 (fun i hi=>by have:=hp.1 i hi;show a+1<=i;lia) (by simp at hl ⊢;lia);refine ih.trans ?_;(have hb:(x.cps.toList[a]?==some c)=true:=by rw[hc];simp);unfold R5;rw[yJ,if_pos hb];simp only[Array.toList_push,qy,bB,aO]
  .have c2:¬(((st.fst.size<limit/\st.snd<=a)/\a+(⟨#[c]⟩:Str).length<=x.length)/\subAt x ⟨#[c]⟩ a=true):=fun h=>hc (h1.mp ⟨h.1.2,h.2⟩)
   rw[if_neg c2];have ih:=JD x c limit l (st.fst,st.snd) hp.2 (fun i hi=>hf i (by simp[hi])) (by simp at hl ⊢;lia);refine ih.trans ?_;have hb:¬(x.cps.toList[a]?==some c)=true:=fun z=>hc (by simpa only[beq_iff_eq]using z);unfold R5;rw[yJ,if_neg hb]
theorem aas (x:Str) (c:Nat):Ja x ⟨#[c]⟩ 0 x.length (x.length+1)=R5 x.cps.toList c (fZ 0 (x.length+1)):=by rw[occ_eq];have:=JD x c (x.length+1) (fZ 0 (x.length+1 -0)) (#[],0) (List.pairwise_lt_range' (s:=0) (n:=x.length+1 -0)) (fun _ _=>jG _) (by simp);rw[this];simp
theorem xW (x:Str) (i j:Nat):(yd x i j).cps.toList=(x.cps.toList.drop i).take (j -i):=XJ x i j
def GK (s:Str):List Nat:=s.cps.toList
theorem Fw (x:Str) (c:Nat):∀ (n a:Nat),a+n=x.cps.toList.length->(I5 x 1 a (R5 x.cps.toList c (fZ a (n+1)))).map GK=cQ c (x.cps.toList.drop a)
 |0,a,h=>by
  have hd:x.cps.toList.drop a=[]:=Im (by lia);have hn:x.cps.toList[a]?=none:=Qz (by lia);have e:R5 x.cps.toList c (fZ a (0+1))=[]:=by unfold R5;rw[Du,yJ,hn];rfl
  rw[e,hd];simp only[I5,aX,aW,GK,xW,hd,cQ];simp
 |n+1,a,h=>by
  have ha:a<x.cps.toList.length:=by lia
  have hdr:x.cps.toList.drop a=x.cps.toList[a]::x.cps.toList.drop (a+1):=Io ha;have ih:=Fw x c n (a+1) (by lia);have hg:x.cps.toList[a]?=some x.cps.toList[a]:=dw ha;rw[Du];by_cases hc:x.cps.toList[a]=c
  .have e:R5 x.cps.toList c (a::fZ (a+1) (n+1))=a::R5 x.cps.toList c (fZ (a+1) (n+1)):=by unfold R5;rw[yJ,hg,hc];simp
   rw[e,hdr];simp only[I5,aX,ih,cQ,hc,if_true,GK,xW];simp
  .have e:R5 x.cps.toList c (a::fZ (a+1) (n+1))=R5 x.cps.toList c (fZ (a+1) (n+1)):=by unfold R5;rw[yJ,hg,if_neg (by simpa only[beq_iff_eq,qx]using hc)]
   rw[e,hdr];simp only[cQ,hc,if_false];have hin:∀ k∈R5 x.cps.toList c (fZ (a+1) (n+1)),a+1<=k:=fun k hk=>by have:=(uJ.mp hk).1;simp[adV]at this;lia
   generalize R5 x.cps.toList c (fZ (a+1) (n+1))=cuts at ih hin;have key:∀ j:Nat,a+1<=j->GK (yd x a j)=x.cps.toList[a]::GK (yd x (a+1) j):=fun j hj=>by simp only[GK,xW,hdr];rw[show j -a=(j -(a+1))+1 by lia,aeP]
   (have hl:x.length=x.cps.toList.length:=by simp[eN]);cases cuts with
   |nil=>simp only[I5,aX,aW]at ih ⊢;rw[<-ih,key _ (by lia)]|cons k r=>simp only[I5,aX]at ih ⊢;rw[<-ih,key _ (hin k (by simp))]
theorem S7 (x:Str) (c:Nat):(partsBetween x (Ja x ⟨#[c]⟩ 0 x.length (x.length+1)) (⟨#[c]⟩:Str).length).map GK=cQ c (GK x):=by rw[partsBetween_eq,aas];have:=Fw x c x.length 0 (by simp[eN]);simpa[eN,GK]using this
theorem vM:∀ {x:List Nat},c∉x->cQ c x=[x]
 |[],_=>rfl|a::x,h=>by simp only[bC,not_or]at h;unfold cQ;rw[if_neg (bL h.1),vM h.2]
theorem rB:∀ {x:List Nat},c∉x->cQ c (x++c::y)=x::cQ c y
 |[],_=>by show(if c=c then _ else _)=_;rw[if_pos rfl]|a::x,h=>by simp only[bC,not_or]at h;have ih:=rB (y:=y) h.2;show(if a=c then []::cQ c (x++c::y)else match cQ c (x++c::y)with|p::ps=>(a::p)::ps|[]=>[[a]])=_;rw[if_neg (bL h.1),ih]
theorem H7:∀ {ws:List (List Nat)},ws≠[]->(∀ w∈ws,c∉w)->cQ c (dW [c] ws)=ws
 |[],h,_=>absurd rfl h|[w],_,h=>vM (h w (by simp))|w::v::r,_,h=>by show cQ c (w++[c]++dW [c] (v::r))=_;rw[qy];show cQ c (w++c::dW [c] (v::r))=_;rw[rB (h w (by simp)),H7 (by simp) fun u hu=>h u (by simp[hu])]
theorem H8 (c:Nat):∀ x:List Nat,(cQ c x).length<=x.length+1
 |[]=>by simp[cQ]|a::x=>by
  have:=H8 c x;unfold cQ;split
  .simp;lia
  .cases q:cQ c x with|nil=>simp|cons p ps=>rw[q]at this;simp at this ⊢;lia
theorem aan:∀ {x:List Nat},c∉x->Lg c (x++c::y)=x/\postC c (x++c::y)=y
 |[],_=>by simp[Lg,postC]|a::x,h=>by
  simp only[bC,not_or]at h;have:(a !=c)=true:=by simpa using bL h.1
  obtain⟨h1,h2⟩:=aan (y:=y) h.2;unfold Lg postC at*;rw[bB,aeO,if_pos this,aeN,if_pos this];exact⟨by rw[h1],h2⟩
theorem afI:∀ (x:List Nat) (i:Nat),x[i]?=some c->(∀ k,k<i->x[k]?≠some c)->Lg c x=x.take i/\postC c x=x.drop (i+1)
 |[],i,h,_=>by simp at h|a::x,0,h,_=>by
  have:a=c:=by simpa using h
  subst this;simp[Lg,postC]
 |a::x,i+1,h,hn=>by
  have h0:a≠c:=by have:=hn 0 (by lia);simpa using this
  have:(a !=c)=true:=by simpa using h0
  obtain⟨h1,h2⟩:=afI x i (by simpa using h) (fun k hk=>by have:=hn (k+1) (by lia);simpa using this);unfold Lg postC at*;rw[aeO,if_pos this,aeN,if_pos this,h1,h2];exact⟨rfl,rfl⟩
theorem Ul (sep:Str):∀ ws:List Str,GK (Ww sep ws)=dW (GK sep) (ws.map GK)
 |[]=>rfl|[w]=>rfl|w::v::r=>by have ih:=Ul sep (v::r);have:Ww sep (w::v::r)=w++sep++Ww sep (v::r):=rfl;rw[this];simp only[aX,dW]at ih ⊢;rw[<-ih];simp[GK,show ∀ a b:Str,(a++b).cps=a.cps++b.cps from fun _ _=>rfl]
end DW
namespace DW
open PySem
noncomputable abbrev iH:=Sum Int (List Nat)
inductive D where
 |non|bl (b:Bool)|int (i:Int)|str (x:List Nat)
 |tup (ds:List D)|lst (ds:List D)|ro (ds:List D)|loc (n:Nat)|jZ (ks:List iH) (ds:List D)
inductive Cell where
 |lst (ds:List D)|ins (c:String) (fs:List (String×D))|jZ (ks:List iH) (ds:List D)|GC (ks:List (List iH)) (ds:List D)|exc (c:String) (ks:List String) (ds:List D)|gone|tbl
noncomputable abbrev Mem:=List Cell
noncomputable abbrev dH:=List (Option D)
noncomputable abbrev QD:=D->Mem->Prop
noncomputable abbrev dz:=List D->Mem->QD->Prop
noncomputable abbrev QX:=String->List String->List D->Mem->Prop
noncomputable abbrev qZ:=List D->Mem->QD->QX->Prop
set_option genInjectivity false
mutual
inductive E where
 |var (i:Nat)|cst (d:D)|gbl (x:Str) (d:D)
 |bin (op:jL) (a b:E)|neg (a:E)|not (a:E)
 |cmp (op:jd) (a b:E)|RL (neg:Bool) (a b:E)|chain (p q:jd) (a b c:E)
 |and (a b:E)|or (a b:E)|ife (c a b:E)
 |call (x:Str) (sp:dz) (as:Es)|blt (x:String) (as:Es)|acj (x:String) (a b:E)
 |isin (a:E) (t:String) (ks:Option (List (List Nat)):=none)
 |meth (m:String) (o:E) (as:Es)|S5 (m:String) (o:E) (as:Es)|rmv (o:E) (as:Es)|abW (as:Es)|dd3 (k1 k2 k3:List Nat) (a b e:E)
 |idx (a b:E)|slc (m:Bool) (a:E) (lo hi:Es)
 |tup (as:Es)|lst (m:Bool) (as:Es)
 |comp (m:Bool) (tg:Nat) (tt:Bool) (cap:List Nat) (elt:E) (it:It) (cond:Es)
 |Gh (a:E)
 |ab5 (t:Bool)|Zt (o i:E)
 |fld (c f:String) (o:E)|rW (c m:String) (sp:dz) (o:E) (as:Es)|mk (c:String) (sp:dz) (as:Es)
inductive Es where
 |nil|cons (e:E) (es:Es)
inductive It where
 |seq (e:E)|rng (as:Es)|enum (a:E)|rvd (a:E)
end
set_option genInjectivity true
inductive XC where
 |dsp (x:Str) (ks:List (List Nat)) (sp:qZ) (i:E) (as:Es)
set_option genInjectivity false
mutual
inductive S where
 |set (i:Nat) (e:E)|Tj (is:List Nat) (e:E)
 |dput (o i e:E)|Nu (op:jL) (o i e:E)|Ih (o i e:E)
 |exp (e:E)|ret (e:E)
 |ite (c:E) (a b:Ss)|for_ (tg:List Nat) (tt:Bool) (it:It) (b:Ss)|whl (c:E) (b:Ss)
 |qt (c f:String) (o e:E)|aco (c f:String) (op:jL) (o e:E)|Y4
 |abt (c:XC)|abh (P:String) (tab:List String) (i:Nat) (b h:Ss)
inductive Ss where
 |nil|cons (s:S) (r:Ss)
end
set_option genInjectivity true
def b2i (b:Bool):Int:=if b then 1 else 0
mutual
noncomputable def flat:Nat->D->Bool
 |_,.non=>true|_,.bl _=>true|_,.int _=>true|_,.str x=>x.all (·<1114112)|n+1,.tup ds=>flats n ds|n+1,.lst ds=>flats n ds|_,_=>false
noncomputable def flats:Nat->List D->Bool
 |_,[]=>true|n,d::ds=>flat n d&&flats n ds
end
mutual
noncomputable def mq:D->D->Bool
 | .non,e=>match e with| .non=>true|_=>false
 | .bl a,e=>match e with| .bl b=>a==b| .int j=>b2i a==j|_=>false
 | .int i,e=>match e with| .int j=>i==j| .bl b=>i==b2i b|_=>false
 | .str x,e=>match e with| .str y=>x==y|_=>false
 | .tup ds,e=>match e with| .tup es=>Lx ds es|_=>false
 | .lst ds,e=>match e with| .lst es=>Lx ds es|_=>false
 | .ro ds,_=>false| .loc _,_=>false| .jZ ks ds,e=>match e with| .jZ ls es=>decide (ks=ls)&&Lx ds es|_=>false
noncomputable def Lx:List D->List D->Bool
 |[],es=>es.isEmpty|d::ds,es=>match es with|[]=>false|e::es=>mq d e&&Lx ds es
end
def dO:List Nat->List Nat->Bool
 |_,[]=>false|[],_::_=>true|x::xs,y::ys=>if x=y then dO xs ys else decide (x<y)
def sc2:D->Bool
 | .int _=>true| .str _=>true|_=>false
mutual
noncomputable def M8:D->D->Option Bool
 | .int i,e=>match e with| .int j=>some (decide (i<j))|_=>none
 | .str x,e=>match e with| .str y=>some (dO x y)|_=>none
 | .tup ds,e=>match e with| .tup es=>if(ds.all sc2&&es.all sc2)=true then wJ ds es else none|_=>none
 |_,_=>none
noncomputable def wJ:List D->List D->Option Bool
 |[],es=>some (!es.isEmpty)|d::ds,es=>match es with|[]=>some false|e::es=>if mq d e then wJ ds es else M8 d e
end
noncomputable abbrev Itm:=Int×List Nat
def aK (x:Itm):D:=.tup [.int x.1,.str x.2]
def gM (x y:Itm):Bool:=if x.1=y.1 then dO x.2 y.2 else decide (x.1<y.1)
noncomputable abbrev j5 (l:List Itm):Prop:=l.Pairwise fun a b=>gM b a=false
def aB (μ:Mem):D->Option (List D)
 | .lst ds=>some ds| .tup ds=>some ds| .ro ds=>some ds| .loc n=>match μ[n]? with|some (.lst ds)=>some ds|_=>none
 |_=>none
def chars (x:List Nat):List D:=x.map fun c=>D.str [c]
def lenOf (μ:Mem):D->Option Nat
 | .str x=>some x.length|d=>(aB μ d).map (·.length)
def cC (μ:Mem):D->Option (List D)
 | .tup _=>none|d=>aB μ d
def truth (μ:Mem):D->Option Bool
 | .non=>some false| .bl b=>some b| .int i=>some (i !=0)| .jZ ks _=>some (ks.length !=0)|d=>(lenOf μ d).map (·!=0)
def Ls (have_ want:String):Bool:=have_==want||(have_=="bool"&&want=="int")
def tyOf (μ:Mem):D->Option String
 | .non=>some "NoneType"| .bl _=>some "bool"| .int _=>some "int"| .str _=>some "str"| .tup _=>some "tuple"| .lst _=>some "list"| .jZ _ _=>some "dict"| .ro _=>none| .loc n=>match μ[n]? with|some (.lst _)=>some "list"|some (.jZ _ _)=>some "dict"|some (.GC _ _)=>some "dict"|_=>none
def tM (t:String) (d:D) (μ:Mem) (Q:QD):Prop:=match tyOf μ d with|some h=>Q (.bl (Ls h t)) μ|none=>False
def VG (ks:List (List Nat)) (d:D) (μ:Mem) (Q:QD):Prop:=match d with| .str t=>Q (.bl (ks.contains t)) μ|_=>False
def isKey (ks:List (List Nat)) (d:D):Prop:=match d with| .str t=>ks.contains t=true|_=>False
def um (a b c:Int):Int:=if c>0 then(if a<b then(b -a -1)/c+1 else 0)else(if a>b then(a -b -1)/(-c)+1 else 0)
def xZ (lo c:Int) (n:Nat):List D:=(aU n).map fun(k:Nat)=>D.int (lo+(k:Int)*c)
def fj (lo:Int) (n:Nat):List D:=(aU n).map fun(k:Nat)=>D.int (lo+(k:Int))
def oV (n:Nat) (i:Int):Option Nat:=if 0<=i then(if i<n then some i.toNat else none)else if -(n:Int)<=i then some (i+n).toNat else none
def kO (n d:Nat):Option Int->Nat
 |none=>d|some v=>if v<0 then(v+(n:Int)).toNat else min v.toNat n
def cutD {α:Type} (xs:List α) (lo hi:Option Int):List α:=(xs.drop (kO xs.length 0 lo)).take (kO xs.length xs.length hi -kO xs.length 0 lo)
def lim:Nat:=16777216
def newL (m:Bool) (ds:List D) (μ:Mem) (Q:QD):Prop:=match m with|true=>Q (.loc μ.length) (μ++[.lst ds])|false=>Q (.lst ds) μ
def newR:Option Bool->List D->Mem->QD->Prop
 |some m,ds,μ,Q=>newL m ds μ Q|none,ds,μ,Q=>Q (.tup ds) μ
def ahn (i j:Int):Prop:=(-(2 ^ 64)<i/\i<2 ^ 64)∨(-(2 ^ 64)<j/\j<2 ^ 64)
def Nz (j:Int):Prop:=0<j/\j<2 ^ 500
def ajU (i j:Int):Prop:=0<=j/\j<=1000000/\i.natAbs<2 ^ 64
def jC (op:jL) (x y:D) (μ:Mem) (Q:QD):Prop:=
 match x,y with
 | .int i,.int j=>match op with| .Add=>Q (.int (i+j)) μ| .Sub=>Q (.int (i -j)) μ| .Mult=>ahn i j/\Q (.int (i*j)) μ| .FloorDiv=>Nz j/\Q (.int (i/j)) μ| .Mod=>0<j/\Q (.int (i%j)) μ| .Pow=>ajU i j/\Q (.int (i ^ j.toNat)) μ| .LShift=>(0<=j/\j<=1000/\i.natAbs<2 ^ 64)/\Q (.int (i*2 ^ j.toNat)) μ| .RShift=>0<=j/\Q (.int (i/2 ^ j.toNat)) μ| .BitAnd=>(0<=i/\j=1)/\Q (.int (i%2)) μ|_=>False
 | .str a,.str b=>match op with| .Add=>a.length+b.length<=lim/\Q (.str (a++b)) μ|_=>False
 | .str a,.int k=>match op with| .Mult=>(0<=k/\k<=1000/\1<=a.length/\a.length<=1000)/\Q (.str (bD k.toNat a).flatten) μ|_=>False
 | .lst a,.lst b=>match op with| .Add=>a.length+b.length<=lim/\Q (.lst (a++b)) μ|_=>False
 | .tup a,.tup b=>match op with| .Add=>a.length+b.length<=lim/\Q (.tup (a++b)) μ|_=>False
 |_,_=>False
def eY (μ:Mem):Nat->D->D
 |0,d=>d|n+1,d=>match d with
  | .tup ds=>.tup (ds.map (eY μ n))| .lst ds=>.lst (ds.map (eY μ n))| .loc k=>match μ[k]? with|some (.lst ds)=>.lst (ds.map (eY μ n))|_=>.loc k
  |d=>d
def abb (neg:Bool) (x y:D) (μ:Mem) (Q:QD):Prop:=flat 60 (eY μ 8 x)=true/\flat 60 (eY μ 8 y)=true/\Q (.bl (neg !=mq (eY μ 8 x) (eY μ 8 y))) μ
def pI:D->Bool
 | .non=>true|_=>false
def za:D->Option iH
 | .int i=>some (.inl i)| .str x=>some (.inr x)|_=>none
def jV:List D->Option (List iH)
 |[]=>some []|d::ds=>match za d with|some k=>(jV ds).map (k::·)|none=>none
def UL {κ:Type} [DecidableEq κ] (ks:List κ) (k:κ):Bool:=decide (k∈ks)
def eX {κ:Type} [DecidableEq κ]:List κ->List D->κ->Option D
 |k' ::ks,d::ds,k=>if k'=k then some d else eX ks ds k|_,_,_=>none
def ahC (neg:Bool) (x y:D) (μ:Mem) (Q:QD):Prop:=match y with| .loc n=>(match μ[n]? with|some (.jZ ks _)=>(match za x with|some k=>Q (.bl (neg !=UL ks k)) μ|none=>False)|some (.GC ks _)=>(match x with| .tup es=>(match jV es with|some k=>Q (.bl (neg !=UL ks k)) μ|none=>False)|_=>False)|_=>False)|_=>False
def ajo (d:D) (μ:Mem) (Q:QD):Prop:=match d with| .loc n=>(match μ[n]? with|some (.jZ ks _)=>Q (.int ks.length) μ|some (.GC ks _)=>Q (.int ks.length) μ|_=>False)|_=>False
def R6 (n:Nat) (y:D) (μ:Mem) (Q:QD):Prop:=match μ[n]? with|some (.lst ds)=>(match y with| .lst []=>Q (.bl (!ds.isEmpty)) μ|_=>False)|_=>False
def cP (op:jd) (x y:D) (μ:Mem) (Q:QD):Prop:=
 match op with
 | .Eq=>flat 60 x=true/\flat 60 y=true/\Q (.bl (mq x y)) μ| .NotEq=>match x with| .loc n=>R6 n y μ Q|x=>flat 60 x=true/\flat 60 y=true/\Q (.bl (!mq x y)) μ
 | .Lt=>match M8 x y with|some b=>Q (.bl b) μ|none=>False
 | .LtE=>match x,y with| .int i,.int j=>Q (.bl (decide (i<=j))) μ| .str a,.str b=>Q (.bl (!dO b a)) μ|_,_=>False
 | .Gt=>match x,y with| .int i,.int j=>Q (.bl (decide (j<i))) μ|_,_=>False
 | .GtE=>match x,y with| .int i,.int j=>Q (.bl (decide (j<=i))) μ|_,_=>False
 | .Is=>match y with| .non=>Q (.bl (pI x)) μ| .bl b=>(match x with| .bl a=>Q (.bl (a==b)) μ|_=>False)|_=>False
 | .IsNot=>match y with| .non=>Q (.bl (!pI x)) μ| .bl b=>(match x with| .bl a=>Q (.bl (a !=b)) μ|_=>False)|_=>False
 | .In=>match y with| .str t=>(match x with| .str a=>(match a with|[c]=>Q (.bl (t.contains c)) μ|_=>False)|_=>False)|y=>(match aB μ y with|some ds=>flats 60 ds=true/\flat 60 x=true/\Q (.bl (ds.any fun d=>mq d x)) μ|none=>ahC false x y μ Q)
 | .NotIn=>match y with| .str t=>(match x with| .str a=>(match a with|[c]=>Q (.bl (!t.contains c)) μ|_=>False)|_=>False)|y=>(match aB μ y with|some ds=>flats 60 ds=true/\flat 60 x=true/\Q (.bl (!ds.any fun d=>mq d x)) μ|none=>ahC true x y μ Q)
def allB:List D->Option Bool
 |[]=>some true| .bl b::ds=>(allB ds).map (b&&·)|_::_=>none
def lX:List D->Option (List Int)
 |[]=>some []| .int i::ds=>(lX ds).map (i::·)|_::_=>none
def jB (i:Int):List Nat:=(aD (toString i)).cps.toList
def Q9:List String:=["len","all","max","min","list","mlist","divmod","msorted","str","int"]
def wB3 (b:String) (d e f:D) (μ:Mem) (Q:QD):Prop:=match b with|"min3"=>(match d,e,f with| .int i,.int j,.int k=>Q (.int (min (min i j) k)) μ|_,_,_=>False)|_=>False
theorem ajZ (hb:b≠"min3"):¬wB3 b d e f μ Q:=by
 unfold wB3;split
 .exact absurd rfl hb
 .exact id
def an1 (_:D) (_:Mem) (_:QD):Prop:=False
def ltI:List Int->List Int->Bool
 |_,[]=>false|[],_::_=>true|x::xs,y::ys=>if x=y then ltI xs ys else decide (x<y)
def bQ (b:String) (ds:List D) (μ:Mem) (Q:QD):Prop:=
 match ds with
 |[d]=>match b with
  |"len"=>match lenOf μ d with|some n=>Q (.int n) μ|none=>ajo d μ Q
  |"all"=>match(cC μ d).bind allB with|some r=>Q (.bl r) μ|none=>False
  |"max"=>match(cC μ d).bind lX with|some (i::is)=>Q (.int (is.foldl max i)) μ|_=>False
  |"min"=>match(cC μ d).bind lX with|some (i::is)=>Q (.int (is.foldl min i)) μ|_=>False
  |"list"=>match aB μ d with|some es=>Q (.lst es) μ|none=>an1 d μ Q
  |"mlist"=>match aB μ d with|some es=>newL true es μ Q|none=>False
  |"msorted"=>match cC μ d with|some es=>∃ r:List Itm,es=r.map aK/\r.length<64/\∀ r':List Itm,r'.Perm r->j5 r'->newL true (r'.map aK) μ Q|none=>False
  |"str"=>match d with| .int i=>i.natAbs.log2<1920/\Q (.str (jB i)) μ|_=>False
  |"int"=>match d with| .int i=>Q (.int i) μ| .bl b=>Q (.int (if b then 1 else 0)) μ| .str x=>∃ n:Int,(x.length<=640/\intText? ⟨x.toArray⟩=some n)/\Q (.int n) μ|_=>False
  |_=>False
 |[d,e]=>match b with
  |"divmod"=>match d,e with| .int i,.int j=>Nz j/\Q (.tup [.int (i/j),.int (i%j)]) μ|_,_=>False
  |"max"=>match d,e with| .int i,.int j=>Q (.int (if j>i then j else i)) μ|_,_=>False
  |"min"=>match d,e with| .int i,.int j=>Q (.int (if j<i then j else i)) μ|_,_=>False
  |_=>False
 |[d,e,f]=>wB3 b d e f μ Q|_=>False
def Mj (d e:D) (μ:Mem) (Q:QD):Prop:=
 match(cC μ d).bind lX with
 |some []=>Q e μ|some (i::is)=>Q (.int (is.foldl max i)) μ|_=>False
def an7 (n:Nat) (d e:D) (μ:Mem) (Q:QD):Prop:=match za d with|some k=>μ[n]?=some (.jZ [] [])/\Q (.loc n) (μ.set n (.jZ [k] [e]))|none=>False
def an6 (n:Nat) (d e:D) (μ:Mem) (Q:QD):Prop:=match d with| .tup ds=>(match jV ds with|some k=>μ[n]?=some (.GC [] [])/\Q (.loc n) (μ.set n (.GC [k] [e]))|none=>False)|_=>False
def an2 (d e:D) (μ:Mem) (Q:QD):Prop:=match(cC μ d).bind lX with|some is=>is.length<64/\(∃ i:Nat,μ[i]?=some .tbl)/\(match e with| .loc m=>(match μ[m]? with|some (.jZ ks ds)=>∃ g:Int->Int,(∀ z∈is,eX ks ds (.inl z)=some (.int (g z)))/\∀ is':List Int,is'.Perm is->(is'.Pairwise fun a b=>ltI [g b,b] [g a,a]=false)->Q (.lst (is'.map .int)) μ|_=>False)|_=>False)|none=>False
def an5 (d:D) (μ:Mem) (Q:QD):Prop:=match cC μ d with|some ds=>Q (.loc μ.length) (μ++[.jZ ((aU ds.length).map fun(n:Nat)=>pQ (n:Int)) ds])|none=>False
def amu (b:String) (n:Nat) (d e:D) (μ:Mem) (Q:QD):Prop:=if b="{}" then an7 n d e μ Q else if b="{t}" then an6 n d e μ Q else if b="ksort" then an2 d e μ Q else if b="dicten" then an5 d μ Q else Mj d e μ Q
def iZ {κ:Type} [DecidableEq κ] (ks:List κ) (k:κ):List κ:=if k∈ks then ks else ks++[k]
def lY {κ:Type} [DecidableEq κ] (ks:List κ) (ds:List D) (k:κ) (d:D):List D:=if k∈ks then adA (fun k' d'=>if k'=k then d else d') ks ds else ds++[d]
def Mi (x y:D) (μ:Mem) (Q:QD):Prop:=match x with
 | .loc n=>match μ[n]? with|some (.jZ ks ds)=>(match za y with|some k=>(match eX ks ds k with|some d=>Q d μ|none=>False)|none=>False)|some (.GC ks ds)=>(match y with| .tup es=>(match jV es with|some k=>(match eX ks ds k with|some d=>Q d μ|none=>False)|none=>False)|_=>False)|_=>False
 |_=>False
def Hw (x y v:D) (μ:Mem) (k:Mem->Prop):Prop:=match x with
 | .loc n=>match μ[n]? with|some (.jZ ks ds)=>(match za y with|some q=>ks.length<lim/\k (μ.set n (.jZ (iZ ks q) (lY ks ds q v)))|none=>False)|some (.GC ks ds)=>(match y with| .tup es=>(match jV es with|some q=>ks.length<lim/\k (μ.set n (.GC (iZ ks q) (lY ks ds q v)))|none=>False)|_=>False)|_=>False
 |_=>False
def ahx (μ:Mem):D->Option (List D)
 | .lst ds=>some ds| .loc n=>match μ[n]? with|some (.lst ds)=>some ds|_=>none
 |_=>none
def dG (μ:Mem) (c:String) (d:D):Option (Nat×List (String×D)):=match d with
 | .loc n=>match μ[n]? with|some (.ins c' fs)=>if c'=c then some (n,fs)else none|_=>none
 |_=>none
def bF (f:String):List (String×D)->Option D
 |[]=>none|(g,d)::r=>if g=f then some d else bF f r
def putD (f:String) (d:D):List (String×D)->List (String×D)
 |[]=>[(f,d)]|(g,e)::r=>if g=f then(g,d)::r else(g,e)::putD f d r
def iI (c f:String) (x:D) (μ:Mem) (Q:QD):Prop:=match dG μ c x with
 |some (_,fs)=>match bF f fs with|some d=>Q d μ|none=>False
 |none=>False
def lJ (c f:String) (x v:D) (μ:Mem) (k:Mem->Prop):Prop:=match dG μ c x with|some (n,fs)=>fs.length<1000/\k (μ.set n (.ins c (putD f v fs)))|none=>False
def iz (μ:Mem) (c m:String) (x:D):Prop:=match dG μ c x with|some (_,fs)=>bF m fs=none|none=>False
def Fi (op:jL) (p q:D) (k:D->Prop):Prop:=match p,q with
 | .int i,.int j=>match op with| .Add=>k (.int (i+j))| .Sub=>k (.int (i -j))|_=>False
 |_,_=>False
def wlT (μ:Mem):D->Option (List D)
 | .tup ds=>some ds|d=>ahx μ d
def isCell (μ:Mem):D->Bool
 | .loc n=>match μ[n]? with|some (.lst _)=>true|_=>false
 |_=>false
def bU (m:String) (n:Nat) (xs:List D) (ds:List D) (μ:Mem) (Q:QD):Prop:=
 match ds with
 |[]=>match m with
  |"pop"=>match xs[xs.length -1]? with|some d=>Q d (μ.set n (.lst xs.dropLast))|none=>False
  |_=>False
 |[d]=>match m with
  |"append"=>xs.length<lim/\Q .non (μ.set n (.lst (xs++[d])))|"extend"=>match wlT μ d with|some es=>xs.length+es.length<=lim/\Q .non (μ.set n (.lst (xs++es)))|none=>False
  |"pop"=>match d with| .int k=>(match oV xs.length k with|some p=>(match xs[p]? with|some e=>Q e (μ.set n (.lst (xs.eraseIdx p)))|none=>False)|none=>False)|_=>False
  |_=>False
 |[.int k,d]=>match m with|"insert"=>0<=k/\k<=xs.length/\xs.length<lim/\Q .non (μ.set n (.lst (xs.take k.toNat++d::xs.drop k.toNat)))|_=>False
 |_=>False
def dB (m:String) (o:D) (ds:List D) (μ:Mem) (Q:QD):Prop:=
 match o with
 | .loc n=>match μ[n]? with|some (.lst xs)=>bU m n xs ds μ Q|_=>False
 |_=>False
def zY:List D->Option (List (List Nat))
 |[]=>some []| .str x::ds=>(zY ds).map (x::·)|_::_=>none
def txM (m:String):Bool:=["join","split","partition","startswith"].contains m
def amZ:D->Bool
 | .str _=>true|_=>false
def acz (m:String) (t:List Nat) (c:Nat) (μ:Mem) (Q:QD):Prop:=match m with|"split"=>(c<256/\t.length<lim)/\∃ m:Bool,newL m ((cQ c t).map .str) μ Q|"partition"=>if c∈t then Q (.tup [.str (Lg c t),.str [c],.str (postC c t)]) μ else Q (.tup [.str t,.str [],.str []]) μ|"startswith"=>Q (.bl (t.head?==some c)) μ|_=>False
def Gp (m:String) (x:D) (es:List D) (μ:Mem) (Q:QD):Prop:=match x with| .str t=>(match es with|[.str [c]]=>acz m t c μ Q|[d]=>(match(cC μ d).bind zY with|some ws=>m="join"/\(ws.map dR).sum+ws.length*t.length<=lim/\Q (.str (dW t ws)) μ|none=>False)|_=>False)|_=>False
def Uq (μ:Mem):D->Bool
 | .lst _=>true| .loc n=>match μ[n]? with|some (.lst _)=>true|_=>false
 |_=>false
def ams (m:String) (ns:List Int) (k:Int) (μ:Mem) (Q:QD):Prop:=match m with|"index"=>k∈ns/\Q (.int (ns.idxOf k:Nat)) μ|"count"=>Q (.int (ns.count k:Nat)) μ|_=>False
def aoo (μ:Mem):D->Bool
 | .loc n=>match μ[n]? with|some (.jZ _ _)=>true|some (.GC _ _)=>true|_=>false
 |_=>false
def Lw (m:String) (μ:Mem) (d:D):Bool:=if m="get"∨m="pop"∨m="clear" then aoo μ d else if txM m=true then amZ d else Uq μ d
def an4 (x:D) (es:List D) (μ:Mem) (Q:QD):Prop:=match x with| .loc n=>(match μ[n]? with|some (.jZ ks ds)=>(match es with|[k,z]=>(match za k with|some q=>Q ((eX ks ds q).getD z) μ|none=>False)|_=>False)|some (.GC ks ds)=>(match es with|[.tup k]=>(match jV k with|some q=>Q ((eX ks ds q).getD .non) μ|none=>False)|_=>False)|_=>False)|_=>False
def an8 (x:D) (es:List D) (μ:Mem) (Q:QD):Prop:=match x with| .loc n=>(match μ[n]? with|some (.GC _ _)=>es=[]/\Q .non (μ.set n (.GC [] []))|_=>False)|_=>False
def Zx {κ:Type} [DecidableEq κ]:List κ->κ->List κ
 |k' ::ks,k=>if k'=k then Zx ks k else k' ::Zx ks k|[],_=>[]
def Zw {κ:Type} [DecidableEq κ]:List κ->List D->κ->List D
 |k' ::ks,d::ds,k=>if k'=k then Zw ks ds k else d::Zw ks ds k|_,_,_=>[]
def an3 (x:D) (es:List D) (μ:Mem) (Q:QD):Prop:=match x with| .loc n=>(match μ[n]? with|some (.jZ ks ds)=>(match es with|[k]=>(match za k with|some q=>(match eX ks ds q with|some d=>Q d (μ.set n (.jZ (Zx ks q) (Zw ks ds q)))|none=>False)|none=>False)|_=>False)|_=>False)|_=>False
def amt (x:D) (es:List D) (μ:Mem) (Q:QD):Prop:=∃ (r:List Itm) (y:Itm) (j:Nat),cC μ x=some (r.map aK)/\es=[aK y]/\r[j]?=some y/\(∀ m,m<j->r[m]?≠some y)/\Q (.int (j:Nat)) μ
def acA (m:String) (x:D) (es:List D) (μ:Mem) (Q:QD):Prop:=match(cC μ x).bind lX with|some ns=>(match es with|[.int k]=>ams m ns k μ Q|_=>False)|none=>m="index"/\amt x es μ Q
def wC (m:String) (x:D) (es:List D) (μ:Mem) (Q:QD):Prop:=if m="get" then an4 x es μ Q else if m="clear" then an8 x es μ Q else if m="pop" then an3 x es μ Q else if txM m=true then Gp m x es μ Q else acA m x es μ Q
def R7 (xs:List D) (μ:Mem) (Q:QD):Prop:=match xs with|[x]=>(match cC μ x with|some es=>∃ r:List Itm,es=r.map aK/\r≠[]/\∀ y,y∈r->(∀ z∈r,gM z y=false)->Q (aK y) μ|none=>False)|_=>False
def acB (x:D) (ds:List D) (μ:Mem) (Q:QD):Prop:=match x with
 | .loc n=>match μ[n]? with|some (.lst xs)=>∃ (r:List Itm) (y:Itm),xs=r.map aK/\ds=[aK y]/\y∈r/\Q .non (μ.set n (.lst ((r.erase y).map aK)))|_=>False
 |_=>False
def dM (x y:D) (μ:Mem) (Q:QD):Prop:=
 match x,y with
 | .str z,.int i=>match(oV z.length i).bind (z[·]?)with|some c=>Q (.str [c]) μ|none=>False
 |x,.int i=>match aB μ x with
  |some ds=>match(oV ds.length i).bind (ds[·]?)with|some d=>Q d μ|none=>False
  |none=>False
 |_,_=>False
def Gq (m:Bool) (x:D) (lo hi:Option Int) (μ:Mem) (Q:QD):Prop:=
 match x with
 | .lst ds=>newL m (cutD ds lo hi) μ Q| .str z=>((∀ i,lo=some i->0<=i)/\(∀ i,hi=some i->0<=i)/\kO z.length 0 lo<=kO z.length z.length hi)/\Q (.str (cutD z lo hi)) μ| .tup ds=>Q (.tup (cutD ds lo hi)) μ| .loc n=>match μ[n]? with|some (.lst ds)=>newL m (cutD ds lo hi) μ Q|_=>False
 |_=>False
def R8 (d:D) (μ:Mem) (Q:QD):Prop:=
 match d with
 | .loc n=>match μ[n]? with|some (.lst ds)=>Q (.lst ds) (μ.set n .gone)|_=>False
 |d=>Q d μ
def fU (d:D) (μ:Mem) (Q:Bool->Mem->Prop):Prop:=match truth μ d with|some b=>Q b μ|none=>False
def fV (d:D) (μ:Mem) (Q:Bool->Mem->Prop):Prop:=match d with| .bl b=>Q b μ|_=>False
def zR (d:D) (μ:Mem) (Q:Int->Mem->Prop):Prop:=match d with| .int i=>Q i μ|_=>False
noncomputable abbrev QI:=List D->(Mem->Prop)->Mem->Prop
def mz (d:D) (μ:Mem) (Q:QI):Prop:=
 match d with
 | .lst ds=>Q ds (fun _=>True) μ| .tup ds=>Q ds (fun _=>True) μ| .ro ds=>Q ds (fun _=>True) μ| .str x=>Q (chars x) (fun _=>True) μ| .loc n=>match μ[n]? with|some (.lst ds)=>Q ds (fun μ'=>μ'[n]?=some (.lst ds)) μ|_=>False
 |_=>False
def Cq (n:Nat) (ds:List D) (μ:Mem) (Q:QI):Prop:=
 match n,ds with
 |1,[.int j]=>j<=lim/\-(2 ^ 62)<=j/\Q (fj 0 j.toNat) (fun _=>True) μ|3,[.int i,.int j,.int c]=>(c≠0/\um i j c<=lim/\-(2 ^ 30)<i/\i<2 ^ 30/\-(2 ^ 30)<j/\j<2 ^ 30/\-(2 ^ 30)<c/\c<2 ^ 30)/\Q (xZ i c (um i j c).toNat) (fun _=>True) μ|2,[.int i,.int j]=>(j -i<=lim/\-(2 ^ 62)<=i/\i<2 ^ 62/\-(2 ^ 62)<=j/\j<2 ^ 62)/\Q (fj i (j -i).toNat) (fun _=>True) μ|_,_=>False
def oN (k:Nat):List D->List D
 |[]=>[]|d::ds=>.tup [.int (k:Int),d]::oN (k+1) ds
def R9 (x:D) (μ:Mem) (Q:QI):Prop:=match cC μ x with|some as=>Q (oN 0 as) (fun μ'=>cC μ' x=some as) μ|none=>False
def ahB (x:D) (μ:Mem) (Q:QI):Prop:=match cC μ x with|some as=>Q as.reverse (fun μ'=>cC μ' x=some as) μ|none=>False
def fB (is:List Nat) (tt:Bool) (d:D) (ρ:dH) (k:dH->Prop):Prop:=
 match tt with
 |false=>match is with|[i]=>k (ρ.set i (some d))|_=>False
 |true=>match d with| .tup ds=>ds.length=is.length/\k ((is.zip ds).foldl (fun r p=>r.set p.1 (some p.2)) ρ)|_=>False
def bindC (n:Nat) (tt:Bool) (d:D) (r:dH) (k:dH->Prop):Prop:=
 match tt with
 |false=>k (some d::r)|true=>match d with| .tup ds=>ds.length=n/\k (ds.map some++r)|_=>False
def iW (bnd:D->(dH->Prop)->Prop) (cw:dH->Mem->(Bool->Mem->Prop)->Prop) (ew:dH->Mem->QD->Prop) (g:Mem->Prop):List D->List D->Mem->(List D->Mem->Prop)->Prop
 |[],acc,μ,Q=>g μ/\Q acc μ|d::ds,acc,μ,Q=>g μ/\bnd d fun ρ=>cw ρ μ fun b μ1=>if b=true then ew ρ μ1 fun v μ2=>iW bnd cw ew g ds (acc++[v]) μ2 Q else iW bnd cw ew g ds acc μ1 Q
def m7:Es->Nat
 | .nil=>0| .cons _ es=>m7 es+1
def aoF (k1 k2 k3:List Nat) (x y z:D):Cell:=match k2 with|[]=>.jZ [.inr k1,.inr k3] [x,z]|c::k=>.jZ [.inr k1,.inr (c::k),.inr k3] [x,y,z]
mutual
@[reducible] noncomputable def wE:E->dH->Mem->QD->Prop
 | .var i,ρ,μ,Q=>match ρ[i]? with|some (some d)=>Q d μ|_=>False
 | .cst d,_,μ,Q=>Q d μ| .gbl _ d,_,μ,Q=>Q d μ| .bin op a b,ρ,μ,Q=>wE a ρ μ fun x μ1=>wE b ρ μ1 fun y μ2=>jC op x y μ2 Q
 | .neg a,ρ,μ,Q=>wE a ρ μ fun x μ1=>match x with| .int i=>Q (.int (-i)) μ1|_=>False
 | .not a,ρ,μ,Q=>wE a ρ μ fun x μ1=>fV x μ1 fun b μ2=>Q (.bl (!b)) μ2
 | .cmp op a b,ρ,μ,Q=>wE a ρ μ fun x μ1=>wE b ρ μ1 fun y μ2=>cP op x y μ2 Q
 | .RL n a b,ρ,μ,Q=>wE a ρ μ fun x μ1=>wE b ρ μ1 fun y μ2=>abb n x y μ2 Q
 | .chain p q a b c,ρ,μ,Q=>wE a ρ μ fun x μ1=>wE b ρ μ1 fun y μ2=>cP p x y μ2 fun r μ3=>fV r μ3 fun t μ3=>if t=true then wE c ρ μ3 fun z μ4=>cP q y z μ4 Q else Q (.bl false) μ3
 | .and a b,ρ,μ,Q=>wE a ρ μ fun x μ1=>fV x μ1 fun t μ2=>if t=true then wE b ρ μ2 Q else Q (.bl false) μ2
 | .or a b,ρ,μ,Q=>wE a ρ μ fun x μ1=>fV x μ1 fun t μ2=>if t=true then Q (.bl true) μ2 else wE b ρ μ2 Q
 | .ife c a b,ρ,μ,Q=>wT c ρ μ fun t μ1=>if t=true then wE a ρ μ1 Q else wE b ρ μ1 Q
 | .call _ sp as,ρ,μ,Q=>wEs as ρ μ fun ds μ1=>sp ds μ1 Q
 | .blt x as,ρ,μ,Q=>wEs as ρ μ fun ds μ1=>bQ x ds μ1 Q
 | .acj _ a b,ρ,μ,Q=>wE a ρ μ fun d μ1=>wE b ρ μ1 fun e μ2=>Mj d e μ2 Q
 | .isin a t,ρ,μ,Q=>wE a ρ μ fun d μ1=>tM t d μ1 Q
 | .isin a _ (some ks),ρ,μ,Q=>wE a ρ μ fun d μ1=>VG ks d μ1 Q
 | .meth m o as,ρ,μ,Q=>wE o ρ μ fun x μ1=>isCell μ1 x=true/\wEs as ρ μ1 fun ds μ2=>dB m x ds μ2 Q
 | .S5 m o as,ρ,μ,Q=>wE o ρ μ fun x μ1=>Lw m μ1 x=true/\wEs as ρ μ1 fun ds μ2=>wC m x ds μ2 Q
 | .rmv o as,ρ,μ,Q=>wE o ρ μ fun x μ1=>Uq μ1 x=true/\wEs as ρ μ1 fun ds μ2=>acB x ds μ2 Q
 | .abW as,ρ,μ,Q=>wEs as ρ μ fun ds μ1=>R7 ds μ1 Q
 | .dd3 k1 k2 k3 a b e,ρ,μ,Q=>wE a ρ (μ++[.jZ [] []]) fun x μ1=>wE b ρ μ1 fun y μ2=>wE e ρ μ2 fun z μ3=>μ3[μ.length]?=some (.jZ [] [])/\Q (.loc μ.length) (μ3.set μ.length (aoF k1 k2 k3 x y z))
 | .idx a b,ρ,μ,Q=>wE a ρ μ fun x μ1=>wE b ρ μ1 fun y μ2=>dM x y μ2 Q
 | .slc m a lo hi,ρ,μ,Q=>wE a ρ μ fun x μ1=>wO lo ρ μ1 fun l μ2=>wO hi ρ μ2 fun h μ3=>Gq m x l h μ3 Q
 | .tup as,ρ,μ,Q=>wEs as ρ μ fun ds μ1=>ds.length<=lim/\Q (.tup ds) μ1
 | .lst m as,ρ,μ,Q=>wEs as ρ μ fun ds μ1=>ds.length<=lim/\newL m ds μ1 Q
 | .comp m n tt cap elt it cond,ρ,μ,Q=>wI it ρ μ fun ds g μ1=>iW (fun d k=>bindC n tt d (cap.map fun i=>(ρ[i]?).join) k) (fun ρ' μ' Q'=>wTs cond ρ' μ' Q') (fun ρ' μ' Q'=>wE elt ρ' μ' Q') g ds [] μ1 fun vs μ2=>newL m vs μ2 Q
 | .Gh a,ρ,μ,Q=>wE a ρ μ fun d μ1=>R8 d μ1 Q
 | .ab5 t,_,μ,Q=>Q (.loc μ.length) (μ++[if t=true then .GC [] []else .jZ [] []])| .Zt o i,ρ,μ,Q=>wE o ρ μ fun x μ1=>wE i ρ μ1 fun y μ2=>Mi x y μ2 Q
 | .fld c f o,ρ,μ,Q=>wE o ρ μ fun x μ1=>iI c f x μ1 Q
 | .rW c m sp o as,ρ,μ,Q=>wE o ρ μ fun x μ1=>iz μ1 c m x/\wEs as ρ μ1 fun ds μ2=>sp (x::ds) μ2 Q
 | .mk c sp as,ρ,μ,Q=>wEs as ρ μ fun ds μ1=>sp (.loc μ1.length::ds) (μ1++[.ins c []]) fun v μ2=>v= .non/\Q (.loc μ1.length) μ2
@[reducible] noncomputable def wEs:Es->dH->Mem->(List D->Mem->Prop)->Prop
 | .nil,_,μ,Q=>Q [] μ| .cons e es,ρ,μ,Q=>wE e ρ μ fun d μ1=>wEs es ρ μ1 fun ds μ2=>Q (d::ds) μ2
noncomputable def wO:Es->dH->Mem->(Option Int->Mem->Prop)->Prop
 | .nil,_,μ,Q=>Q none μ| .cons e es,ρ,μ,Q=>wE e ρ μ fun d μ1=>match es with| .nil=>zR d μ1 fun i μ2=>Q (some i) μ2|_=>False
@[reducible] noncomputable def wT:E->dH->Mem->(Bool->Mem->Prop)->Prop
 | .not a,ρ,μ,Q=>wT a ρ μ fun b μ1=>Q (!b) μ1
 | .and a b,ρ,μ,Q=>wT a ρ μ fun t μ1=>if t=true then wT b ρ μ1 Q else Q false μ1
 | .or a b,ρ,μ,Q=>wT a ρ μ fun t μ1=>if t=true then Q true μ1 else wT b ρ μ1 Q
 | .var i,ρ,μ,Q=>match ρ[i]? with|some (some d)=>fU d μ Q|_=>False
 | .cst d,_,μ,Q=>fU d μ Q| .cmp op a b,ρ,μ,Q=>wE a ρ μ fun x μ1=>wE b ρ μ1 fun y μ2=>cP op x y μ2 fun r μ3=>fV r μ3 Q
 | .RL n a b,ρ,μ,Q=>wE a ρ μ fun x μ1=>wE b ρ μ1 fun y μ2=>abb n x y μ2 fun r μ3=>fV r μ3 Q
 | .chain p q a b c,ρ,μ,Q=>wE a ρ μ fun x μ1=>wE b ρ μ1 fun y μ2=>cP p x y μ2 fun r μ3=>fV r μ3 fun t μ3=>if t=true then wE c ρ μ3 fun z μ4=>cP q y z μ4 fun r μ5=>fV r μ5 Q else Q false μ3
 | .call _ sp as,ρ,μ,Q=>wEs as ρ μ fun ds μ1=>sp ds μ1 fun d μ2=>fU d μ2 Q
 | .rW c m sp o as,ρ,μ,Q=>wE o ρ μ fun x μ1=>iz μ1 c m x/\wEs as ρ μ1 fun ds μ2=>sp (x::ds) μ2 fun d μ3=>fU d μ3 Q
 | .fld c f o,ρ,μ,Q=>wE o ρ μ fun x μ1=>iI c f x μ1 fun d μ2=>fU d μ2 Q
 | .idx a b,ρ,μ,Q=>wE a ρ μ fun x μ1=>wE b ρ μ1 fun y μ2=>dM x y μ2 fun d μ3=>fU d μ3 Q
 | .blt x as,ρ,μ,Q=>wEs as ρ μ fun ds μ1=>bQ x ds μ1 fun d μ2=>fU d μ2 Q
 | .S5 m o as,ρ,μ,Q=>wE o ρ μ fun x μ1=>Lw m μ1 x=true/\wEs as ρ μ1 fun ds μ2=>wC m x ds μ2 fun d μ3=>fU d μ3 Q
 | .isin a t,ρ,μ,Q=>wE a ρ μ fun d μ1=>tM t d μ1 fun r μ2=>fV r μ2 Q
 | .isin a _ (some ks),ρ,μ,Q=>wE a ρ μ fun d μ1=>VG ks d μ1 fun r μ2=>fV r μ2 Q
 |_,_,_,_=>False
@[reducible] noncomputable def wTs:Es->dH->Mem->(Bool->Mem->Prop)->Prop
 | .nil,_,μ,Q=>Q true μ| .cons e es,ρ,μ,Q=>wT e ρ μ fun b μ1=>match es with| .nil=>Q b μ1|_=>False
@[reducible] noncomputable def wI:It->dH->Mem->QI->Prop
 | .seq e,ρ,μ,Q=>wE e ρ μ fun d μ1=>mz d μ1 Q
 | .rng as,ρ,μ,Q=>wEs as ρ μ fun ds μ1=>Cq (m7 as) ds μ1 Q
 | .enum a,ρ,μ,Q=>wE a ρ μ fun x μ1=>R9 x μ1 Q
 | .rvd a,ρ,μ,Q=>wE a ρ μ fun x μ1=>ahB x μ1 Q
end
structure j6 where
 nx:dH->Mem->Prop
 rt:QD
 bk:dH->Mem->Prop:=fun _ _=>False
 ct:dH->Mem->Prop:=fun _ _=>False
 xc:dH->QX:=fun _ _ _ _ _=>False
def Fg (bnd:D->dH->(dH->Prop)->Prop) (bw:j6->dH->Mem->Prop) (g:Mem->Prop) (Z:j6):List D->dH->Mem->Prop
 |[],ρ,μ=>g μ/\Z.nx ρ μ|d::ds,ρ,μ=>g μ/\bnd d ρ fun ρ'=>bw {Z with nx:=Fg bnd bw g Z ds,ct:=Fg bnd bw g Z ds,bk:=Z.nx} ρ' μ
def q9 (o i v:D) (μ:Mem) (k:Mem->Prop):Prop:=
 match o,i with
 | .loc n,.int j=>match μ[n]? with
  |some (.lst xs)=>match oV xs.length j with|some p=>k (μ.set n (.lst (xs.set p v)))|none=>False
  |_=>False
 |_,_=>False
def Z7 (x y:D) (μ:Mem) (Q:QD):Prop:=match x,y with| .loc n,.int j=>(match μ[n]? with|some (.lst xs)=>0<=j/\(match xs[j.toNat]? with|some d=>Q d μ|none=>False)|_=>False)|_,_=>False
@[reducible] noncomputable def wXC:XC->(dH->QX)->dH->Mem->QD->Prop
 | .dsp _ ks sp i as,X,ρ,μ,Q=>wE i ρ μ fun d μ1=>isKey ks d/\wEs as ρ μ1 fun ds μ2=>sp (d::ds) μ2 Q (X ρ)
mutual
@[reducible] noncomputable def wS:S->j6->dH->Mem->Prop
 | .set i e,Z,ρ,μ=>wE e ρ μ fun d μ1=>Z.nx (ρ.set i (some d)) μ1
 | .Tj is e,Z,ρ,μ=>wE e ρ μ fun d μ1=>fB is true d ρ fun ρ'=>Z.nx ρ' μ1
 | .dput o i e,Z,ρ,μ=>wE e ρ μ fun v μ1=>wE o ρ μ1 fun x μ2=>wE i ρ μ2 fun y μ3=>Hw x y v μ3 fun μ4=>Z.nx ρ μ4
 | .Nu op o i e,Z,ρ,μ=>wE o ρ μ fun x μ1=>wE i ρ μ1 fun y μ2=>Z7 x y μ2 fun p μ3=>wE e ρ μ3 fun q μ4=>Fi op p q fun v=>q9 x y v μ4 fun μ5=>Z.nx ρ μ5
 | .Ih o i e,Z,ρ,μ=>wE e ρ μ fun v μ1=>wE o ρ μ1 fun x μ2=>wE i ρ μ2 fun y μ3=>q9 x y v μ3 fun μ4=>Z.nx ρ μ4
 | .exp e,Z,ρ,μ=>wE e ρ μ fun _ μ1=>Z.nx ρ μ1
 | .ret e,Z,ρ,μ=>wE e ρ μ Z.rt| .ite c a b,Z,ρ,μ=>wT c ρ μ fun t μ1=>if t=true then wSs a Z ρ μ1 else wSs b Z ρ μ1
 | .for_ tg tt it b,Z,ρ,μ=>wI it ρ μ fun ds g μ1=>Fg (fun d r k=>fB tg tt d r k) (fun Z' r m=>wSs b Z' r m) g Z ds ρ μ1
 | .whl c b,Z,ρ,μ=>∃ W:Nat->dH->Mem->Prop,(∃ m,W m ρ μ)/\∀ m ρ μ,W m ρ μ->wT c ρ μ fun t μ1=>if t=true then wSs b {Z with nx:=fun ρ' μ'=>∃ m',m' <m/\W m' ρ' μ',ct:=fun ρ' μ'=>∃ m',m' <m/\W m' ρ' μ',bk:=Z.nx} ρ μ1 else Z.nx ρ μ1
 | .qt c f o e,Z,ρ,μ=>wE e ρ μ fun v μ1=>wE o ρ μ1 fun x μ2=>lJ c f x v μ2 fun μ3=>Z.nx ρ μ3
 | .aco c f op o e,Z,ρ,μ=>wE o ρ μ fun x μ1=>iI c f x μ1 fun p μ1'=>wE e ρ μ1' fun q μ2=>Fi op p q fun v=>lJ c f x v μ2 fun μ3=>Z.nx ρ μ3
 | .Y4,_,_,_=>False| .abt c,Z,ρ,μ=>wXC c Z.xc ρ μ Z.rt| .abh _ _ _ b _,Z,ρ,μ=>wSs b {Z with xc:=fun _ _ _ _ _=>False} ρ μ
@[reducible] noncomputable def wSs:Ss->j6->dH->Mem->Prop
 | .nil,Z,ρ,μ=>Z.nx ρ μ| .cons s r,Z,ρ,μ=>wS s {Z with nx:=fun ρ' μ'=>wSs r Z ρ' μ' } ρ μ
end
end DW
namespace DW
open PySem PySem.Spec PyProof.Rows
open L2 (aP Key frs wz Loc Look Mod tL)
structure Top where
 P:aZ
 w:aQ
 K:aV
 mg:Str->Option Value
 base:Heap
def keyOf:iH->Key
 | .inl i=>.inl i| .inr x=>.inr ⟨x.toArray⟩
def kD:iH->D
 | .inl i=>.int i| .inr x=>.str x
structure Th where
 cs:List (Addr×Addr)
 ex:List Addr
def Th.snoc (θ:Th) (p:Addr×Addr):Th:=⟨θ.cs++[p],θ.ex⟩
def pN (θ:Th) (μ:Mem) (a:Addr):Prop:=∃ (n:Nat) (p:Addr×Addr) (c:Cell),θ.cs[n]?=some p/\μ[n]?=some c/\c≠.gone/\(a=p.1∨a=p.2)
def Mh (θ:Th) (μ:Mem) (a:Addr):Prop:=a∈θ.ex∨pN θ μ a
def j8 (h:Heap):Nat->Addr->List Value->Prop
 |0,a,us=>us.length<=sizeLine/\∃ o n,h.get? a=some o/\o.cls= .type "tuple"/\o.data= .seq us.toArray n/\o.dict=none|1,a,us=>us.length<=sizeLine/\∃ n,h.get? a=some {cls:=.type "list",data:=.seq us.toArray n}|_,a,us=>us.length<=sizeLine/\Iu h a us.toArray
section
variable (h:Heap) (θ:Th) (μ:Mem)
mutual
noncomputable def Rp:D->Value->Prop
 | .non,u=>u= .none| .bl b,u=>u= .bool b| .int i,u=>∃ t,u= .int i t| .str x,u=>(∃ t,u= .str ⟨x.toArray⟩ t)/\x.length<=sizeLine| .tup ds,u=>∃ a us,u= .ref a/\j8 h 0 a us/\¬Mh θ μ a/\dh ds us| .lst ds,u=>∃ a us,u= .ref a/\j8 h 1 a us/\¬Mh θ μ a/\dh ds us| .ro ds,u=>∃ a us,u= .ref a/\j8 h 2 a us/\¬Mh θ μ a/\dh ds us| .loc n,u=>∃ p,u= .ref p.1/\θ.cs[n]?=some p| .jZ _ _,_=>False
noncomputable def dh:List D->List Value->Prop
 |[],us=>us=[]|d::ds,us=>∃ u r,us=u::r/\Rp d u/\dh ds r
end
end
def Fix (o:Obj):Prop:=(∃ xs n,o.data= .seq xs n)∨(o.cls= .type "code"/\∃ vs,o.data= .fields vs)
structure Kp (θ:Th) (μ:Mem) (h:Heap) (θ':Th) (μ':Mem) (h':Heap):Prop where
 pre:∀ (n:Nat) (p:Addr×Addr),θ.cs[n]?=some p->θ'.cs[n]?=some p
 fix:∀ b o,h.get? b=some o->Fix o->¬Mh θ μ b->h'.get? b=some o/\¬Mh θ' μ' b
section
variable {h h' h'':Heap} {θ θ' θ'':Th} {μ μ' NK:Mem} {a:Addr} {us vs:List Value} {d:D} {ds es:List D} {u v:Value} {k n:Nat} {p:Addr×Addr} {c:Cell}
theorem j8.fix (x:j8 h k a us):us.length<=sizeLine/\∃ o,h.get? a=some o/\Fix o:=by
 match k,x with
 |0,⟨l,o,n,e,_,d,_⟩=>exact⟨l,o,e,.inl ⟨_,_,d⟩⟩|1,⟨l,n,e⟩=>exact⟨l,_,e,.inl ⟨_,_,rfl⟩⟩|_+2,⟨l,o,n,e,_,_,d⟩=>exact⟨l,o,e,.inl ⟨_,_,d⟩⟩
theorem j8.mono (x:j8 h k a us) (f:∀ o,h.get? a=some o->Fix o->h'.get? a=some o):j8 h' k a us:=by
 match k,x with
 |0,⟨l,o,n,e,c,d,z⟩=>exact⟨l,o,n,f o e (.inl ⟨_,_,d⟩),c,d,z⟩|1,⟨l,n,e⟩=>exact⟨l,n,f _ e (.inl ⟨_,_,rfl⟩)⟩|_+2,⟨l,o,n,e,c,z,d⟩=>exact⟨l,o,n,f o e (.inl ⟨_,_,d⟩),c,z,d⟩
theorem Kp.sq (g:Kp θ μ h θ' μ' h') (x:j8 h k a us) (l:¬Mh θ μ a):j8 h' k a us/\¬Mh θ' μ' a:=
 ⟨x.mono fun o e f=>(g.fix a o e f l).1,let⟨_,o,e,f⟩:=x.fix;(g.fix a o e f l).2⟩
mutual
theorem Kp.rp (g:Kp θ μ h θ' μ' h'):∀ {d:D} {u:Value},Rp h θ μ d u->Rp h' θ' μ' d u
 | .non,_,r=>r| .bl _,_,r=>r| .int _,_,r=>r| .str _,_,r=>r| .tup _,_,⟨a,us,e,x,l,r⟩=>⟨a,us,e,(g.sq x l).1,(g.sq x l).2,g.Gr r⟩| .lst _,_,⟨a,us,e,x,l,r⟩=>⟨a,us,e,(g.sq x l).1,(g.sq x l).2,g.Gr r⟩| .ro _,_,⟨a,us,e,x,l,r⟩=>⟨a,us,e,(g.sq x l).1,(g.sq x l).2,g.Gr r⟩| .loc _,_,⟨p,e,x⟩=>⟨p,e,g.pre _ p x⟩| .jZ _ _,_,r=>r.elim
theorem Kp.Gr (g:Kp θ μ h θ' μ' h'):∀ {ds:List D} {us:List Value},dh h θ μ ds us->dh h' θ' μ' ds us
 |[],_,r=>r|_::_,_,⟨u,r,e,x,y⟩=>⟨u,r,e,g.rp x,g.Gr y⟩
end
theorem Kp.refl:Kp θ μ h θ μ h:=⟨fun _ _ e=>e,fun _ _ e _ l=>⟨e,l⟩⟩
theorem Kp.trans (g:Kp θ μ h θ' μ' h') (g':Kp θ' μ' h' θ'' NK h''):Kp θ μ h θ'' NK h'' :=
 ⟨fun n p e=>g'.pre n p (g.pre n p e),fun b o e f l=>let⟨x,y⟩:=g.fix b o e f l;g'.fix b o x f y⟩
theorem dh.nil:dh h θ μ [] []:=rfl
theorem dh.cons (x:Rp h θ μ d u) (r:dh h θ μ ds us):dh h θ μ (d::ds) (u::us):=⟨u,us,rfl,x,r⟩
theorem dh.one (x:Rp h θ μ d u):dh h θ μ [d] [u]:=dh.cons x dh.nil
theorem dh.length:∀ {ds:List D} {us:List Value},dh h θ μ ds us->us.length=ds.length
 |[],_,r=>by cases(show _=[]from r);rfl
 |_::_,_,⟨u,r,e,_,y⟩=>by rw[e,bh,y.length,bh]
theorem dh.get:∀ {ds:List D} {us:List Value} {i:Nat} {d:D},dh h θ μ ds us->ds[i]?=some d->∃ u,us[i]?=some u/\Rp h θ μ d u
 |_::_,_,0,_,⟨u,r,e,x,_⟩,q=>by cases q;exact⟨u,by rw[e];rfl,x⟩
 |_::_,_,i+1,_,⟨u,r,e,_,y⟩,q=>by rw[e];exact y.get (i:=i) q|[],_,_,_,_,q=>by simp at q
theorem dh.append:∀ {ds es:List D} {us vs:List Value},dh h θ μ ds us->dh h θ μ es vs->dh h θ μ (ds++es) (us++vs)
 |[],_,_,_,r,k=>by cases(show _=[]from r);exact k
 |_::_,_,_,_,⟨u,r,e,x,y⟩,k=>by rw[e];exact⟨u,_,rfl,x,y.append k⟩
theorem dh.take:∀ {ds:List D} {us:List Value} (n:Nat),dh h θ μ ds us->dh h θ μ (ds.take n) (us.take n)
 |_,_,0,_=>rfl|[],_,_+1,r=>by cases(show _=[]from r);rfl
 |_::_,_,n+1,⟨u,r,e,x,y⟩=>by rw[e];exact⟨u,_,rfl,x,y.take n⟩
theorem dh.drop:∀ {ds:List D} {us:List Value} (n:Nat),dh h θ μ ds us->dh h θ μ (ds.drop n) (us.drop n)
 |_,_,0,r=>r|[],_,_+1,r=>by cases(show _=[]from r);rfl
 |_::_,_,n+1,⟨u,r,e,x,y⟩=>by rw[e];exact y.drop n
theorem dh.set (z:Rp h θ μ d v):∀ {ds:List D} {us:List Value} (n:Nat),dh h θ μ ds us->dh h θ μ (ds.set n d) (us.set n v)
 |[],_,_,r=>by cases(show _=[]from r);rfl
 |_::_,_,0,⟨u,r,e,_,y⟩=>by rw[e];exact⟨v,r,rfl,z,y⟩|_::_,_,n+1,⟨u,r,e,x,y⟩=>by rw[e];exact⟨u,_,rfl,x,y.set z n⟩
theorem dh.reverse:∀ {ds:List D} {us:List Value},dh h θ μ ds us->dh h θ μ ds.reverse us.reverse
 |[],_,r=>by cases(show _=[]from r);rfl
 |_::_,_,⟨u,r,e,x,y⟩=>by rw[e,Jr,Jr];exact y.reverse.append (.one x)
theorem dh.nil_inv (r:dh h θ μ [] us):us=[]:=r
theorem dh.jl (r:dh h θ μ [d] us):∃ u,us=[u]/\Rp h θ μ d u:=by obtain⟨u,_,e,x,rfl⟩:=r;exact⟨u,e,x⟩
theorem dh.zU {d':D} (r:dh h θ μ [d,d'] us):∃ u u',us=[u,u']/\Rp h θ μ d u/\Rp h θ μ d' u':=by obtain⟨u,_,rfl,x,y⟩:=r;obtain⟨v,rfl,z⟩:=y.jl;exact⟨u,v,rfl,x,z⟩
def acq (h:Heap) (θ:Th) (μ:Mem) (fs:List (String×D)) (dx:Addr):Prop:=
 ∃ mA,h.Ns1 dx mA/\(∀ f d,bF f fs=some d->∃ u,mA (aD f)=some u/\Rp h θ μ d u)/\Pj mA (fs.map fun p=>aD p.1)
def K9 (T:Top) (h:Heap) (θ:Th) (μ:Mem) (a:Addr) (ks:List (List iH)) (ds:List D):Prop:=
 ∃ xs:List (List Key×Addr×Value),(∃ o es ep,h.get? a=some o/\o.ExactDict/\o.data= .dict es ep/\es.toList=xs.map (entryOfKey (I6 (aP T.P T.w)))/\(xs.map (·.1)).Nodup)/\
  xs.length<=sizeLine/\(a==kW)=false/\dh h θ μ (ks.map fun k=>.tup (k.map kD)) (xs.map fun x=>.ref x.2.1)/\xs.map (·.1)=ks.map (·.map keyOf)/\dh h θ μ ds (xs.map (·.2.2))
def Vy (T:Top) (h:Heap) (θ:Th) (μ:Mem) (a:Addr) (ks:List iH) (ds:List D):Prop:=
 ∃ kvs:List (Key×Value),h.DictOf (aP T.P T.w) a kvs/\kvs.length<=sizeLine/\(a==kW)=false/\kvs.map (·.1)=ks.map keyOf/\dh h θ μ ds (kvs.map (·.2))
def aly:Str:="shortest"
def aol:Str:="shortest"++".<locals>."++"<lambda>"
def oU (T:Top) (h:Heap) (θ:Th) (μ:Mem) (p:Addr×Addr):Cell->Prop
 | .lst ds=>∃ us,j8 h 1 p.1 us/\dh h θ μ ds us/\p.2=p.1| .ins c fs=>∃ C,bI T.K aM (aD c)=some (some (.ref C))/\h.get? p.1=some (uq C p.2)/\p.2≠p.1/\fs.length<=1000/\acq h θ μ fs p.2| .jZ ks ds=>Vy T h θ μ p.1 ks ds/\p.2=p.1| .GC ks ds=>K9 T h θ μ p.1 ks ds/\p.2=p.1| .exc c ks ds=>∃ C o vs,bI T.K aM (aD c)=some (some (.ref C))/\h.get? p.1=some o/\o.cls= .ref C/\PySem.W.notCls o=true/\o.data= .fields vs/\vs[2]?=some .none/\
   ks.length=ds.length/\((ks=[]/\o.dict=none/\p.2=p.1)∨(ks≠[]/\o.dict=some p.2/\p.2≠p.1/\acq h θ μ (ks.zip ds) p.2))
 | .gone=>True| .tbl=>∃ (tc:Addr) (ps:Array Value),PySem.W.tabIn T.K aly=some (tc,p.1)/\p.2=p.1/\h.get? p.1=some {cls:=.none,data:=.fields ps}/\TriplesOk ps.toList/\
   ∀ pos cv,codeAmong pos ps.toList=some cv->∃ b oc vs tq,cv= .ref b/\h.get? b=some oc/\¬Mh θ μ b/\oc.cls= .type "code"/\oc.data= .fields vs/\vs[1]?=some (.str aol tq)
structure pL (T:Top) (θ:Th) (μ:Mem) (h:Heap):Prop where
 len:θ.cs.length=μ.length
 exc:∀ a∈θ.ex,¬pN θ μ a
 inj:∀ (m n:Nat) (p q:Addr×Addr) (c d:Cell) (a:Addr),θ.cs[m]?=some p->θ.cs[n]?=some q->μ[m]?=some c->μ[n]?=some d->c≠.gone->d≠.gone->(a=p.1∨a=p.2)->(a=q.1∨a=q.2)->m=n
 bnd:∀ a,Mh θ μ a->∃ o,h.get? a=some o
 cell:∀ (n:Nat) (c:Cell) (p:Addr×Addr),μ[n]?=some c->θ.cs[n]?=some p->oU T h θ μ p c
variable {T:Top}
theorem acq.mono {fs:List (String×D)} (g:Kp θ μ h θ' μ' h') (x:acq h θ μ fs a) (e:∀ o,h.get? a=some o->h'.get? a=some o):acq h' θ' μ' fs a:=
 let⟨mA,n,f,w⟩:=x
 ⟨mA,n.at e,fun y d q=>let⟨u,r,t⟩:=f y d q;⟨u,r,g.rp t⟩,w⟩
theorem Vy.mono {ks:List iH} (g:Kp θ μ h θ' μ' h') (x:Vy T h θ μ a ks ds) (e:∀ o,h.get? a=some o->h'.get? a=some o):Vy T h' θ' μ' a ks ds:=
 let⟨kvs,⟨o,es,ep,e1,r⟩,l,y,k,z⟩:=x
 ⟨kvs,⟨o,es,ep,e o e1,r⟩,l,y,k,g.Gr z⟩
theorem K9.mono {ks:List (List iH)} (g:Kp θ μ h θ' μ' h') (x:K9 T h θ μ a ks ds) (e:∀ o,h.get? a=some o->h'.get? a=some o):K9 T h' θ' μ' a ks ds:=
 let⟨xs,⟨o,es,ep,e1,r⟩,l,y,t,k,z⟩:=x
 ⟨xs,⟨o,es,ep,e o e1,r⟩,l,y,g.Gr t,k,g.Gr z⟩
theorem oU.mono (g:Kp θ μ h θ' μ' h') (e:∀ b o,(b=p.1∨b=p.2)->h.get? b=some o->h'.get? b=some o) (x:oU T h θ μ p c):oU T h' θ' μ' p c:=by
 have e1:=fun o=>e p.1 o (.inl rfl);have e2:=fun o=>e p.2 o (.inr rfl);cases c with
 |lst ds=>exact let⟨us,y,r,z⟩:=x;⟨us,y.mono fun o q _=>e1 o q,g.Gr r,z⟩|ins c fs=>exact let⟨C,y,q,r,l,f⟩:=x;⟨C,y,e1 _ q,r,l,f.mono g e2⟩|jZ ks ds=>exact⟨x.1.mono g e1,x.2⟩|GC ks ds=>exact⟨x.1.mono g e1,x.2⟩|exc c ks ds=>obtain⟨C,o,vs,y,q,r1,r2,r3,r4,r5,f⟩:=x;exact⟨C,o,vs,y,e1 _ q,r1,r2,r3,r4,r5,f.imp id fun⟨f1,f2,f3,f4⟩=>⟨f1,f2,f3,f4.mono g e2⟩⟩|gone=>trivial|tbl=>obtain⟨tc,ps,y,q,r,t,f⟩:=x;refine⟨tc,ps,y,q,e1 _ r,t,fun pos cv z=>?_⟩;obtain⟨b,oc,vs,tq,f1,f2,f3,f6,f4,f5⟩:=f pos cv z;obtain⟨f2',f3'⟩:=g.fix b oc f2 (.inr ⟨f6,_,f4⟩) f3;exact⟨b,oc,vs,tq,f1,f2',f3',f6,f4,f5⟩
theorem pL.TF (w:pL T θ μ h) (hp:h.objs.size<=a):¬Mh θ μ a:=fun l=>let⟨_,q⟩:=w.bnd a l;absurd (f9 (bW q) hp) (jg _)
theorem pL.at (w:pL T θ μ h) (hn:μ[n]?=some c):∃ p,θ.cs[n]?=some p/\oU T h θ μ p c:=by have h1:=(bT.mp hn).1;rw[<-w.len]at h1;have e:=dw h1;exact⟨_,e,w.cell n c _ hn e⟩
theorem pL.mono (w:pL T θ μ h) (g:Kp θ μ h θ μ h') (lv:∀ b o,pN θ μ b->h.get? b=some o->h'.get? b=some o) (hx:∀ b∈θ.ex,∃ o,h'.get? b=some o):pL T θ μ h' where
 len:=w.len
 exc:=w.exc
 inj:=w.inj
 bnd:=fun a l=>l.elim (hx a) fun l=>let⟨o,q⟩:=w.bnd a (.inr l);⟨o,lv a o l q⟩
 cell:=fun n c p e k=>by
  by_cases hg:c= .gone
  .subst hg;trivial
  .exact(w.cell n c p e k).mono g fun b o z q=>lv b o ⟨n,p,c,k,e,hg,z⟩ q
theorem jU (k:∀ b o,h.get? b=some o->h'.get? b=some o):Kp θ μ h θ μ h':=⟨fun _ _ e=>e,fun b o e _ l=>⟨k b o e,l⟩⟩
theorem pL.kept (w:pL T θ μ h) (k:∀ b o,h.get? b=some o->h'.get? b=some o):pL T θ μ h':=w.mono (jU k) (fun b o _ q=>k b o q) fun b z=>let⟨o,q⟩:=w.bnd b (.inl z);⟨o,k b o q⟩
theorem jA {α:Type} {l:List α} {x y:α} (h:l[n]?=some y):(l++[x])[n]?=some y:=by rw[dU (bT.mp h).1];exact h
theorem jX {α:Type} {l:List α} {x y:α} (h:(l++[x])[n]?=some y):l[n]?=some y∨(n=l.length/\x=y):=by
 rcases Dn n l.length with hn|hn
 .exact .inl (by rwa[dU hn]at h)
 .rw[nQ hn]at h
  have z:=(bT.mp h).1;simp only[List.length_singleton]at z;have e:n=l.length:=by lia
  subst e;exact .inr ⟨rfl,by simpa using h⟩
theorem Bf (w:pL T θ μ h) (l:¬pN θ μ a) (h1:a≠p.1) (h2:a≠p.2):¬pN (θ.snoc p) (μ++[c]) a:=fun⟨m,q,c',e,k,g,z⟩=>by
 rcases jX e with e|⟨_,rfl⟩
 .rcases jX k with k|⟨k,_⟩
  .exact l ⟨m,q,c',e,k,g,z⟩
  .have:=(bT.mp e).1
   rw[w.len,k]at this;exact absurd this (jg _)
 .exact z.elim h1 h2
theorem aiz (w:pL T θ μ h) (l:¬Mh θ μ a) (h1:a≠p.1) (h2:a≠p.2):¬Mh (θ.snoc p) (μ++[c]) a:=fun z=>z.elim (fun z=>l (.inl z)) (Bf w (fun z=>l (.inr z)) h1 h2)
theorem agh (w:pL T θ μ h) (k:∀ b o,h.get? b=some o->h'.get? b=some o) (h1:h.objs.size<=p.1) (h2:h.objs.size<=p.2):Kp θ μ h (θ.snoc p) (μ++[c]) h' :=
 ⟨fun _ _ e=>jA e,fun b o e _ l=>⟨k b o e,aiz w l (jf (f9 (bW e) h1)) (jf (f9 (bW e) h2))⟩⟩
theorem pL.add {ex:List Addr} (w:pL T θ μ h) (kp:Kp θ μ h ⟨θ.cs++[p],ex⟩ (μ++[c]) h') (n1:¬pN θ μ p.1) (n2:¬pN θ μ p.2) (k:∀ b o,pN θ μ b->h.get? b=some o->h'.get? b=some o)
  (hx:∀ b∈ex,(∃ o,h'.get? b=some o)/\¬pN θ μ b/\b≠p.1/\b≠p.2) (th:∀ a,(a=p.1∨a=p.2)->∃ o,h'.get? a=some o) (hc:oU T h' ⟨θ.cs++[p],ex⟩ (μ++[c]) p c):pL T ⟨θ.cs++[p],ex⟩ (μ++[c]) h':=by
 have lt:∀ {m:Nat} {q:Addr×Addr} {d:Cell},θ.cs[m]?=some q->(μ++[c])[m]?=some d->μ[m]?=some d:=fun {m q d} e k=>by
  rcases jX k with k|⟨k,_⟩
  .exact k
  .have:=(bT.mp e).1
   rw[w.len,k]at this;exact absurd this (jg _)
 have no:∀ {a:Addr} {m:Nat} {q:Addr×Addr} {d:Cell},θ.cs[m]?=some q->(μ++[c])[m]?=some d->d≠.gone->(a=q.1∨a=q.2)->¬(a=p.1∨a=p.2):=fun {a m q d} e k n z x=>by
  rcases x with rfl|rfl
  .exact n1 ⟨m,q,d,e,lt e k,n,z⟩
  .exact n2 ⟨m,q,d,e,lt e k,n,z⟩
 have old:∀ {a},pN ⟨θ.cs++[p],ex⟩ (μ++[c]) a->pN θ μ a∨a=p.1∨a=p.2:=fun⟨m,q,d,e,f,n,z⟩=>by
  rcases jX e with e|⟨_,rfl⟩
  .exact .inl ⟨m,q,d,e,lt e f,n,z⟩
  .exact .inr z
 refine⟨by simp[w.len],fun a z l=>(old l).elim (hx a z).2.1 fun y=>y.elim (hx a z).2.2.1 (hx a z).2.2.2,fun m n q r c1 c2 a e f k1 k2 n1 n2 z y=>?_,fun a l=>l.elim (fun z=>(hx a z).1) fun l=>(old l).elim (fun l=>let⟨o,x⟩:=w.bnd a (.inr l);⟨o,k a o l x⟩) (th a),fun n c' q e f=>?_⟩
 .rcases jX e with e1|⟨e1,rfl⟩
  .rcases jX f with f1|⟨f1,rfl⟩
   .exact w.inj m n q r c1 c2 a e1 f1 (lt e1 k1) (lt f1 k2) n1 n2 z y
   .exact(no e1 k1 n1 z y).elim
  .rcases jX f with f1|⟨f1,_⟩
   .exact(no f1 k2 n2 y z).elim
   .rw[e1,f1]
 .rcases jX f with f1|⟨f1,rfl⟩
  .have e1:=lt f1 e
   by_cases g:c' = .gone
   .subst g;trivial
   .exact(w.cell n c' q e1 f1).mono kp fun b o z x=>k b o ⟨n,q,c',f1,e1,g,z⟩ x
  .rcases jX e with e1|⟨_,rfl⟩
   .have:=(bT.mp e1).1
    rw[f1,w.len]at this;exact absurd this (jg _)
   .exact hc
theorem pL.new (w:pL T θ μ h) (k:∀ b o,h.get? b=some o->h'.get? b=some o) (h1:h.objs.size<=p.1) (h2:h.objs.size<=p.2) (th:∀ a,(a=p.1∨a=p.2)->∃ o,h'.get? a=some o)
  (hc:oU T h' (θ.snoc p) (μ++[c]) p c):pL T (θ.snoc p) (μ++[c]) h' :=
 w.add (agh w k h1 h2) (fun l=>w.TF h1 (.inr l)) (fun l=>w.TF h2 (.inr l)) (fun b o _ e=>k b o e) (fun b z=>⟨let⟨o,x⟩:=w.bnd b (.inl z);⟨o,k b o x⟩,w.exc b z,fun y=>w.TF h1 (.inl (y▸z)),fun y=>w.TF h2 (.inl (y▸z))⟩) th hc
theorem pL.ex {ex:List Addr} (w:pL T θ μ h) (kp:Kp θ μ h ⟨θ.cs,ex⟩ μ h') (k:∀ b o,pN θ μ b->h.get? b=some o->h'.get? b=some o) (hx:∀ b∈ex,(∃ o,h'.get? b=some o)/\¬pN θ μ b):pL T ⟨θ.cs,ex⟩ μ h' where
 len:=w.len
 exc:=fun a z=>(hx a z).2
 inj:=w.inj
 bnd:=fun a l=>l.elim (fun z=>(hx a z).1) fun l=>let⟨o,x⟩:=w.bnd a (.inr l);⟨o,k a o l x⟩
 cell:=fun n c q e f=>by
  by_cases g:c= .gone
  .subst g;trivial
  .exact(w.cell n c q e f).mono kp fun b o z x=>k b o ⟨n,q,c,f,e,g,z⟩ x
theorem Q6 {c':Cell} (hn:μ[n]?=some c) (h1:c≠.gone) (x:pN θ (μ.set n c') a):pN θ μ a:=by
 obtain⟨m,q,b,e,k,g,z⟩:=x;by_cases y:m=n
 .subst y;exact⟨m,q,c,e,hn,h1,z⟩
 .rw[cU (bL y)]at k;exact⟨m,q,b,e,k,g,z⟩
theorem aaC {c':Cell} (hn:μ[n]?=some c) (h1:c≠.gone) (x:Mh θ (μ.set n c') a):Mh θ μ a:=x.imp id (Q6 hn h1)
theorem yZ {c':Cell} (hn:μ[n]?=some c) (hp:θ.cs[n]?=some p) (h1:c≠.gone) (k:∀ b o,¬(b=p.1∨b=p.2)->h.get? b=some o->h'.get? b=some o):Kp θ μ h θ (μ.set n c') h' :=
 ⟨fun _ _ e=>e,fun b o e _ l=>⟨k b o (fun z=>l (.inr ⟨n,p,c,hp,hn,h1,z⟩)) e,fun z=>l (aaC hn h1 z)⟩⟩
theorem pL.set {c':Cell} (w:pL T θ μ h) (hn:μ[n]?=some c) (hp:θ.cs[n]?=some p) (h1:c≠.gone) (k:∀ b o,¬(b=p.1∨b=p.2)->h.get? b=some o->h'.get? b=some o)
  (th:∀ a,(a=p.1∨a=p.2)->∃ o,h'.get? a=some o) (hc:oU T h' θ (μ.set n c') p c'):pL T θ (μ.set n c') h' where
 len:=by simp[w.len]
 exc:=fun a z l=>w.exc a z (Q6 hn h1 l)
 inj:=fun m k q r c1 c2 a e f k1 k2 n1 n2 z y=>by
  have old:∀ {m:Nat} {d:Cell},(μ.set n c')[m]?=some d->d≠.gone->∃ d',μ[m]?=some d'/\d'≠.gone:=fun {m d} e g=>by
   by_cases x:m=n
   .subst x;exact⟨c,hn,h1⟩
   .rw[cU (bL x)]at e;exact⟨d,e,g⟩
  obtain⟨d1,x1,y1⟩:=old k1 n1;obtain⟨d2,x2,y2⟩:=old k2 n2;exact w.inj m k q r d1 d2 a e f x1 x2 y1 y2 z y
 bnd:=fun a l=>by
  by_cases y:a=p.1∨a=p.2
  .exact th a y
  .exact let⟨o,x⟩:=w.bnd a (aaC hn h1 l);⟨o,k a o y x⟩
 cell:=fun m b q e f=>by
  by_cases y:m=n
  .subst y
   rw[hp]at f;cases f;rw[eU (bT.mp hn).1]at e;cases e;exact hc
  .rw[cU (bL y)]at e
   by_cases z:b= .gone
   .subst z;trivial
   .exact(w.cell m b q e f).mono (yZ hn hp h1 k) fun b' o z' x=>k b' o (fun y'=>y (w.inj m n q p b c b' f hp e hn z h1 z' y')) x
theorem abZ (w:pL T θ μ h) (hn:μ[n]?=some c) (h1:c≠.gone) (hp:θ.cs[n]?=some p) (z:a=p.1∨a=p.2):¬Mh θ (μ.set n .gone) a:=fun l=>by
 rcases l with l|⟨m,q,b,e,k,g,y⟩
 .exact w.exc a l ⟨n,p,c,hp,hn,h1,z⟩
 by_cases x:m=n
 .subst x
  rw[List.getElem?_set]at k;simp only[if_true]at k;split at k
  .cases k;exact g rfl
  .cases k
 .rw[cU (bL x)]at k
  exact x (w.inj m n q p b c a e hp k hn g h1 y z)
end
end DW
namespace DW
open PySem PySem.Spec PyProof.Rows
open L2 (aP Key frs wz Loc Look Mod tL)
def Cell.fix:Cell->Bool
 | .exc _ _ _=>true| .tbl=>true|_=>false
def Exk (θ:Th) (h:Heap) (θ':Th):Prop:=(∀ b∈θ.ex,b∈θ'.ex)/\∀ b∈θ'.ex,b∈θ.ex∨h.get? b=none
theorem Exk.rfl {θ:Th} {h:Heap}:Exk θ h θ:=⟨fun _ z=>z,fun _ z=>.inl z⟩
structure G (V:Addr->Prop) (F:List Addr) (θ:Th) (μ:Mem) (s:aj) (θ':Th) (μ':Mem) (s':aj):Prop where
 pre:∀ (n:Nat) (p:Addr×Addr),θ.cs[n]?=some p->θ'.cs[n]?=some p
 keep:∀ b o,s.heap.get? b=some o->¬pN θ μ b->¬V b->¬pN θ' μ' b/\∃ sl,s'.heap.get? b=some {o with slots:=sl}/\(b∉F->sl=o.slots)
 there:∀ b o,s.heap.get? b=some o->∃ o',s'.heap.get? b=some o'
 stay:∀ (n:Nat) (c:Cell),μ[n]?=some c->c.fix=true->μ'[n]?=some c
 os:s'.os=s.os
 ex:Exk θ s.heap θ'
structure E0 (T:Top) (A:aL) (stack:List Env) (θ:Th) (μ:Mem) (s:aj):Prop where
 mod:Mod T.K T.mg T.base
 frames:A.frames=some stack
 bare:mJ s.gens
 bs:∀ b o,T.base.get? b=some o->s.heap.get? b=some o/\¬pN θ μ b
 stk:∀ e∈stack,e.scope.kind≠.module/\∃ L o es ep,e.frame=some L/\T.base.get? L=none/\s.heap.get? L=some o/\o.data= .dict es ep/\¬pN θ μ L
 dJ:pL T θ μ s.heap
 hh:∀ v,A.handled=some v->∃ (n:Nat) (p:Addr×Addr) (c:String) (ks:List String) (ds:List D),v= .ref p.1/\θ.cs[n]?=some p/\μ[n]?=some (.exc c ks ds)
structure Cx where
 T:Top
 A:aL
 N:List Str
 env:Env
 stack:List Env
 calm:Bool
 oc:Str->Bool
noncomputable abbrev Cx.M (X:Cx):Model:=aH X.T.P X.T.w
structure Cx.Ok (X:Cx):Prop where
 kind:X.env.scope.kind= .function
 glob:X.env.globals=aM
 blt:X.env.builtins=Dj
 inj:∀ x y c,X.env.cells.lookup x=some c->X.env.cells.lookup y=some c->x=y
 has:∀ x,(X.env.kindOf x=some .cell∨X.env.kindOf x=some .free)->∃ c,X.env.cells.lookup x=some c
 hd:X.calm=true->X.A.handled=none
 nbL:X.T.base.get? X.env.locals=none
 nbC:∀ x c,X.env.cells.lookup x=some c->X.T.base.get? c=none
structure Iv (X:Cx) (ρ:dH) (θ:Th) (μ:Mem) (s:aj):Prop where
 ok:X.Ok
 e:E0 X.T X.A X.stack θ μ s
 loc:∃ m,s.heap.Ns X.env.locals m/\∀ (i:Nat) (x:Str) (d:D),X.N[i]?=some x->ρ[i]?=some (some d)->wz X.env.scope x->∃ u,Rp s.heap θ μ d u/\Look X.env s.heap m x u
 cell:∀ x c,X.env.cells.lookup x=some c->(∃ v,s.heap.IsCell c v)/\¬pN θ μ c
 nl:¬pN θ μ X.env.locals
 len:ρ.length=X.N.length
def Cx.own (X:Cx) (b:Addr):Prop:=b=X.env.locals∨∃ x,X.oc x=true/\X.env.cells.lookup x=some b
def Sto (X:Cx) (x:Str):Prop:=X.env.scope.names.lookup x=some .local∨(X.env.scope.names.lookup x=some .cell/\X.oc x=true)
noncomputable abbrev G0 (X:Cx):=G (fun _=>False) (frs X.stack)
noncomputable abbrev GS (X:Cx):=G X.own (frs X.stack)
def Fn (X:Cx) (ρ:dH) (θ:Th) (μ:Mem) (s:aj) {α β:Type} (R:Heap->Th->Mem->α->β->Prop) (Qd:α->Mem->Prop) (Q:β->aj->Prop):Prop:=
 ∀ {d:α} {u:β} {s':aj} {θ':Th} {μ':Mem},Iv X ρ θ' μ' s'->G0 X θ μ s θ' μ' s'->R s'.heap θ' μ' d u->Qd d μ'->Q u s'
noncomputable abbrev Fin (X:Cx) (ρ:dH) (θ:Th) (μ:Mem) (s:aj):=Fn X ρ θ μ s Rp
def Jg (X:Cx) {α β:Type} (R:Heap->Th->Mem->α->β->Prop) (t:Sem β) (w:dH->Mem->(α->Mem->Prop)->Prop):Prop:=
 ∀ {s:aj} {ρ:dH} {θ:Th} {μ:Mem} {Qd:α->Mem->Prop} {Q:β->aj->Prop} {E:Value->aj->Prop},Iv X ρ θ μ s->w ρ μ Qd->Fn X ρ θ μ s R Qd Q->ak X.M X.A t Q E s
def Alike {α:Type}:Heap->Th->Mem->α->α->Prop:=fun _ _ _ a b=>a=b
noncomputable abbrev WE:=dH->Mem->QD->Prop
noncomputable abbrev WT:=dH->Mem->(Bool->Mem->Prop)->Prop
noncomputable abbrev WA:=dH->Mem->(List D->Mem->Prop)->Prop
noncomputable abbrev PE (X:Cx) (a:Expr) (w:WE):Prop:=Jg X Rp (eval a X.env) w
noncomputable abbrev PT (X:Cx) (a:Expr) (w:WT):Prop:=Jg X Alike (rI a X.env (eval a X.env)) w
noncomputable abbrev PA (X:Cx) (as:List Expr) (w:WA):Prop:=∀ pos,Jg X dh (spliced (jo pos (fu as X.env))) w
section
variable {X:Cx} {V:Addr->Prop} {F:List Addr} {ρ:dH} {θ θ1 θ2:Th} {μ μ1 μ2:Mem} {s s1 s2:aj} {h':Heap} {tk:Nat} {T:Top} {A:aL} {stack:List Env} {b:Addr} {o:Obj} {c c':Cell} {p:Addr×Addr} {n:Nat}
theorem G.refl:G V F θ μ s θ μ s:=⟨fun _ _ e=>e,fun _ o e l _=>⟨l,o.slots,e,fun _=>rfl⟩,fun _ o e=>⟨o,e⟩,fun _ _ e _=>e,rfl,.rfl⟩
theorem G.Y0 (g:G V F θ μ s θ1 μ1 s1) (hb:s1.heap.get? b=none):s.heap.get? b=none:=by
 cases e:s.heap.get? b with
 |none=>rfl|some o=>obtain⟨o',q⟩:=g.there b o e;rw[hb]at q;cases q
theorem G.trans (g:G V F θ μ s θ1 μ1 s1) (g':G V F θ1 μ1 s1 θ2 μ2 s2):G V F θ μ s θ2 μ2 s2 where
 pre:=fun n p e=>g'.pre n p (g.pre n p e)
 keep:=fun b o e l v=>
  let⟨l1,sl,e1,f1⟩:=g.keep b o e l v;let⟨l2,sl2,e2,f2⟩:=g'.keep b _ e1 l1 v
  ⟨l2,sl2,e2,fun z=>(f2 z).trans (f1 z)⟩
 there:=fun b o e=>let⟨o',e'⟩:=g.there b o e;g'.there b o' e'
 stay:=fun n c e f=>g'.stay n c (g.stay n c e f) f
 os:=g'.os.trans g.os
 ex:=⟨fun b z=>g'.ex.1 b (g.ex.1 b z),fun b z=>(g'.ex.2 b z).elim (g.ex.2 b) fun q=>.inr (g.Y0 q)⟩
theorem G.wide {V':Addr->Prop} (g:G V F θ μ s θ1 μ1 s1) (hv:∀ b o,s.heap.get? b=some o->V b->V' b):G V' F θ μ s θ1 μ1 s1:=
 ⟨g.pre,fun b o e l v=>g.keep b o e l fun z=>v (hv b o e z),g.there,g.stay,g.os,g.ex⟩
theorem G.gs (g:G0 X θ μ s θ1 μ1 s1):GS X θ μ s θ1 μ1 s1:=g.wide fun _ _ _ z=>z.elim
theorem G.kp (g:G V F θ μ s θ1 μ1 s1) (hv:∀ b o,s.heap.get? b=some o->Fix o->¬V b/\b∉F):Kp θ μ s.heap θ1 μ1 s1.heap:=
 ⟨g.pre,fun b o e f l=>by obtain⟨l1,sl,e1,f1⟩:=g.keep b o e (fun z=>l (.inr z)) (hv b o e f).1;rw[f1 (hv b o e f).2]at e1;exact⟨e1,fun z=>z.elim (fun z=>l (.inl ((g.ex.2 b z).resolve_right fun q=>by rw[e]at q;cases q))) l1⟩⟩
theorem cW (k:∀ b o,s.heap.get? b=some o->h'.get? b=some o):G V F θ μ s θ μ {s with heap:=h',toks:=tk}:=
 ⟨fun _ _ e=>e,fun b o e l _=>⟨l,o.slots,k b o e,fun _=>rfl⟩,fun b o e=>⟨o,k b o e⟩,fun _ _ e _=>e,rfl,.rfl⟩
theorem am7 (w:pL T θ μ s.heap) (k:∀ b o,s.heap.get? b=some o->h'.get? b=some o) (h1:s.heap.objs.size<=p.1) (h2:s.heap.objs.size<=p.2):G V F θ μ s (θ.snoc p) (μ++[c]) {s with heap:=h',toks:=tk}:=
 ⟨fun _ _ e=>jA e,fun b o e l _=>⟨Bf w l (jf (f9 (bW e) h1)) (jf (f9 (bW e) h2)),o.slots,k b o e,fun _=>rfl⟩,
  fun b o e=>⟨o,k b o e⟩,fun _ _ e _=>jA e,rfl,.rfl⟩
theorem am6 (hn:μ[n]?=some c) (hp:θ.cs[n]?=some p) (h1:c≠.gone) (hf:c.fix=false) (k:∀ b o,¬(b=p.1∨b=p.2)->s.heap.get? b=some o->h'.get? b=some o)
  (th:∀ a,(a=p.1∨a=p.2)->∃ o,h'.get? a=some o):G V F θ μ s θ (μ.set n c') {s with heap:=h',toks:=tk}:=
 ⟨fun _ _ e=>e,fun b o e l _=>⟨fun z=>l (Q6 hn h1 z),o.slots,k b o (fun z=>l ⟨n,p,c,hp,hn,h1,z⟩) e,fun _=>rfl⟩,fun b o e=>by
  by_cases z:b=p.1∨b=p.2
  .exact th b z
  .exact⟨o,k b o z e⟩,fun m d e f=>by
  by_cases z:m=n
  .subst z;rw[hn]at e;cases e;rw[hf]at f;cases f
  .rw[cU (bL z)];exact e,rfl,.rfl⟩
theorem E0.fr (e:E0 T A stack θ μ s) (hb:b∈frs stack):T.base.get? b=none/\¬pN θ μ b/\∃ o es ep,s.heap.get? b=some o/\o.data= .dict es ep:=by obtain⟨v,hv,q⟩:=Ak.mp hb;obtain⟨_,L,o,es,ep,q',nb,ho,hd,l⟩:=e.stk v hv;rw[q]at q';cases q';exact⟨nb,l,o,es,ep,ho,hd⟩
theorem E0.nfr (e:E0 T A stack θ μ s):s.heap.get? b=some o->Fix o->b∉frs stack:=fun h f hb=>by obtain⟨_,_,o',es,ep,h',d⟩:=e.fr hb;rw[h]at h';cases h';rcases f with⟨_,_,f⟩|⟨_,_,f⟩<;>rw[d]at f<;>cases f
theorem E0.kp (e:E0 T A stack θ μ s) (g:G (fun _=>False) (frs stack) θ μ s θ1 μ1 s1):Kp θ μ s.heap θ1 μ1 s1.heap:=g.kp fun _ _ h f=>⟨id,e.nfr h f⟩
theorem E0.bk (e:E0 T A stack θ μ s):∀ b o,T.base.get? b=some o->s.heap.get? b=some o:=fun b o q=>(e.bs b o q).1
theorem E0.Cp (e:E0 T A stack θ μ s):T.K.In s.heap:=e.mod.kin.keeps e.bk
theorem E0.lim (e:E0 T A stack θ μ s):s.heap.NoLimit:=e.mod.nolimit.keeps e.bk
theorem aaR {h base:Heap}:∀ {l:List Env},(∀ e∈l,e.scope.kind≠.module/\∃ L o,e.frame=some L/\base.get? L=none/\h.get? L=some o/\∀ vs,o.data≠.fields vs)->h.FunFrames base l
 |[],_=>trivial|e::r,f=>⟨(f e w7).1,(f e w7).2,aaR fun e m=>f e (jh _ m)⟩
theorem E0.Eo (e:E0 T A stack θ μ s):s.heap.FunFrames T.base stack:=aaR fun v m=>
 let⟨k,L,o,es,ep,f,nb,ho,hd,_⟩:=e.stk v m
 ⟨k,L,o,f,nb,ho,fun vs z=>by rw[hd]at z;cases z⟩
theorem E0.hds (e:E0 T A stack θ μ s):tL A s.heap:=fun v q=>by obtain⟨n,p,c,ks,ds,z,hp,hn⟩:=e.hh v q;obtain⟨C,o,vs,_,h1,_,_,h4,h5,_⟩:=e.dJ.cell n _ p hn hp;exact⟨p.1,o,vs,z,h1,h4,h5⟩
theorem E0.to (e:E0 T A stack θ μ s) (g:G (fun _=>False) (frs stack) θ μ s θ1 μ1 s1) (w:pL T θ1 μ1 s1.heap) (hb:mJ s1.gens):E0 T A stack θ1 μ1 s1 where
 mod:=e.mod
 frames:=e.frames
 bare:=hb
 bs:=fun b o q=>by obtain⟨e1,l1⟩:=e.bs b o q;obtain⟨l2,sl,e2,f⟩:=g.keep b o e1 l1 id;rw[f fun z=>by rw[(e.fr z).1]at q;cases q]at e2;exact⟨e2,l2⟩
 stk:=fun v m=>by obtain⟨k,L,o,es,ep,f,nb,ho,hd,l⟩:=e.stk v m;obtain⟨l2,sl,e2,_⟩:=g.keep L o ho l id;exact⟨k,L,_,es,ep,f,nb,e2,hd,l2⟩
 dJ:=w
 hh:=fun v q=>by obtain⟨n,p,c,ks,ds,z,hp,hn⟩:=e.hh v q;exact⟨n,p,c,ks,ds,z,g.pre n p hp,g.stay n _ hn rfl⟩
theorem afT {h h':Heap} {a:Addr} {m:Str->Option Value} (x:h.Ns a m) (f:∀ o,h.get? a=some o->∃ sl,h'.get? a=some {o with slots:=sl}):h'.Ns a m:=
 let⟨o,es,ep,e,r⟩:=x;let⟨_,q⟩:=f o e;⟨_,es,ep,q,r⟩
theorem ZM {h h':Heap} {a:Addr} {v:Option Value} (x:h.IsCell a v) (f:∀ o,h.get? a=some o->∃ sl,h'.get? a=some {o with slots:=sl}):h'.IsCell a v:=
 let⟨o,e,r⟩:=x;let⟨_,q⟩:=f o e;⟨_,q,r⟩
theorem Iv.kp (i:Iv X ρ θ μ s) (g:G0 X θ μ s θ1 μ1 s1):Kp θ μ s.heap θ1 μ1 s1.heap:=i.e.kp g
theorem Iv.to (i:Iv X ρ θ μ s) (g:G0 X θ μ s θ1 μ1 s1) (w:pL X.T θ1 μ1 s1.heap) (hb:mJ s1.gens):Iv X ρ θ1 μ1 s1 where
 ok:=i.ok
 e:=i.e.to g w hb
 loc:=by obtain⟨m,hn,hl⟩:=i.loc;refine⟨m,afT hn fun o q=>let⟨_,sl,z,_⟩:=g.keep _ o q i.nl id;⟨sl,z⟩,fun j x d e1 e2 e3=>?_⟩;obtain⟨u,r,l⟩:=hl j x d e1 e2 e3;refine⟨u,(i.kp g).rp r,l.imp id fun⟨k,c,e,z⟩=>⟨k,c,e,ZM z fun o q=>let⟨_,sl,z,_⟩:=g.keep _ o q (i.cell x c e).2 id;⟨sl,z⟩⟩⟩
 cell:=fun x c e=>by obtain⟨⟨v,z⟩,l⟩:=i.cell x c e;obtain⟨o,q,hd⟩:=id z;obtain⟨l',sl,q',_⟩:=g.keep c o q l id;exact⟨⟨v,_,q',hd⟩,l'⟩
 nl:=by obtain⟨m,⟨o,_,_,q,_⟩,_⟩:=i.loc;exact(g.keep _ o q i.nl id).1
 len:=i.len
theorem Iv.kept (i:Iv X ρ θ μ s) (k:∀ b o,s.heap.get? b=some o->h'.get? b=some o):Iv X ρ θ μ {s with heap:=h',toks:=tk}:=i.to (cW k) (i.e.dJ.kept k) i.e.bare
theorem Iv.tok (i:Iv X ρ θ μ s):Iv X ρ θ μ {s with toks:=tk}:=i.kept fun _ _ e=>e
theorem Iv.dJ (i:Iv X ρ θ μ s):pL X.T θ μ s.heap:=i.e.dJ
theorem Iv.Cp (i:Iv X ρ θ μ s):X.T.K.In s.heap:=i.e.Cp
end
section
variable {X:Cx} {α β:Type} {R:Heap->Th->Mem->α->β->Prop} {ρ:dH} {θ θ1:Th} {μ μ1:Mem} {s s1:aj} {h':Heap} {tk:Nat} {Qa:α->Mem->Prop} {Qb:β->aj->Prop} {Qd:QD} {Q:Value->aj->Prop} {d:D} {u:Value} {ds:List D} {us:List Value} {a:Addr} {c c':Cell} {p:Addr×Addr} {n:Nat} {j:Nat}
theorem Fn.mono (f:Fn X ρ θ μ s R Qa Qb) (g:G0 X θ μ s θ1 μ1 s1):Fn X ρ θ1 μ1 s1 R Qa Qb:=fun i g' r q=>f i (g.trans g') r q
theorem Fn.at {x:α} {y:β} (f:Fn X ρ θ μ s R Qa Qb) (i:Iv X ρ θ μ s) (r:R s.heap θ μ x y) (q:Qa x μ):Qb y s:=f i .refl r q
theorem Fn.hp {x:α} {y:β} (f:Fn X ρ θ μ s R Qa Qb) (i:Iv X ρ θ μ s) (k:∀ b o,s.heap.get? b=some o->h'.get? b=some o) (r:R h' θ μ x y) (q:Qa x μ):Qb y {s with heap:=h',toks:=tk}:=f (i.kept k) (cW k) r q
theorem Fn.tok {x:α} {y:β} (f:Fn X ρ θ μ s R Qa Qb) (i:Iv X ρ θ μ s) (r:R s.heap θ μ x y) (q:Qa x μ):Qb y {s with toks:=tk}:=f i.tok (cW fun _ _ e=>e) r q
def sqD:Nat->List D->D
 |0,ds=>.tup ds|1,ds=>.lst ds|_,ds=>.ro ds
theorem amE {h:Heap} (x:j8 h j a us) (l:¬Mh θ μ a) (r:dh h θ μ ds us):Rp h θ μ (sqD j ds) (.ref a):=by
 match j,x with
 |0,x=>exact⟨a,us,rfl,x,l,r⟩|1,x=>exact⟨a,us,rfl,x,l,r⟩|_+2,x=>exact⟨a,us,rfl,x,l,r⟩
theorem Fn.sq (f:Fin X ρ θ μ s Qd Q) (i:Iv X ρ θ μ s) (k:∀ b o,s.heap.get? b=some o->h'.get? b=some o) (hp:s.heap.objs.size<=a) (x:j8 h' j a us) (r:dh s.heap θ μ ds us) (q:Qd (sqD j ds) μ):
  Q (.ref a) {s with heap:=h',toks:=tk}:=f.hp i k (amE x (i.dJ.TF hp) ((jU k).Gr r)) q
theorem Iv.new (i:Iv X ρ θ μ s) (k:∀ b o,s.heap.get? b=some o->h'.get? b=some o) (h1:s.heap.objs.size<=p.1) (h2:s.heap.objs.size<=p.2) (th:∀ a,(a=p.1∨a=p.2)->∃ o,h'.get? a=some o)
  (hc:oU X.T h' (θ.snoc p) (μ++[c]) p c):Iv X ρ (θ.snoc p) (μ++[c]) {s with heap:=h',toks:=tk}/\G0 X θ μ s (θ.snoc p) (μ++[c]) {s with heap:=h',toks:=tk}:=by
 have g:G0 X θ μ s (θ.snoc p) (μ++[c]) {s with heap:=h',toks:=tk}:=am7 i.dJ k h1 h2;exact⟨i.to g (i.dJ.new k h1 h2 th hc) i.e.bare,g⟩
theorem Fn.cell (f:Fin X ρ θ μ s Qd Q) (i:Iv X ρ θ μ s) (k:∀ b o,s.heap.get? b=some o->h'.get? b=some o) (h1:s.heap.objs.size<=p.1) (h2:s.heap.objs.size<=p.2) (th:∀ a,(a=p.1∨a=p.2)->∃ o,h'.get? a=some o)
  (hc:oU X.T h' (θ.snoc p) (μ++[c]) p c) (q:Qd (.loc μ.length) (μ++[c])):Q (.ref p.1) {s with heap:=h',toks:=tk}:=by
 obtain⟨i',g⟩:=i.new (tk:=tk) k h1 h2 th hc;exact f i' g (show Rp _ _ _ (.loc μ.length) _ from⟨p,rfl,by rw[<-i.dJ.len];simp[Th.snoc]⟩) q
theorem Fn.newL {m:Bool} (f:Fin X ρ θ μ s Qd Q) (i:Iv X ρ θ μ s) (k:∀ b o,s.heap.get? b=some o->h'.get? b=some o) (hp:s.heap.objs.size<=a) (x:j8 h' 1 a us) (r:dh s.heap θ μ ds us) (q:newL m ds μ Qd):
  Q (.ref a) {s with heap:=h',toks:=tk}:=by
 cases m with
 |false=>exact f.sq i k hp x r q|true=>obtain⟨_,o,e,_⟩:=x.fix;exact f.cell (p:=(a,a)) (c:=.lst ds) i k hp hp (fun b z=>⟨o,by rcases z with rfl|rfl<;>exact e⟩) ⟨us,x,(agh i.dJ k hp hp).Gr r,rfl⟩ q
theorem Iv.set (i:Iv X ρ θ μ s) (hn:μ[n]?=some c) (hp:θ.cs[n]?=some p) (h1:c≠.gone) (hf:c.fix=false) (k:∀ b o,¬(b=p.1∨b=p.2)->s.heap.get? b=some o->h'.get? b=some o)
  (th:∀ a,(a=p.1∨a=p.2)->∃ o,h'.get? a=some o) (hc:oU X.T h' θ (μ.set n c') p c'):
  Iv X ρ θ (μ.set n c') {s with heap:=h',toks:=tk}/\G0 X θ μ s θ (μ.set n c') {s with heap:=h',toks:=tk}:=by
 have g:G0 X θ μ s θ (μ.set n c') {s with heap:=h',toks:=tk}:=am6 hn hp h1 hf k th;exact⟨i.to g (i.dJ.set hn hp h1 k th hc) i.e.bare,g⟩
theorem Iv.lst {h:Heap} (i:pL X.T θ μ h) (hn:μ[n]?=some (.lst ds)) (r:Rp h θ μ (.loc n) u):∃ p us,u= .ref p.1/\θ.cs[n]?=some p/\p.2=p.1/\j8 h 1 p.1 us/\dh h θ μ ds us:=by obtain⟨p,rfl,e⟩:=r;obtain⟨us,x,y,z⟩:=i.cell n _ p hn e;exact⟨p,us,rfl,e,z,x,y⟩
theorem Iv.akt {es:List D} {vs:List Value} (i:Iv X ρ θ μ s) (hn:μ[n]?=some (.lst ds)) (hp:θ.cs[n]?=some p) (h2:p.2=p.1) (k:∀ b o,b≠p.1->s.heap.get? b=some o->h'.get? b=some o) (x:j8 h' 1 p.1 vs) (r:dh s.heap θ μ es vs):
  Iv X ρ θ (μ.set n (.lst es)) {s with heap:=h',toks:=tk}/\G0 X θ μ s θ (μ.set n (.lst es)) {s with heap:=h',toks:=tk}/\Kp θ μ s.heap θ (μ.set n (.lst es)) h':=by
 obtain⟨_,o,e,_⟩:=x.fix;have k':∀ b o,¬(b=p.1∨b=p.2)->s.heap.get? b=some o->h'.get? b=some o:=fun b o z q=>k b o (fun y=>z (.inl y)) q;have kp:Kp θ μ s.heap θ (μ.set n (.lst es)) h':=yZ hn hp (by simp) k';obtain⟨i',g⟩:=i.set (tk:=tk) (c':=.lst es) hn hp (by simp) rfl k' (fun a z=>⟨o,by rcases z with rfl|rfl<;>first|exact e|(rw[h2];exact e)⟩) ⟨vs,x,kp.Gr r,h2⟩;exact⟨i',g,kp⟩
def Wi:D->Nat
 | .tup _=>0| .ro _=>2|_=>1
theorem wR {h:Heap} {ν:Mem} (w:pL X.T θ ν h) (r:Rp h θ ν d u) (e:aB ν d=some ds):∃ a us,u= .ref a/\j8 h (Wi d) a us/\dh h θ ν ds us:=by
 cases d with
 |tup es=>cases e;exact let⟨a,us,q,x,_,y⟩:=r;⟨a,us,q,x,y⟩
 |lst es=>cases e;exact let⟨a,us,q,x,_,y⟩:=r;⟨a,us,q,x,y⟩
 |ro es=>cases e;exact let⟨a,us,q,x,_,y⟩:=r;⟨a,us,q,x,y⟩
 |loc n=>
  simp only[aB]at e;split at e
  .rename_i es hn
   cases e;obtain⟨p,us,q,_,_,x,y⟩:=Iv.lst w hn r;exact⟨p.1,us,q,x,y⟩
  .cases e
 |_=>cases e
end
end DW
namespace DW
open PySem PySem.Spec PyProof.Rows
open L2 (aP Key frs wz Loc Look Mod tL cG)
def Op2 (X:Cx) (t:Value->Value->Sem Value) (w:D->D->Mem->QD->Prop):Prop:=
 ∀ {s:aj} {ρ:dH} {θ:Th} {μ:Mem} {x y:D} {u v:Value} {Qd:QD} {Q:Value->aj->Prop} {E:Value->aj->Prop},Iv X ρ θ μ s->Rp s.heap θ μ x u->Rp s.heap θ μ y v->w x y μ Qd->Fin X ρ θ μ s Qd Q->ak X.M X.A (t u v) Q E s
def OpA (X:Cx) (t:List Value->Sem Value) (w:List D->Mem->QD->Prop):Prop:=
 ∀ {s:aj} {ρ:dH} {θ:Th} {μ:Mem} {ds:List D} {us:List Value} {Qd:QD} {Q:Value->aj->Prop} {E:Value->aj->Prop},Iv X ρ θ μ s->dh s.heap θ μ ds us->w ds μ Qd->Fin X ρ θ μ s Qd Q->ak X.M X.A (t us) Q E s
theorem yX:lim=sizeLine:=by rw[cY];rfl
theorem Q8:(sizeLine:Nat)<2 ^ 63:=by rw[cY];decide
section
variable {h:Heap} {θ:Th} {μ:Mem} {t:Tok}
theorem CK:Rp h θ μ .non .none:=rfl
theorem Tv:Rp h θ μ (.bl b) (.bool b):=rfl
theorem jc:Rp h θ μ (.int i) (.int i t):=⟨t,rfl⟩
theorem m9 (e:i=j):Rp h θ μ (.int i) (.int j t):=⟨t,by rw[e]⟩
theorem xY (l:x.length<=sizeLine):Rp h θ μ (.str x) (.str ⟨x.toArray⟩ t):=⟨⟨t,rfl⟩,l⟩
end
section
variable {X:Cx} {wa wb wc:WE} {a b c:Expr} {pos:Pos}
theorem ak5 {j:Nat} {x:Str} (hN:X.N[j]?=some x) (hv:wz X.env.scope x) (hd:(x==("__debug__":Str))=false) (hcd:(x==("__classdict__":Str))=false):PE X (.Name x pos) (wE (.var j)):=by
 intro s ρ θ μ Qd Q E i h f;unfold wE at h;split at h
 .rename_i d e
  obtain⟨m,hn,hl⟩:=i.loc;obtain⟨u,r,l⟩:=hl j x d hN e hv;have q:=f.at i r h;rcases l with⟨hk,hm⟩|⟨hk,c,hc,hcell⟩
  .exact W0 (wpAny_loadName_local i.ok.kind hk hn hm q) hd
  .rcases hk with hk|hk
   .exact W0 (wpAny_loadName_cell i.ok.kind hk hc hcell q) hd
   .exact W0 (wpAny_loadName_free i.ok.kind hk hc hcell q hcd) hd
 .exact h.elim
def Gl (X:Cx) (x:Str):Prop:=X.env.kindOf x=some .globalImplicit
variable {ρ:dH} {θ:Th} {μ:Mem} {s:aj} {x:Str} {u:Value} {Q:Value->aj->Prop} {E:Value->aj->Prop}
theorem vV (i:Iv X ρ θ μ s) (hg:Gl X x) (hm:X.T.mg x=some u) (hd:(x==("__debug__":Str))=false) (h:Q u s):ak X.M X.A (eval (.Name x pos) X.env) Q E s:=
 afr i.ok.kind hg (Calls.loadGlobal_global (by rw[i.ok.glob];exact i.e.mod.glob.keeps i.e.bk) hm h) hd
theorem u0 (i:Iv X ρ θ μ s) (hg:Gl X x) (hm:X.T.mg x=none) (hv:yt x=some u) (hn:x≠"__name__") (hd:(x==("__debug__":Str))=false) (h:Q u s):ak X.M X.A (eval (.Name x pos) X.env) Q E s:=by obtain⟨mb,h1,h2⟩:=i.e.mod.blt;exact afr i.ok.kind hg (Calls.loadGlobal_builtin (by rw[i.ok.glob];exact i.e.mod.glob.keeps i.e.bk) hm (by rw[i.ok.blt];exact h1.keeps i.e.bk) ((h2 x hn).trans hv) h) hd
theorem ajn {i j:Int} (h:ahn i j):IntMulOk i j:=by
 rcases h with⟨h1,h2⟩|⟨h1,h2⟩
 .exact .of_left (Px h1 h2)
 .exact .of_right (Px h1 h2)
theorem gA {h:Heap} {us:List Value} {a:Addr} (x:j8 h 0 a us):yc h a us.toArray:=let⟨_,o,n,e,c,d,_⟩:=x;⟨o,e,c,n,d⟩
theorem gB {h:Heap} {us:List Value} {a:Addr} {k:Nat} (x:j8 h k a us) (hk:k≠0):Iu h a us.toArray:=by
 match k,x,hk with
 |0,_,hk=>exact absurd rfl hk|1,⟨_,n,e⟩,_=>exact⟨_,n,e,rfl,rfl,rfl⟩|_+2,⟨_,z⟩,_=>exact z
theorem ahH {A:aL} {t b:Addr} {vs ws:List Value} (ht:j8 s.heap 0 t vs) (hb:j8 s.heap 0 b ws) (h0:vs=[]->Q (.ref b) s) (h1:vs≠[]->ws=[]->Q (.ref t) s)
  (h2:vs≠[]->ws≠[]->Q (.ref s.heap.objs.size) {s with heap:=s.heap.push {cls:=.type "tuple",data:=.seq (vs++ws).toArray}}) (hsz:vs.length+ws.length<=sizeLine):
  ak X.M A (OJ .Add (.ref t) (.ref b)) Q E s:=by
 obtain⟨_,⟨c1,d1,a1,s1⟩,n1,g1,e1,f1,_⟩:=ht;obtain⟨_,⟨c2,d2,a2,s2⟩,n2,g2,e2,f2,_⟩:=hb;cases e1;cases f1;cases e2;cases f2;by_cases h:vs=[]
 .subst h
  exact Xh ⟨_,g1,rfl⟩ ⟨_,g2,rfl⟩ X7 Xu Yz YD (YG _ _) (tuple_addW0 t b _ ws.toArray n1 n2 d1 d2 s1 s2 rfl) ⟨g1,g2,h0 rfl⟩
 .by_cases hw:ws=[]
  .exact Xh ⟨_,g1,rfl⟩ ⟨_,g2,rfl⟩ X7 Xu Yz YD (YG _ _)
    (tuple_addW1 t b vs.toArray ws.toArray n1 n2 d1 d2 s1 s2 (by simpa using h) (by simp[hw])) ⟨g1,g2,h1 h hw⟩
  .refine Xh ⟨_,g1,rfl⟩ ⟨_,g2,rfl⟩ X7 Xu Yz YD (YG _ _)
    (tuple_addW2 t b vs.toArray ws.toArray n1 n2 d1 d2 s1 s2 (by simpa using h) (by simpa using hw) (by rw[cB,cB];exact hsz)) ⟨g1,g2,?_⟩
   rw[show vs.toArray++ws.toArray=(vs++ws).toArray by simp];exact h2 h hw
theorem rA (h:Heap) {us:List Value} (l:us.length<=sizeLine):j8 (h.push {cls:=.type "list",data:=.seq us.toArray}) 1 h.objs.size us/\j8 (h.push {cls:=.type "tuple",data:=.seq us.toArray}) 0 h.objs.size us:=
 ⟨⟨l,_,gU _ rfl⟩,l,_,_,gU _ rfl,rfl,rfl,rfl⟩
theorem c7 {h:Heap} {o:Obj}:∀ b o',h.get? b=some o'->(h.push o).get? b=some o':=fun _ _ e=>eV _ e
theorem ahM {A:aL} {x:List Nat} {n:Int} {t t':Tok} (h:0<=n/\n<=1000/\1<=x.length/\x.length<=1000) (q:∀ t k,Q (.str ⟨(bD n.toNat x).flatten.toArray⟩ t) {s with toks:=k}):
  (bD n.toNat x).flatten.length<=sizeLine/\ak X.M A (OJ .Mult (.str ⟨x.toArray⟩ t) (.int n t')) Q E s:=by
 obtain⟨n2,n3,a1,a2⟩:=h;have hal:(⟨x.toArray⟩:Str).length=x.length:=by simp[eN]
 have am1:∀ (m:Nat) (acc:Array Nat),((bD m x.toArray).foldl (·++·) acc).toList=acc.toList++(bD m x).flatten:=by
  intro m;induction m with
  |zero=>intro acc;simp|succ m ih=>intro acc;rw[aeM,qu,ih];simp[aeM]
 have hle:n.toNat*x.length<=1000*1000:=adM (by lia) a2;have hln:(bD n.toNat x).flatten.length<=sizeLine:=by rw[show(bD n.toNat x).flatten.length=n.toNat*x.length by simp,cY];lia
 have e:(⟨(bD n.toNat (⟨x.toArray⟩:Str).cps).foldl (·++·) #[]⟩:Str)=⟨(bD n.toNat x).flatten.toArray⟩:=by have:=am1 n.toNat #[];congr 1;apply yI.mp;simpa using this
 refine⟨hln,PySem.P.mul_str (by rw[decide_eq_false (by lia),decide_eq_false (by lia)];rfl) (fun _ _=>?_) (fun _ _=>?_) ?_⟩
 .rw[hal]
  have:(1000:Int)<=(2 ^ 63 -1)/n:=(Int.le_ediv_iff_mul_le (by lia)).mpr (by lia);lia
 .rw[hal]
  have h3:x.length*n.toNat<=1000000:=by rw[Nat.mul_comm];lia
  unfold Wx;exact decide_eq_false (Nat.not_lt.mpr (gD h3 (by rw[cY];decide)))
 .by_cases n0:n=0
  .subst n0
   exact⟨by decide,q _ _⟩
  by_cases n1:n=1
  .subst n1
   have z:=q t s.toks;rw[show(bD (1:Int).toNat x).flatten=x by simp]at z;exact z
  rw[if_neg (by lia),if_neg (by rw[hal];simp only[yF,beq_iff_eq];lia),e];exact⟨by simpa[eN]using hln,q _ _⟩
theorem ajf {A:aL} {op:jL} {i j:Int} {t t':Tok} {Qd:QD} (hw:jC op (.int i) (.int j) μ Qd) (q:∀ k,Qd (.int k) μ->Q (.int k s.toks) {s with toks:=s.toks+1}):ak X.M A (OJ op (.int i t) (.int j t')) Q E s:=by
 cases op with
 |Add=>exact add_int (q _ hw)|Sub=>exact sub_int (q _ hw)|Mult=>exact mul_int (q _ hw.2) (ajn hw.1)|FloorDiv=>
  obtain⟨⟨h1,h2⟩,hw⟩:=hw;refine floordiv_int (by lia) ?_ (.inl (afj ?_))
  .rw[YM i (by lia)];exact q _ hw
  .have h4:j.natAbs≠0:=by lia
   have:=(W9 h4).mpr (show j.natAbs<2 ^ 500 by lia);lia
 |Mod=>obtain⟨h1,hw⟩:=hw;exact mod_int' (by lia) (by rw[afq i (by lia)];exact q _ hw)|Pow=>exact pow_int_small hw.1.1 hw.1.2.1 hw.1.2.2 (q _ hw.2)|LShift=>obtain⟨h1,hw⟩:=hw;exact lshift_int_small h1.1 (by lia) h1.2.2 (q _ hw)|RShift=>obtain⟨h1,hw⟩:=hw;refine rshift_int h1 ?_;rw[YM i (Int.le_of_lt (Int.pow_pos (by decide)))];exact q _ hw|BitAnd=>
  obtain⟨⟨h0,rfl⟩,hw⟩:=hw;refine and_int ?_;have e:XF i 1=i%2:=by obtain⟨n,rfl⟩:=afc h0;rw[show XF (n:Int) 1=((n&&&1:Nat):Int) by unfold XF;simp,Nat.and_one_is_mod];lia
  rw[e];exact q _ hw
 |_=>exact hw.elim
theorem amb (op:jL):Op2 X (OJ op) (jC op):=by
 intro s ρ θ μ x y u v Qd Q E I rx ry hw f
 match x,y,hw with
 | .int i,.int j,hw=>obtain⟨t,rfl⟩:=rx;obtain⟨t',rfl⟩:=ry;exact ajf hw fun k z=>f.tok I jc z
 | .str a,.str b,hw=>
  obtain⟨⟨t,rfl⟩,hx⟩:=rx;obtain⟨⟨t',rfl⟩,hy⟩:=ry;cases op with
  |Add=>
   (have hl:(a++b).length<=sizeLine:=by rw[eO,<-yX];exact hw.1);refine add_str (fun t' k=>?_) (by rw[<-yX];show a.toArray.size+b.toArray.size<=_;simpa using hw.1);have e:(⟨a.toArray⟩++⟨b.toArray⟩:Str)=⟨(a++b).toArray⟩:=by show Str.mk (a.toArray++b.toArray)=_;simp
   rw[e];exact f.tok I (xY hl) hw.2
  |_=>exact hw.elim
 | .str a,.int n,hw=>
  obtain⟨⟨t,rfl⟩,hx⟩:=rx;obtain⟨t',rfl⟩:=ry;cases op with
  |Mult=>obtain⟨hl,z⟩:=ahM (X:=X) (A:=X.A) (Q:=fun v s'=>(∃ t k,v= .str ⟨(bD n.toNat a).flatten.toArray⟩ t/\s'={s with toks:=k})) (E:=E) (t:=t) (t':=t') hw.1 fun t k=>⟨t,k,rfl,rfl⟩;exact iu z (fun v s' ⟨t,k,e,e'⟩=>by subst e e';exact f.tok I (xY hl) hw.2) fun _ _ z=>z
  |_=>exact hw.elim
 | .lst a,.lst b,hw=>
  obtain⟨p,us,rfl,⟨_,n,e⟩,_,r1⟩:=rx;obtain⟨p',us',rfl,⟨_,n',e'⟩,_,r2⟩:=ry;cases op with
  |Add=>(have l:(us++us').length<=sizeLine:=by rw[eO,r1.length,r2.length,<-yX];exact hw.1);refine PySem.P.add_list e e' ?_ (by simpa using l);rw[show us.toArray++us'.toArray=(us++us').toArray by simp];exact f.sq I c7 (aA _) (rA _ l).1 (r1.append r2) hw.2|_=>exact hw.elim
 | .tup a,.tup b,hw=>
  have rx':=rx;have ry':=ry;obtain⟨p,us,rfl,x1,_,r1⟩:=rx;obtain⟨p',us',rfl,x2,_,r2⟩:=ry;cases op with
  |Add=>
   (have l:us.length+us'.length<=sizeLine:=by rw[r1.length,r2.length,<-yX];exact hw.1);refine ahH x1 x2 (fun z=>?_) (fun _ z=>?_) (fun _ _=>f.sq I c7 (aA _) (rA _ (by simpa using l)).2 (r1.append r2) hw.2) l
   .have e:a=[]:=Ao.mp (by rw[<-r1.length,z];rfl)
    subst e;exact f.at I ry' hw.2
   .have e:b=[]:=Ao.mp (by rw[<-r2.length,z];rfl)
    subst e;exact f.at I rx' (by have:=hw.2;rwa[pX]at this)
  |_=>exact hw.elim
theorem alj {op:jL} (ha:PE X a wa) (hb:PE X b wb):PE X (.BinOp a op b pos) (fun ρ μ Q=>wa ρ μ fun x μ1=>wb ρ μ1 fun y μ2=>jC op x y μ2 Q):=fun i h f=>wpAny_BinOp (ha i h fun i1 g1 r1 h1=>hb i1 h1 fun i2 g2 r2 h2=>amb op i2 ((i1.kp g2).rp r1) r2 h2 (f.mono (g1.trans g2)))
end
end DW
namespace DW
open PySem PySem.Spec PyProof.Rows
open L2 (aP Key frs wz Loc Look Mod tL cG)
mutual
noncomputable def pd:D->PyData
 | .non=>.none| .bl b=>.bool b| .int i=>.int i| .str x=>.str ⟨x.toArray⟩| .tup ds=>.tuple (MN ds)| .lst ds=>.list (MN ds)|_=>.none
noncomputable def MN:List D->List PyData
 |[]=>[]|d::ds=>pd d::MN ds
end
mutual
theorem dY:∀ (n:Nat) (d:D),flat n d=true->(pd d).canLay0=true
 |_,.non,_=>by simp[pd,Dq]|_,.bl _,_=>by simp[pd,Dq]|_,.int _,_=>by simp[pd,Dq]|_,.str x,h=>by simp only[pd,Dq,PyData.strOk];simpa[flat]using h|n+1,.tup ds,h=>by simp only[pd,Dq];exact zH n ds (by simpa[flat]using h)|n+1,.lst ds,h=>by simp only[pd,Dq];exact zH n ds (by simpa[flat]using h)|0,.tup _,h=>by simp[flat]at h|0,.lst _,h=>by simp[flat]at h|_,.ro _,h=>by simp[flat]at h|_,.loc _,h=>by simp[flat]at h|_,.jZ _ _,h=>by simp[flat]at h
theorem zH:∀ (n:Nat) (ds:List D),flats n ds=true->Yg (MN ds)=true
 |_,[],_=>by simp[MN,Yg]|n,d::ds,h=>by
  have h':flat n d=true/\flats n ds=true:=by simpa[flats]using h
  simp only[MN,Yg,dY n d h'.1,zH n ds h'.2,Xr]
end
mutual
theorem BP:∀ (n:Nat) (d:D),flat n d=true->(pd d).depth<=n
 |_,.non,_=>by simp[pd,Dm]|_,.bl _,_=>by simp[pd,Dm]|_,.int _,_=>by simp[pd,Dm]|_,.str x,h=>by simp[pd,Dm]|n+1,.tup ds,h=>by simp only[pd,Dm];have:=Et n ds (by simpa[flat]using h);lia|n+1,.lst ds,h=>by simp only[pd,Dm];have:=Et n ds (by simpa[flat]using h);lia|0,.tup _,h=>by simp[flat]at h|0,.lst _,h=>by simp[flat]at h|_,.ro _,h=>by simp[flat]at h|_,.loc _,h=>by simp[flat]at h|_,.jZ _ _,h=>by simp[flat]at h
theorem Et:∀ (n:Nat) (ds:List D),flats n ds=true->XM (MN ds)<=n
 |_,[],_=>by simp[MN,XM]|n,d::ds,h=>by
  have h':flat n d=true/\flats n ds=true:=by simpa[flats]using h
  simp only[MN,XM];have h1:=BP n d h'.1;have h2:=Et n ds h'.2;lia
end
theorem HY (x y:List Nat):((⟨x.toArray⟩:Str)==⟨y.toArray⟩)=(x==y):=by
 by_cases h:x=y
 .subst h;simp
 .have h1:¬(⟨x.toArray⟩:Str)=⟨y.toArray⟩:=fun e=>h (by injection e with e;simpa using congrArg Jd e)
  rw[beq_eq_false_iff_ne.mpr h1,beq_eq_false_iff_ne.mpr h]
mutual
theorem zx:∀ (n m:Nat) (d e:D),flat n d=true->flat m e=true->nZ (pd d) (pd e)=mq d e
 |_,_,.non,e,_,he=>by cases e<;>simp_all[pd,nZ,mq,flat]
 |_,_,.bl a,e,_,he=>by cases e<;>simp_all[pd,nZ,mq,flat,b2i]
 |_,_,.int i,e,_,he=>by cases e<;>simp_all[pd,nZ,mq,flat,b2i]
 |_,_,.str x,e,_,he=>by cases e<;>simp_all[pd,nZ,mq,flat,HY]
 |n+1,m,.tup ds,e,hd,he=>by
  cases e with
  |tup es=>
   cases m with
   |zero=>simp[flat]at he|succ m=>simp only[pd,nZ,mq];exact Rx n m ds es (by simpa[flat]using hd) (by simpa[flat]using he)
  |_=>simp_all[pd,nZ,mq,flat]
 |n+1,m,.lst ds,e,hd,he=>by
  cases e with
  |lst es=>
   cases m with
   |zero=>simp[flat]at he|succ m=>simp only[pd,nZ,mq];exact Rx n m ds es (by simpa[flat]using hd) (by simpa[flat]using he)
  |_=>simp_all[pd,nZ,mq,flat]
 |0,_,.tup _,_,h,_=>by simp[flat]at h|0,_,.lst _,_,h,_=>by simp[flat]at h|_,_,.ro _,_,h,_=>by simp[flat]at h|_,_,.loc _,_,h,_=>by simp[flat]at h|_,_,.jZ _ _,_,h,_=>by simp[flat]at h
theorem Rx:∀ (n m:Nat) (ds es:List D),flats n ds=true->flats m es=true->Pu (MN ds) (MN es)=Lx ds es
 |_,_,[],es,_,_=>by cases es<;>simp[MN,Pu,Lx]
 |n,m,d::ds,es,hd,he=>by
  cases es with
  |nil=>simp[MN,Pu,Lx]|cons e es=>(have hd':flat n d=true/\flats n ds=true:=by simpa[flats]using hd);(have he':flat m e=true/\flats m es=true:=by simpa[flats]using he);simp only[MN,Pu,Lx];rw[zx n m d e hd'.1 he'.1,Rx n m ds es hd'.2 he'.2]
end
section
variable {h:Heap} {θ:Th} {μ:Mem}
mutual
theorem eZ:∀ (n:Nat) (d:D) (u:Value),Rp h θ μ d u->flat n d=true->∃ as,Reads h u (pd d) as
 |_,.non,_,r,_=>by cases(show _=fY from r);exact⟨_,by unfold pd;exact .none⟩
 |_,.bl b,_,r,_=>by cases(show _=jF b from r);exact⟨_,by unfold pd;exact .bool b⟩
 |_,.int i,_,r,_=>by obtain⟨t,rfl⟩:=r;exact⟨_,by unfold pd;exact .int i t⟩|_,.str x,_,r,_=>by obtain⟨⟨t,rfl⟩,_⟩:=r;exact⟨_,by unfold pd;exact .str _ t⟩|n+1,.tup ds,_,⟨a,us,e,⟨_,o,k,ho,hc,hd,_⟩,_,rs⟩,f=>by obtain⟨as,ra⟩:=uo n ds us rs (by simpa[flat]using f);exact⟨as,by rw[e];unfold pd;exact .tuple ho hc hd (by simpa using ra)⟩|n+1,.lst ds,_,⟨a,us,e,⟨_,k,ho⟩,_,rs⟩,f=>by obtain⟨as,ra⟩:=uo n ds us rs (by simpa[flat]using f);exact⟨a::as,by rw[e];unfold pd;exact .list ho rfl rfl (by simpa using ra)⟩|0,.tup _,_,_,f=>by simp[flat]at f|0,.lst _,_,_,f=>by simp[flat]at f|_,.ro _,_,_,f=>by simp[flat]at f|_,.loc _,_,_,f=>by simp[flat]at f|_,.jZ _ _,_,_,f=>by simp[flat]at f
theorem uo:∀ (n:Nat) (ds:List D) (us:List Value),dh h θ μ ds us->flats n ds=true->∃ as,ReadsAll h us (MN ds) as
 |_,[],us,r,_=>by cases(show _=[]from r);exact⟨_,by unfold MN;exact .nil⟩
 |n,d::ds,_,⟨u,r,e,h1,h2⟩,f=>by
  have f':flat n d=true/\flats n ds=true:=by simpa[flats]using f
  obtain⟨as,ra⟩:=eZ n d u h1 f'.1;obtain⟨bs,rb⟩:=uo n ds r h2 f'.2;exact⟨as++bs,by rw[e];unfold MN;exact .cons ra rb⟩
end
end
theorem G8:∀ (x y:List Nat),dO x y=decide (x<y)
 |[],[]=>by simp[dO]|[],_::_=>by simp[dO]|_::_,[]=>by simp[dO]|a::x,b::y=>by
  unfold dO;by_cases h:a=b
  .subst h
   rw[if_pos rfl,G8 x y];simp[Qy]
  .rw[if_neg h]
   simp[Qy,h]
def SV (u:Value) (d:D):Prop:=(∃ i t,u= .int i t/\d= .int i)∨∃ x t,u= .str ⟨x.toArray⟩ t/\d= .str x
noncomputable abbrev SVs:List Value->List D->Prop:=Paired SV
theorem amB (h:SV u d) (k:SV v e):CW A s u v (mq d e):=by
 rcases h with⟨i,t,rfl,rfl⟩|⟨x,t,rfl,rfl⟩
 .rcases k with⟨j,t',rfl,rfl⟩|⟨y,t',rfl,rfl⟩
  .simp only[mq];exact aez i t j t'
  .simp only[mq];exact aeC i t _ t'
 .rcases k with⟨j,t',rfl,rfl⟩|⟨y,t',rfl,rfl⟩
  .simp only[mq];exact aeB _ t j t'
  .simp only[mq];rw[<-HY];exact aey _ t _ t'
theorem amA (h:SV u d) (k:SV v e) (hb:M8 d e=some b) (prog:aZ) (w:aQ) (E:Value->aj->Prop) (Q:Value->aj->Prop) (q:Q (.bool b) s):
  ak (aH prog w) A (O8 .Lt u v) Q E s:=by
 rcases h with⟨i,t,rfl,rfl⟩|⟨x,t,rfl,rfl⟩
 .rcases k with⟨j,t',rfl,rfl⟩|⟨y,t',rfl,rfl⟩
  .simp only[M8,qx]at hb
   subst hb;exact(adq q:ak (aH prog w) A (jM .Lt (.int i t) (.int j t')) Q E s)
  .simp[M8]at hb
 .rcases k with⟨j,t',rfl,rfl⟩|⟨y,t',rfl,rfl⟩
  .simp[M8]at hb
  .simp only[M8,qx]at hb
   subst hb;rw[G8]at q;exact(PySem.P.lt_str (by simpa using q):ak (aH prog w) A (jM .Lt (.str ⟨x.toArray⟩ t) (.str ⟨y.toArray⟩ t')) Q E s)
section
open PySem.SeqAt
open PySem.AutoSeq1 (wpAny_loadPart')
open PySem.MeetsSeq PySem.MeetsSeq2 PySem.MeetsSeq3
theorem abK (d e:D) (ds es:List D):wJ (d::ds) (e::es)=if mq d e then wJ ds es else M8 d e:=by rw[wJ]
theorem Sy (l b:Addr) (items items2:Array Value) (n n2:Nat) (dd dd2:Option Addr) (sl sl2:Array (Option Value)) (ns ms:List D) (r:Bool) (hi:SVs items.toList ns) (hj:SVs items2.toList ms) (hr:wJ ns ms=some r):
  Oq (rJ.«tuple.__lt__» ⟨[.ref l,.ref b],[]⟩)
   (fun _ R s=>s.heap.get? l=some {cls:=.type "tuple",dict:=dd,data:=.seq items n,slots:=sl}/\s.heap.get? b=some {cls:=.type "tuple",dict:=dd2,data:=.seq items2 n2,slots:=sl2}/\
    R (.ok (.ret (.bool r))) s):=
 .of_wp fun prog w A R s h=>by
  obtain⟨hp,g,d,tk,os⟩:=s;obtain⟨hl,hb,h⟩:=h;have f2:=afi;have z1:items.size=ns.length:=by rw[<-Py hi];simp
  have z2:items2.size=ms.length:=by rw[<-Py hj];simp
  wp_walk using Fq hl,Fq hb,wpAny_forIn_list _ (fun rest b s'=>b.1=none/\s'=⟨hp,g,d,tk,os⟩/\∃ (vs ws:List Value) (ns' ms':List D),rest=vs.zip ws/\
   SVs vs ns'/\SVs ws ms'/\ns'.length+items2.size=ms'.length+items.size/\wJ ns' ms'=some r) _
  case turn=>
   rintro⟨y,x⟩ rest b s' ⟨hb',rfl,vs,ws,ns',ms',hz,hvi,hwi,hlen,hR⟩;cases hvi with
   |nil=>rw[List.zip_nil_left]at hz;cases hz
   | @cons u du vs' apU hu aos=>
    cases hwi with
    |nil=>rw[Yl]at hz;cases hz
    | @cons v dv ws' apW hv aor=>
     rw[Js]at hz;injection hz with hyx hrest;injection hyx with hy hx;subst hy hx;rw[abK]at hR;simp only[bh]at hlen;have he:=amB (A:=A.in1) (s:=⟨hp,g,d,tk,os⟩) hu hv;refine aq (he prog w _ _ ?_);cases e:mq du dv with
     |true=>
      rw[e,if_pos rfl]at hR
      wp_walk
      exact⟨rfl,rfl,_,_,_,_,hrest,aos,aor,by lia,hR⟩
     |false=>
      rw[e,if_neg fH]at hR;have hri:=amA (A:=A.in1) (s:=⟨hp,g,d,tk,os⟩) hu hv hR prog w
      wp_walk using hri
      exact⟨_,rfl,by simpa using h⟩
  case fin=>
   rintro⟨b1,b2⟩ s' ⟨hb',rfl,vs,ws,ns',ms',hz,hvi,hwi,hlen,hR⟩;simp only at hb';subst hb';have hv:r=decide (items.size<items2.size):=by
    cases hvi with
    |nil=>
     cases hwi with
     |nil=>simp only[aN]at hlen;simp[wJ]at hR;rw[hR];exact(decide_eq_false (by lia)).symm|cons hu hw=>simp only[aN,bh]at hlen;simp[wJ]at hR;rw[hR];exact(decide_eq_true (by lia)).symm
    |cons hu hv=>
     cases hwi with
     |nil=>simp only[aN,bh]at hlen;simp[wJ]at hR;rw[hR];exact(decide_eq_false (by lia)).symm|cons hu' hw=>rw[Js]at hz;cases hz
   rw[hv]at h
   wp_walk
   exact⟨_,rfl,by simpa[akS]using h⟩
  case h=>exact⟨rfl,rfl,items.toList,items2.toList,ns,ms,rfl,hi,hj,by lia,hr⟩
end
theorem T5 {prog:aZ} {w:aQ} {A:aL} {E:Value->aj->Prop} {s:aj} {l b:Addr} {items items2:Array Value} {ns ms:List D} {r:Bool} {Q:Value->aj->Prop} (hl:yc s.heap l items) (hb:yc s.heap b items2) (hi:SVs items.toList ns) (hj:SVs items2.toList ms)
  (hr:wJ ns ms=some r) (hu:A.units<cLine) (h:Q (.bool r) s):ak (aH prog w) A (jM .Lt (.ref l) (.ref b)) Q E s:=by
 obtain⟨⟨cls,dd,data,sl⟩,ho,hc,n,hd⟩:=id hl;obtain⟨⟨cls2,dd2,data2,sl2⟩,ho2,hc2,n2,hd2⟩:=id hb;simp only at hc hd hc2 hd2;subst hc hd hc2 hd2;exact richCompare_meets_room (op:=.Lt) ⟨_,ho,rfl⟩ ⟨_,ho2,rfl⟩ PySem.F.slot_tuple_lt PySem.F.entry_tuple_lt (PySem.F.args_tuple_lt_2 _ _) (Sy l b items items2 n n2 dd dd2 sl sl2 ns ms r hi hj hr)
  ⟨ho,ho2,show jF r≠Value.notImplemented/\Q (.bool r) s from⟨(fun x=>nomatch x),h⟩⟩ hu
end DW
namespace DW
open PySem PySem.Spec PyProof.Rows
open L2 (aP Key frs wz Loc Look Mod tL cG)
section
variable {h:Heap} {θ:Th} {μ:Mem} {T:Top} {d:D} {ds:List D} {u:Value} {us:List Value} {a:Addr} {k:iH}
theorem nA:∀ {a b:iH},keyOf a=keyOf b->a=b
 | .inl _,.inl _,h=>by simp only[keyOf,Sum.inl.injEq]at h;rw[h]| .inl _,.inr _,h=>by cases h
 | .inr _,.inl _,h=>by cases h
 | .inr _,.inr _,h=>by simp only[keyOf,Sum.inr.injEq,adz]at h;exact congrArg _ (by simpa using congrArg Jd h)
theorem rY {a b:List iH} (h:a.map keyOf=b.map keyOf):a=b:=List.map_inj_right (fun _ _=>nA)|>.mp h
theorem key_is {P:aZ} {w:aQ} (e:za d=some k) (r:Rp h θ μ d u):(aP P w).is (keyOf k) u=true:=by
 cases d with
 |int i=>cases e;obtain⟨t,rfl⟩:=r;exact L2.T3 P w i t
 |str x=>cases e;obtain⟨⟨t,rfl⟩,_⟩:=r;exact L2.FQ P w _ t
 |_=>cases e
theorem Ub {P:aZ} {w:aQ}:∀ {ds:List D} {ks:List iH} {us:List Value},jV ds=some ks->dh h θ μ ds us->ItemsAre (aP P w) (ks.map keyOf) us
 |[],ks,us,e,r=>by cases e;cases(show us=[]from r);exact .nil
 |d::ds,ks,us,e,⟨u,r,q,x,y⟩=>by
  simp only[jV]at e;split at e
  .rename_i k hk
   cases e':jV ds with
   |none=>rw[e']at e;cases e
   |some ks'=>rw[e']at e;cases e;rw[q];exact .cons (key_is hk x) (Ub e' y)
  .cases e
theorem zV {P:aZ} {w:aQ} {ks:List iH} (e:jV ds=some ks) (r:Rp h θ μ (.tup ds) (.ref a)):(I6 (aP P w)).is h (ks.map keyOf) a:=by obtain⟨b,us,q,⟨_,o,n,h1,h2,h3,_⟩,_,rs⟩:=r;cases q;exact⟨o,us.toArray,n,h1,h2,h3,by simpa using Ub e rs⟩
theorem JV:∀ ks:List iH,jV (ks.map kD)=some ks
 |[]=>rfl| .inl i::ks=>by simp[jV,za,kD,JV ks]| .inr x::ks=>by simp[jV,za,kD,JV ks]
theorem ajw:∀ {ds:List D} {ks:List iH},jV ds=some ks->ds=ks.map kD
 |[],_,e=>by cases e;rfl
 |d::ds,ks,e=>by
  simp only[jV]at e;split at e
  .rename_i k hk
   cases e':jV ds with
   |none=>rw[e']at e;cases e
   |some ks' =>rw[e']at e;cases e;rw[aX,<-ajw e'];cases d<;>cases hk<;>rfl
  .cases e
theorem K9.of {ks:List (List iH)} (x:K9 T h θ μ a ks ds):∃ xs:List (List Key×Addr×Value),h.DictOfH (I6 (aP T.P T.w)) a xs/\
  xs.length<=sizeLine/\(a==kW)=false/\dh h θ μ (ks.map fun k=>.tup (k.map kD)) (xs.map fun x=>.ref x.2.1)/\xs.map (·.1)=ks.map (·.map keyOf)/\dh h θ μ ds (xs.map (·.2.2)):=by
 obtain⟨xs,⟨o,es,ep,h1,h2,h3,h4,h5⟩,l,y,t,k,z⟩:=x;refine⟨xs,⟨o,es,ep,h1,h2,h3,h4,fun x hx=>?_,h5⟩,l,y,t,k,z⟩;obtain⟨j,hj⟩:=List.getElem?_of_mem hx;have e:(ks.map (·.map keyOf))[j]?=some x.1:=by rw[<-k,jy,hj];rfl
 rw[jy]at e;obtain⟨q,hq,e⟩:=Am.mp e;obtain⟨u,hu,r⟩:=t.get (i:=j) (d:=.tup (q.map kD)) (by rw[jy,hq];rfl);rw[jy,hj]at hu;cases hu;rw[<-e];exact zV (JV q) r
theorem BJ {β κ κ':Type} [DecidableEq κ] [DecidableEq κ'] (f:κ->κ') (inj:∀ a b,f a=f b->a=b) (key:β->κ') (val:β->Value):∀ (ks:List κ) (ds:List D) (l:List β) (k:κ),l.map key=ks.map f->dh h θ μ ds (l.map val)->
  (∀ d,eX ks ds k=some d->∃ x,l.find? (fun x=>decide (key x=f k))=some x/\Rp h θ μ d (val x))/\(l.find? fun x=>decide (key x=f k)).isSome=UL ks k/\(eX ks ds k=none->l.find? (fun x=>decide (key x=f k))=none)
 |[],ds,l,k,e,_=>by cases(show l=[] by simpa using e);exact⟨fun d q=>by simp[eX]at q,by simp[UL],fun _=>rfl⟩
 |c::ks,[],[],_,e,_=>by simp at e|c::ks,[],x::l,_,_,r=>by simp[dh]at r|c::ks,d::ds,[],_,e,_=>by simp at e|c::ks,d::ds,x::l,k,e,⟨u,r,q,h1,h2⟩=>by
  simp only[aX,m6]at e q;obtain⟨rfl,rfl⟩:=q;obtain⟨i1,i2,i3⟩:=BJ f inj key val ks ds l k e.2 h2;rw[yG];by_cases z:c=k
  .subst z
   simp only[e.1,decide_true,eX,if_true,Ym];exact⟨fun d' y=>by cases y;exact⟨x,rfl,h1⟩,by simp[UL],fun y=>by cases y⟩
  .simp only[e.1,decide_eq_false (fun y=>z (inj _ _ y)),eX,if_neg z]
   exact⟨i1,by rw[i2];simp[UL,bL z],i3⟩
end
section
variable {X:Cx} {ρ:dH} {θ:Th} {μ:Mem} {s:aj} {d e:D} {u v:Value} {ds:List D} {Qd:QD} {Q:Value->aj->Prop} {E:Value->aj->Prop} {a:Addr} {k:Nat} {A:aL}
theorem amy {h:Heap} (r:Rp h θ μ d u) (e:sc2 d=true):SV u d:=by
 cases d with
 |int i=>obtain⟨t,rfl⟩:=r;exact .inl ⟨i,t,rfl,rfl⟩|str x=>obtain⟨⟨t,rfl⟩,_⟩:=r;exact .inr ⟨x,t,rfl,rfl⟩|_=>cases e
theorem Wc {h:Heap}:∀ {ds:List D} {us:List Value},dh h θ μ ds us->ds.all sc2=true->SVs us ds
 |[],us,r,_=>by cases(show us=[]from r);exact .nil
 |d::ds,_,⟨u,r,q,x,y⟩,e=>by simp only[adF,bM]at e;rw[q];exact .cons (amy x e.1) (Wc y e.2)
theorem Uo {h:Heap} (r:Rp h θ μ d u):(u==fY)=pI d:=by
 cases d with
 |non=>cases(show u=fY from r);rfl
 |bl b=>cases(show u=jF b from r);rfl
 |int i=>obtain⟨t,rfl⟩:=r;rfl|str x=>obtain⟨⟨t,rfl⟩,_⟩:=r;rfl|tup ds=>obtain⟨a,_,rfl,_⟩:=r;rfl|lst ds=>obtain⟨a,_,rfl,_⟩:=r;rfl|ro ds=>obtain⟨a,_,rfl,_⟩:=r;rfl|loc n=>obtain⟨p,rfl,_⟩:=r;rfl|_=>exact r.elim
def aaG (h:Heap) (d:D) (w:Value):Bool:=open Classical in decide (∃ q as,Reads h w q as/\q.canLay0=true/\nZ q (pd d)=true)
theorem Ur {h:Heap} (r:Rp h θ μ e u) (f1:flat 60 e=true) (f2:flat 60 d=true):aaG h d u=mq e d:=by
 obtain⟨as,ra⟩:=eZ 60 e u r f1;have c:=dY _ _ f1;unfold aaG;rw[<-zx 60 60 e d f1 f2];cases z:nZ (pd e) (pd d) with
 |true=>exact @decide_eq_true _ (QH _) ⟨pd e,as,ra,c,z⟩|false=>exact @decide_eq_false _ (QH _) fun⟨q,as',ra',c',z'⟩=>by rw[akG q (pd e) _ _ _ c' ra' ra,z]at z';cases z'
theorem Uv {j:Nat} (hu:A.units+64<cLine) (f2:flat 60 d=true) (rd:Rp s.heap θ μ d v):∀ {ds:List D} {us:List Value},dh s.heap θ μ ds us->flats 60 ds=true->
  (∀ w∈us,CW A.in1 s w v (aaG s.heap d w))/\us.any (aaG s.heap d)=ds.any fun d'=>mq d' d
 |[],us,r,_=>by cases(show us=[]from r);exact⟨fun _ m=>(ur m).elim,rfl⟩
 |e::ds,_,⟨u,r,q,x,y⟩,f1=>by
  have f1':flat 60 e=true/\flats 60 ds=true:=by simpa[flats]using f1
  obtain⟨i1,i2⟩:=Uv (j:=j) hu f2 rd y f1'.2;subst q;refine⟨fun w m=>?_,by rw[Ji,Ji,i2,Ur x f1'.1 f2]⟩;rcases bC.mp m with rfl|m
  .obtain⟨as,ra⟩:=eZ 60 e w x f1'.1
   obtain⟨bs,rb⟩:=eZ 60 d v rd f2;rw[Ur x f1'.1 f2,<-zx 60 60 e d f1'.1 f2];have hd:=BP _ _ f2;exact SeqAt.eqAt_reads (pd e) (pd d) A.in1 s w v as bs ra rb (dY _ _ f1'.1) (dY _ _ f2) (by show A.units+1+_<cLine;lia)
  .exact i1 w m
theorem ajy (hu:X.A.units+64<cLine) (i:Iv X ρ θ μ s) (rd:Rp s.heap θ μ d u) (re:Rp s.heap θ μ e v) (neg:Bool) (op:jd) (ho:op=if neg=true then .NotIn else .In)
  (hw:(∃ t c,e= .str t/\d= .str [c]/\Qd (.bl (neg !=t.contains c)) μ)∨(∃ ds,aB μ e=some ds/\flats 60 ds=true/\flat 60 d=true/\Qd (.bl (neg !=ds.any fun d'=>mq d' d)) μ)∨ahC neg d e μ Qd)
  (bl:∀ {b:Bool},Qd (.bl b) μ->∀ t,Q (.bool b) {s with toks:=t}):ak X.M X.A (jM op u v) Q E s:=by
 rcases hw with⟨t,c,rfl,rfl,q⟩|⟨ds,hq,f1,f2,q⟩|hD
 .obtain⟨⟨t1,rfl⟩,_⟩:=rd
  obtain⟨⟨t2,rfl⟩,_⟩:=re;have q2:=StrLaws.found_one ⟨t.toArray⟩ c;have q2:_=t.contains c:=q2.trans (by simp);rw[<-q2]at q;subst ho;cases neg with
  |false=>exact in_str (bl (by simpa using q) s.toks)|true=>exact notIn_str (bl (by simpa using q) s.toks)
 .obtain⟨a,us,rfl,x,r⟩:=wR i.dJ re hq
  obtain⟨i1,i2⟩:=Uv (j:=0) hu f2 rd r f1;rw[<-i2]at q;subst ho;by_cases hk:Wi e=0
  .rw[hk]at x
   cases neg with
   |false=>exact SeqAt.in_tupleAt _ (gA x) (fun y hy=>i1 y (by simpa using hy)) (by rw[Qk];exact bl (by simpa using q) s.toks)|true=>exact SeqAt.notIn_tupleAt _ (gA x) (fun y hy=>i1 y (by simpa using hy)) (by rw[Qk];exact bl (by simpa using q) s.toks)
  .cases neg with|false=>exact SeqAt.in_listAt _ (gB x hk).isList (fun y hy=>i1 y (by simpa using hy)) (by rw[Qk];exact bl (by simpa using q) s.toks)|true=>exact SeqAt.notIn_listAt _ (gB x hk).isList (fun y hy=>i1 y (by simpa using hy)) (by rw[Qk];exact bl (by simpa using q) s.toks)
 .unfold ahC at hD
  split at hD
  .rename_i n
   obtain⟨p,rfl,hp⟩:=re;split at hD
   .rename_i ks ds hn
    obtain⟨⟨kvs,hd,l,hs,hk,r⟩,_⟩:=i.dJ.cell n _ p hn hp;split at hD
    .rename_i k ek
     have z:=(BJ keyOf (fun _ _=>nA) (·.1) (·.2) ks ds kvs k hk r).2.1
     (have z':(pP kvs (keyOf k)).isSome=UL ks k:=by rw[<-z];unfold pP;rw[Qo]);rw[<-z']at hD;subst ho;cases neg with
     |false=>exact wpAny_in_of (key_is ek rd) hs hd.mapOf (bl (by simpa using hD) _)|true=>exact wpAny_notIn_of (key_is ek rd) hs hd.mapOf (bl (by simpa using hD) _)
    .exact hD.elim
   .rename_i ks ds hn
    obtain⟨hx,_⟩:=i.dJ.cell n _ p hn hp;obtain⟨xs,hd,l,hs,_,hk,r⟩:=hx.of;split at hD
    .rename_i es
     split at hD
     .rename_i k ek
      have z:=(BJ (fun k:List iH=>k.map keyOf) (fun _ _=>rY) (·.1) (·.2.2) ks ds xs k hk r).2.1
      (have z':(jH xs (k.map keyOf)).isSome=UL ks k:=by rw[<-z];unfold jH;rw[Qo]);rw[<-z']at hD;obtain⟨b,us,rfl,_⟩:=id rd;subst ho;cases neg with
      |false=>exact wpAny_in_heap (Qt (by lia)) (zV ek rd) hs hd (bl (by simpa using hD) _)|true=>exact wpAny_notIn_heap (Qt (by lia)) (zV ek rd) hs hd (bl (by simpa using hD) _)
     .exact hD.elim
    .exact hD.elim
   .exact hD.elim
  .exact hD.elim
theorem Fb (hr:cG k X.A) (op:jd):Op2 X (jM op) (cP op):=by
 intro s ρ θ μ d e u v Qd Q E i rd re hw f;have hu:X.A.units+64<cLine:=hr.units;have bl:∀ {b:Bool},Qd (.bl b) μ->∀ t,Q (.bool b) {s with toks:=t}:=fun q t=>f.tok i Tv q;have eqs:∀ {neg:Bool},(flat 60 d=true/\flat 60 e=true/\Qd (.bl (neg !=mq d e)) μ)->ak X.M X.A (jM (if neg=true then .NotEq else .Eq) u v) Q E s:=fun {neg} ⟨f1,f2,q⟩=>by
  obtain⟨as,ra⟩:=eZ 60 d u rd f1;obtain⟨bs,rb⟩:=eZ 60 e v re f2;have:=BP _ _ f1;cases neg with
  |false=>exact ae4 ra rb (dY _ _ f1) (dY _ _ f2) (by lia) (by rw[zx _ _ _ _ f1 f2];exact bl (by simpa using q) s.toks)|true=>exact ae3 ra rb (dY _ _ f1) (dY _ _ f2) (by lia) (by rw[zx _ _ _ _ f1 f2];exact bl (by simpa using q) s.toks)
 cases op with
 |Eq=>exact eqs (neg:=false) ⟨hw.1,hw.2.1,by simpa using hw.2.2⟩|NotEq=>
  have hw:(∃ n,d= .loc n/\R6 n e μ Qd)∨(flat 60 d=true/\flat 60 e=true/\Qd (.bl (!mq d e)) μ):=by
   cases d with
   |loc n=>exact .inl ⟨n,rfl,show R6 n e μ Qd from hw⟩|_=>exact .inr hw
  rcases hw with⟨n,rfl,hw⟩|hw
  .have hw:R6 n e μ Qd:=hw
   unfold R6 at hw;split at hw
   .rename_i ds hn
    obtain⟨p,us,rfl,_,_,x,r⟩:=Iv.lst i.dJ hn rd;split at hw
    .obtain⟨b,vs,rfl,y,_,r2⟩:=re
     cases r2.nil_inv;have pl:=gB x (by decide);have pl2:=gB y (by decide);have l:=r.length;cases ds with
     |nil=>cases r.nil_inv;exact akF (e:=fun _=>true) pl.isList pl2.isList rfl (by lia) (fun j h1 h2=>absurd h1 (by simp)) _ _ _ _ (bl hw s.toks)
     |cons d0 ds=>exact akP pl.isList pl2.isList (by simp at l ⊢;rw[<-Ao,l];simp) (by lia) _ _ _ _ (bl hw s.toks)
    .exact hw.elim
   .exact hw.elim
  .exact eqs (neg:=true) (by simpa using hw)
 |Lt=>
  simp only[cP]at hw
  match d,e,hw with
  | .int a,.int b,hw=>obtain⟨t,rfl⟩:=rd;obtain⟨t',rfl⟩:=re;exact adq (bl hw s.toks)| .str a,.str b,hw=>obtain⟨⟨t,rfl⟩,_⟩:=rd;obtain⟨⟨t',rfl⟩,_⟩:=re;refine lt_str (bl ?_ s.toks);simp only[M8,G8]at hw;simpa using hw| .tup ds,.tup es,hw=>
   simp only[M8]at hw;split at hw
   .rename_i r hl
    split at hl
    .rename_i hsc
     rw[bM]at hsc;obtain⟨a,us,rfl,x,_,r1⟩:=rd;obtain⟨b,vs,rfl,y,_,r2⟩:=re;exact T5 (gA x) (gA y) (by simpa using Wc r1 hsc.1) (by simpa using Wc r2 hsc.2) hl (by lia) (bl hw s.toks)
    .cases hl
   .exact hw.elim
 |LtE=>
  match d,e,hw with
  | .int a,.int b,hw=>obtain⟨t,rfl⟩:=rd;obtain⟨t',rfl⟩:=re;exact le_int (bl hw s.toks)| .str a,.str b,hw=>obtain⟨⟨t,rfl⟩,_⟩:=rd;obtain⟨⟨t',rfl⟩,_⟩:=re;have hw:Qd (.bl (!dO b a)) μ:=hw;refine PySem.P.le_str (bl ?_ s.toks);rw[G8]at hw;simpa using hw
 |Gt=>
  match d,e,hw with
  | .int a,.int b,hw=>obtain⟨t,rfl⟩:=rd;obtain⟨t',rfl⟩:=re;exact gt_int (bl hw s.toks)
 |GtE=>
  match d,e,hw with
  | .int a,.int b,hw=>obtain⟨t,rfl⟩:=rd;obtain⟨t',rfl⟩:=re;exact ge_int (bl hw s.toks)
 |Is=>
  match e,hw with
  | .non,hw=>cases(show v=fY from re);exact is_none_gen (by rw[Uo rd];exact bl hw s.toks)
  | .bl b,hw=>
   cases d with
   |bl a=>cases(show u=jF a from rd);cases(show v=jF b from re);exact is_bool (bl hw s.toks)
   |_=>exact hw.elim
 |IsNot=>
  match e,hw with
  | .non,hw=>cases(show v=fY from re);exact isnot_none_gen (by rw[Uo rd];exact bl hw s.toks)
  | .bl b,hw=>
   cases d with
   |bl a=>cases(show u=jF a from rd);cases(show v=jF b from re);exact isnot_bool (bl hw s.toks)
   |_=>exact hw.elim
 |In=>
  refine ajy hu i rd re false _ rfl ?_ bl
  match e,hw with
  | .str t,hw=>
   match d,hw with
   | .str [c],hw=>exact .inl ⟨t,c,rfl,rfl,by have hw:Qd (.bl (t.contains c)) μ:=hw;simpa using hw⟩
  | .non,hw| .bl _,hw| .int _,hw| .tup _,hw| .lst _,hw| .ro _,hw| .loc _,hw| .jZ _ _,hw=>
   right;simp only[cP]at hw;split at hw
   .rename_i ds hq;exact .inl ⟨ds,hq,hw.1,hw.2.1,by simpa using hw.2.2⟩
   .exact .inr hw
 |NotIn=>
  refine ajy hu i rd re true _ rfl ?_ bl
  match e,hw with
  | .str t,hw=>
   match d,hw with
   | .str [c],hw=>exact .inl ⟨t,c,rfl,rfl,by have hw:Qd (.bl (!t.contains c)) μ:=hw;simpa using hw⟩
  | .non,hw| .bl _,hw| .int _,hw| .tup _,hw| .lst _,hw| .ro _,hw| .loc _,hw| .jZ _ _,hw=>
   right;simp only[cP]at hw;split at hw
   .rename_i ds hq;exact .inl ⟨ds,hq,hw.1,hw.2.1,by simpa using hw.2.2⟩
   .exact .inr hw
end
end DW
namespace DW
open PySem
structure Ctx where
 N:List Str
 names:List (Str×gZ)
 iG:List Str
 calm:Bool
 rs:Bool
noncomputable abbrev Ctx.in_ (c:Ctx) (N:List Str) (names:List (Str×gZ)):Ctx:=⟨N,names,c.iG,c.calm,true⟩
noncomputable abbrev Ctx.of (N:List Str) (names:List (Str×gZ)) (iG:List Str):Ctx:=⟨N,names,iG,true,true⟩
def Ctx.vis (c:Ctx) (x:Str):Bool:=match c.names.lookup x with|some .local=>true|some .cell=>true|some .free=>true|_=>false
def Ctx.loc (c:Ctx) (x:Str):Bool:=match c.names.lookup x with|some .local=>true|some .cell=>true|_=>false
def Ctx.Bt (c:Ctx) (x:Str):Bool:=match c.names.lookup x with|some .globalImplicit=>true|_=>false
def Ctx.at_ (c:Ctx) (i:Nat) (x:Str):Bool:=match c.N[i]? with|some y=>decide (y=x)|none=>false
def gF (x:Str):Bool:=(x==("__debug__":Str))||(x==("__classdict__":Str))
def mC:Const->D->Bool
 | .none,.non=>true| .bool a,.bl b=>a==b| .int i,.int j=>i==j| .str s,.str x=>decide (s.cps.toList=x)&&decide (x.length<=16777216)|_,_=>false
def notStar:Expr->Bool
 | .Starred ..=>false|_=>true
def jP:Expr->Bool
 | .Set ..=>false|_=>true
def iM:Expr->Bool
 | .ListComp ..=>false| .SetComp ..=>false| .DictComp ..=>false|_=>true
def eE:Expr->Bool
 | .Name ..=>true| .Constant ..=>true| .BinOp ..=>true| .UnaryOp ..=>true| .Call ..=>true| .Subscript ..=>true| .Attribute ..=>true| .Tuple ..=>true|_=>false
def m8:Expr->Bool
 | .Name ..=>true| .Subscript ..=>true| .Attribute ..=>true| .Constant ..=>true| .Call (.Name ..) (_::_) _ _=>true| .Call (.Attribute ..) _ _ _=>true|_=>false
theorem ZR (h:m8 (.Call f as ks p)=true):(∃ x q a r,f= .Name x q/\as=a::r)∨∃ o m q,f= .Attribute o m q:=by
 cases f with
 |Name x q=>cases as with|nil=>exact(fH h).elim|cons a r=>exact .inl ⟨x,q,a,r,rfl,rfl⟩
 |Attribute o m q=>exact .inr ⟨o,m,q,rfl⟩|_=>exact(fH h).elim
def aha (x:String):Str:=if x="mlist" then "list" else if x="msorted" then "sorted" else if x="isorted" then "sorted" else if x="dsorted" then "sorted" else if x="min3" then "min" else if x="tsorted" then "sorted" else if x="mtsorted" then "sorted" else aD x
def cT (c:Ctx) (x:Str):Bool:=c.Bt x&&c.iG.contains x
def lZ (c:Ctx):List Nat->Option (List Str)
 |[]=>some []|i::is=>match c.N[i]?,lZ c is with|some x,some r=>some (x::r)|_,_=>none
def KQ (c:Ctx) (scope:Scope) (Nc:List Str) (cap:List Str):Bool:=
 (scope.kind== .function)&&scope.names.all (fun y=>y.2 != .cell||(scope.names.lookup y.1==some .cell))&&scope.names.all (fun y=>y.2 != .local||(scope.names.lookup y.1==some .local))&&
 decide (Nc.Nodup)&&cap.all (fun y=>scope.names.lookup y==some .free)&&scope.names.all (fun y=>y.2 != .free||(c.names.lookup y.1==some .cell||c.names.lookup y.1==some .free))
def namesOf:List Expr->Option (List Str)
 |[]=>some []| .Name x _::as=>(namesOf as).map (x::·)|_::_=>none
def GR (tt:Bool) (a:Expr):Option (List Str):=match tt with
 |false=>match a with| .Name x _=>some [x]|_=>none
 |true=>match a with| .Tuple ts _ _=>namesOf ts|_=>none
def jR (c:Ctx):List Nat->List Expr->Bool
 |[],[]=>true|i::is,a::as=>(match a with| .Name x _=>c.at_ i x&&c.loc x|_=>false)&&jR c is as|_,_=>false
def mTg (c:Ctx) (is:List Nat) (tt:Bool) (a:Expr):Bool:=
 match tt with
 |false=>jR c is [a]|true=>match a with| .Tuple ts _ _=>jR c is ts|_=>false
def wM (tt:Bool):It->Bool
 | .enum _=>tt|_=>true
def opt {α:Type} (o:Option α) (f:α->Bool):Bool:=match o with|some x=>f x|none=>false
theorem au (h:opt o f=true):∃ x,o=some x/\f x=true:=by
 cases o with
 |none=>exact(fH h).elim|some x=>exact⟨x,rfl,h⟩
theorem ao {α:Type} {x:α} {P:Prop} (h:none=some x):P:=(Option.some_ne_none x h.symm).elim
def qg:Expr->Option Str
 | .Name x _=>some x|_=>none
theorem nq {a:Expr} {t:Str} (h:qg a=some t):∃ p,a= .Name t p:=by
 cases a with
 |Name x p=>cases cM (show some x=some t from h);exact⟨p,rfl⟩
 |_=>exact ao h
def V1:Expr->Option Const
 | .Constant k _ _=>some k|_=>none
theorem V0 {a:Expr} {t:Const} (h:V1 a=some t):∃ j p,a= .Constant t j p:=by
 cases a with
 |Constant k j p=>cases cM (show some k=some t from h);exact⟨j,p,rfl⟩
 |_=>exact ao h
def aj5:Expr->Option (Expr×jL×Expr)
 | .BinOp l o r _=>some (l,o,r)|_=>none
theorem acL {a:Expr} {t:(Expr×jL×Expr)} (h:aj5 a=some t):∃ p,a= .BinOp t.1 t.2.1 t.2.2 p:=by
 cases a with
 |BinOp l o r p=>cases cM (show some (l,o,r)=some t from h);exact⟨p,rfl⟩
 |_=>exact ao h
def vIf:Expr->Option (Expr×Expr×Expr)
 | .IfExp x y z _=>some (x,y,z)|_=>none
theorem ahE {a:Expr} {t:(Expr×Expr×Expr)} (h:vIf a=some t):∃ p,a= .IfExp t.1 t.2.1 t.2.2 p:=by
 cases a with
 |IfExp x y z p=>cases cM (show some (x,y,z)=some t from h);exact⟨p,rfl⟩
 |_=>exact ao h
def Cu:Expr->Option (Expr×Expr)
 | .Subscript x y _=>some (x,y)|_=>none
theorem qe {a:Expr} {t:(Expr×Expr)} (h:Cu a=some t):∃ p,a= .Subscript t.1 t.2 p:=by
 cases a with
 |Subscript x y p=>cases cM (show some (x,y)=some t from h);exact⟨p,rfl⟩
 |_=>exact ao h
def acE:Expr->Option (List Expr)
 | .Tuple x _ _=>some x|_=>none
theorem Sh {a:Expr} {t:(List Expr)} (h:acE a=some t):∃ k p,a= .Tuple t k p:=by
 cases a with
 |Tuple x k p=>cases cM (show some x=some t from h);exact⟨k,p,rfl⟩
 |_=>exact ao h
def aj4:Expr->Option (List Expr)
 | .List x _=>some x|_=>none
theorem acI {a:Expr} {t:(List Expr)} (h:aj4 a=some t):∃ p,a= .List t p:=by
 cases a with
 |List x p=>cases cM (show some x=some t from h);exact⟨p,rfl⟩
 |_=>exact ao h
def HB:Expr->Option (Expr×Str)
 | .Attribute x y _=>some (x,y)|_=>none
theorem Cv {a:Expr} {t:(Expr×Str)} (h:HB a=some t):∃ p,a= .Attribute t.1 t.2 p:=by
 cases a with
 |Attribute x y p=>cases cM (show some (x,y)=some t from h);exact⟨p,rfl⟩
 |_=>exact ao h
def aj3:Expr->Option Expr
 | .UnaryOp .USub l _=>some l|_=>none
theorem acH {a:Expr} {t:Expr} (h:aj3 a=some t):∃ p,a= .UnaryOp .USub t p:=by
 cases a with
 |UnaryOp o l p=>
  cases o with
  |USub=>cases cM (show some l=some t from h);exact⟨p,rfl⟩
  |_=>exact ao h
 |_=>exact ao h
def aj2:Expr->Option Expr
 | .UnaryOp .Not l _=>some l|_=>none
theorem acG {a:Expr} {t:Expr} (h:aj2 a=some t):∃ p,a= .UnaryOp .Not t p:=by
 cases a with
 |UnaryOp o l p=>
  cases o with
  |Not=>cases cM (show some l=some t from h);exact⟨p,rfl⟩
  |_=>exact ao h
 |_=>exact ao h
def V2:Expr->Option (Expr×jd×Expr)
 | .Compare l [o] [r] _=>some (l,o,r)|_=>none
theorem Hz {a:Expr} {t:(Expr×jd×Expr)} (h:V2 a=some t):∃ p,a= .Compare t.1 [t.2.1] [t.2.2] p:=by
 cases a with
 |Compare l os rs p=>
  match os,rs,h with
  |[o],[r],h=>cases cM (show some (l,o,r)=some t from h);exact⟨p,rfl⟩
  |[],_,h=>exact ao h|_::_::_,_,h=>exact ao h|[_],[],h=>exact ao h|[_],_::_::_,h=>exact ao h
 |_=>exact ao h
def acK:Expr->Option (Expr×jd×jd×Expr×Expr)
 | .Compare l [o,q] [m,r] _=>some (l,o,q,m,r)|_=>none
theorem abe {a:Expr} {t:(Expr×jd×jd×Expr×Expr)} (h:acK a=some t):∃ p,a= .Compare t.1 [t.2.1,t.2.2.1] [t.2.2.2.1,t.2.2.2.2] p:=by
 cases a with
 |Compare l os rs p=>
  match os,rs,h with
  |[o,q],[m,r],h=>cases cM (show some (l,o,q,m,r)=some t from h);exact⟨p,rfl⟩
  |[],_,h=>exact ao h|[_],_,h=>exact ao h|_::_::_::_,_,h=>exact ao h|[_,_],[],h=>exact ao h|[_,_],[_],h=>exact ao h|[_,_],_::_::_::_,h=>exact ao h
 |_=>exact ao h
def aj6:Expr->Option (Expr×Expr)
 | .BoolOp .And (v::w::rest) p=>some (v,match rest with|[]=>w|_::_=>.BoolOp .And (w::rest) p)|_=>none
theorem acM {a:Expr} {t:Expr×Expr} (h:aj6 a=some t):(∃ p,a= .BoolOp .And [t.1,t.2] p)∨∃ w z rest p,a= .BoolOp .And (t.1::w::z::rest) p/\t.2= .BoolOp .And (w::z::rest) p:=by
 cases a with
 |BoolOp o vs p=>
  cases o with
  |And=>
   match vs,h with
   |[v,w],h=>cases cM (show some (v,w)=some t from h);exact .inl ⟨p,rfl⟩
   |v::w::z::rest,h=>cases cM (show some (v,.BoolOp .And (w::z::rest) p)=some t from h);exact .inr ⟨w,z,rest,p,rfl,rfl⟩
   |[],h=>exact ao h|[_],h=>exact ao h
  |_=>exact ao h
 |_=>exact ao h
def vOr:Expr->Option (Expr×Expr)
 | .BoolOp .Or (v::w::rest) p=>some (v,match rest with|[]=>w|_::_=>.BoolOp .Or (w::rest) p)|_=>none
theorem ahD {a:Expr} {t:Expr×Expr} (h:vOr a=some t):(∃ p,a= .BoolOp .Or [t.1,t.2] p)∨∃ w z rest p,a= .BoolOp .Or (t.1::w::z::rest) p/\t.2= .BoolOp .Or (w::z::rest) p:=by
 cases a with
 |BoolOp o vs p=>
  cases o with
  |Or=>
   match vs,h with
   |[v,w],h=>cases cM (show some (v,w)=some t from h);exact .inl ⟨p,rfl⟩
   |v::w::z::rest,h=>cases cM (show some (v,.BoolOp .Or (w::z::rest) p)=some t from h);exact .inr ⟨w,z,rest,p,rfl,rfl⟩
   |[],h=>exact ao h|[_],h=>exact ao h
  |_=>exact ao h
 |_=>exact ao h
def lK:Expr->Option (Str×List Expr)
 | .Call (.Name y _) as [] _=>some (y,as)|_=>none
theorem iJ {a:Expr} {t:(Str×List Expr)} (h:lK a=some t):∃ p q,a= .Call (.Name t.1 p) t.2 [] q:=by
 cases a with
 |Call f as ks q=>
  cases f with
  |Name y p=>
   cases ks with
   |nil=>cases cM (show some (y,as)=some t from h);exact⟨p,q,rfl⟩
   |cons _ _=>exact ao h
  |_=>exact ao h
 |_=>exact ao h
def V6:Expr->Option (Expr×List Expr)
 | .Call f as [] _=>some (f,as)|_=>none
theorem V5 {a:Expr} {t:Expr×List Expr} (h:V6 a=some t):∃ q,a= .Call t.1 t.2 [] q:=by
 cases a with
 |Call f as ks q=>
  cases ks with
  |nil=>cases cM (show some (f,as)=some t from h);exact⟨q,rfl⟩
  |cons _ _=>exact ao h
 |_=>exact ao h
def V4:Expr->Option (Str×Expr×Dd)
 | .Call (.Name y _) [l] [k] _=>some (y,l,k)|_=>none
theorem V3 {a:Expr} {t:(Str×Expr×Dd)} (h:V4 a=some t):∃ p q,a= .Call (.Name t.1 p) [t.2.1] [t.2.2] q:=by
 cases a with
 |Call f as ks q=>
  cases f with
  |Name y p=>
   match as,ks,h with
   |[l],[k],h=>cases cM (show some (y,l,k)=some t from h);exact⟨p,q,rfl⟩
   |[],_,h=>exact ao h|[_],[],h=>exact ao h|[_],_::_::_,h=>exact ao h|_::_::_,_,h=>exact ao h
  |_=>exact ao h
 |_=>exact ao h
def zT:Expr->Option (Expr×Str×List Expr×Bool)
 | .Call (.Attribute o m p) as [] q=>some (o,m,as,p.endLine==q.line)|_=>none
theorem vK {a:Expr} {t:(Expr×Str×List Expr×Bool)} (h:zT a=some t):∃ p q,a= .Call (.Attribute t.1 t.2.1 p) t.2.2.1 [] q/\t.2.2.2=(p.endLine==q.line):=by
 cases a with
 |Call f as ks q=>
  cases f with
  |Attribute o m p=>
   cases ks with
   |nil=>cases cM (show some (o,m,as,p.endLine==q.line)=some t from h);exact⟨p,q,rfl,rfl⟩
   |cons _ _=>exact ao h
  |_=>exact ao h
 |_=>exact ao h
def aj1:Expr->Option (Expr×Option Expr×Option Expr)
 | .Subscript x (.Slice lo hi none _) _=>some (x,lo,hi)|_=>none
theorem acF {a:Expr} {t:(Expr×Option Expr×Option Expr)} (h:aj1 a=some t):∃ p q,a= .Subscript t.1 (.Slice t.2.1 t.2.2 none p) q:=by
 cases a with
 |Subscript x y q=>
  cases y with
  |Slice lo hi st p=>
   cases st with
   |none=>cases cM (show some (x,lo,hi)=some t from h);exact⟨p,q,rfl⟩
   |some _=>exact ao h
  |_=>exact ao h
 |_=>exact ao h
def aj0:List Expr->Option (Expr×Expr)
 |[x,y]=>some (x,y)|_=>none
theorem acD {a:List Expr} {t:Expr×Expr} (h:aj0 a=some t):a=[t.1,t.2]:=by
 match a,h with
 |[x,y],h=>cases cM (show some (x,y)=some t from h);rfl
 |[],h=>exact ao h|[_],h=>exact ao h|_::_::_::_,h=>exact ao h
def VJ:Option Expr->Option (List Nat)
 |some (.Constant (.str s) _ _)=>some s.cps.toList|_=>none
theorem tO (h:VJ a=some k):∃ s j p,a=some (.Constant (.str s) j p)/\s.cps.toList=k:=by
 unfold VJ at h;split at h
 .exact⟨_,_,_,rfl,cM h⟩
 .cases h
def vD3:List (Option Expr)->List Expr->Option ((List Nat×List Nat×List Nat)×Expr×Expr×Expr)
 |[a,b,c],[x,y,z]=>(VJ a).bind fun i=>(VJ b).bind fun j=>(VJ c).map fun k=>((i,j,k),x,y,z)
 |_,_=>none
def NT:Expr->Option ((List Nat×List Nat×List Nat)×Expr×Expr×Expr)
 | .Dict ks vs _=>vD3 ks vs|_=>none
theorem VL (h:NT e=some t):∃ s1 j1 p1 s2 j2 p2 s3 j3 p3 p,e= .Dict [some (.Constant (.str s1) j1 p1),some (.Constant (.str s2) j2 p2),some (.Constant (.str s3) j3 p3)] [t.2.1,t.2.2.1,t.2.2.2] p/\s1.cps.toList=t.1.1/\s2.cps.toList=t.1.2.1/\s3.cps.toList=t.1.2.2:=by
 unfold NT at h;split at h
 .rename_i ks vs p
  unfold vD3 at h;split at h
  .rename_i a b c x y z
   obtain⟨i,hi,h⟩:=QG.mp h;obtain⟨j,hj,h⟩:=QG.mp h;obtain⟨k,hk,h⟩:=Am.mp h;subst h;obtain⟨s1,j1,p1,rfl,e1⟩:=tO hi;obtain⟨s2,j2,p2,rfl,e2⟩:=tO hj;obtain⟨s3,j3,p3,rfl,e3⟩:=tO hk;exact⟨s1,j1,p1,s2,j2,p2,s3,j3,p3,p,rfl,e1,e2,e3⟩
  .cases h
 .cases h
def vD2:List (Option Expr)->List Expr->Option ((List Nat×List Nat)×Expr×Expr)
 |[a,b],[x,y]=>(VJ a).bind fun i=>(VJ b).map fun k=>((i,k),x,y)
 |_,_=>none
def NZ:Expr->Option ((List Nat×List Nat)×Expr×Expr)
 | .Dict ks vs _=>vD2 ks vs|_=>none
theorem VN (h:NZ e=some t):∃ s1 j1 p1 s2 j2 p2 p,e= .Dict [some (.Constant (.str s1) j1 p1),some (.Constant (.str s2) j2 p2)] [t.2.1,t.2.2] p/\s1.cps.toList=t.1.1/\s2.cps.toList=t.1.2:=by
 unfold NZ at h;split at h
 .rename_i ks vs p
  unfold vD2 at h;split at h
  .obtain⟨i,hi,h⟩:=QG.mp h
   obtain⟨k,hk,h⟩:=Am.mp h;subst h;obtain⟨s1,j1,p1,rfl,e1⟩:=tO hi;obtain⟨s2,j2,p2,rfl,e2⟩:=tO hk;exact⟨s1,j1,p1,s2,j2,p2,p,rfl,e1,e2⟩
  .cases h
 .cases h
def aiM:E->Bool
 | .cst .non=>true|_=>false
theorem agr (h:aiM e=true):e= .cst .non:=by
 unfold aiM at h;split at h
 .rfl
 .cases h
def VR:Expr->Bool
 | .Dict [] [] _=>true|_=>false
theorem VP (h:VR a=true):∃ p,a= .Dict [] [] p:=by
 unfold VR at h;split at h
 .exact⟨_,rfl⟩
 .cases h
def acJ:Expr->Option (Expr×Expr×Expr×List Expr×Scope)
 | .ListComp e [g] s _=>if g.is_async=0 then some (e,g.target,g.iter,g.ifs,s)else none|_=>none
theorem Mp {a:Expr} {t:Expr×Expr×Expr×List Expr×Scope} (h:acJ a=some t):∃ p,a= .ListComp t.1 [⟨t.2.1,t.2.2.1,t.2.2.2.1,0⟩] t.2.2.2.2 p:=by
 cases a with
 |ListComp e gs s p=>
  match gs,h with
  |[⟨tg,it,ifs,k⟩],h=>
   have h:(if k=0 then some (e,tg,it,ifs,s)else none)=some t:=h;by_cases q:k=0
   .rw[if_pos q]at h;cases cM h;exact⟨p,by rw[q]⟩
   .rw[if_neg q]at h;exact ao h
  |[],h=>exact ao h|_::_::_,h=>exact ao h
 |_=>exact ao h
def Il:It->Bool
 | .rng as=>decide (m7 as<=2)|_=>false
mutual
noncomputable def mE (c:Ctx):E->Expr->Bool
 | .var i,a=>opt (qg a) fun x=>c.at_ i x&&c.vis x&& !gF x
 | .cst d,a=>opt (V1 a) fun k=>mC k d
 | .gbl y d,a=>opt (qg a) fun x=>x==y&&c.Bt x&& !gF x
 | .bin op l r,a=>opt (aj5 a) fun t=>op==t.2.1&&mE c l t.1&&mE c r t.2.2
 | .neg l,a=>opt (aj3 a) fun t=>mE c l t
 | .not l,a=>opt (aj2 a) fun t=>mE c l t
 | .cmp op l r,a=>opt (V2 a) fun t=>op==t.2.1&&mE c l t.1&&mE c r t.2.2&&jP t.2.2
 | .RL n l r,a=>opt (V2 a) fun t=>(t.2.1==(if n then adp else CmpOp.Eq))&&mE c l t.1&&mE c r t.2.2&&jP t.2.2
 | .chain p q l m r,a=>opt (acK a) fun t=>p==t.2.1&&q==t.2.2.1&&mE c l t.1&&mE c m t.2.2.2.1&&mE c r t.2.2.2.2&&jP t.2.2.2.2&&jP t.2.2.2.1
 | .and x y,a=>opt (aj6 a) fun t=>mE c x t.1&&mE c y t.2
 | .or x y,a=>opt (vOr a) fun t=>mE c x t.1&&mE c y t.2
 | .ife t x y,a=>opt (vIf a) fun q=>mE c t q.1&&mE c x q.2.1&&mE c y q.2.2
 | .call x _ as,a=>opt (lK a) fun t=>x==t.1&&c.Bt x&& !gF x&&qH c as t.2
 | .blt x as,a=>opt (lK a) fun t=>c.calm&&Q9.contains x&&aha x==t.1&&cT c t.1&&qH c as t.2&& !t.2.isEmpty
 | .acj x l r,a=>opt (V4 a) fun t=>c.calm&&x=="max"&&t.1==aD "max"&&cT c t.1&&mE c l t.2.1&&notStar t.2.1&&(t.2.2.arg==some (aD "default"))&&mE c r t.2.2.value
 | .isin l t,a=>opt (lK a) fun q=>opt (aj0 q.2) fun w=>opt (qg w.2) fun z=>(q.1==aD "isinstance")&&cT c q.1&&["int","bool","str","tuple","list","dict"].contains t&&(z==aD t)&&cT c z&&mE c l w.1&&notStar w.1
 | .isin l t (some _),a=>opt (V2 a) fun w=>opt (qg w.2.2) fun z=>(w.2.1== .In)&&(z==aD t)&&c.Bt z&& !gF z&&mE c l w.1
 | .meth m o as,a=>opt (zT a) fun t=>(if t.2.2.1.isEmpty then ["pop"].contains m else ["append","insert","extend","pop"].contains m)&&t.2.1==aD m&&m8 t.1&&t.2.2.2&&mE c o t.1&&qH c as t.2.2.1&&decide (t.2.2.1.length<30)
 | .S5 m o as,a=>opt (zT a) fun t=>["index","join","split","partition","startswith"].contains m&&t.2.1==aD m&&m8 t.1&&t.2.2.2&&mE c o t.1&&qH c as t.2.2.1&&decide (t.2.2.1.length<30)&&(t.2.2.1.isEmpty==(m=="clear"))
 | .rmv o as,a=>opt (zT a) fun t=>c.calm&&t.2.1==aD "remove"&&m8 t.1&&t.2.2.2&&mE c o t.1&&qH c as t.2.2.1&&decide (t.2.2.1.length<30)&& !t.2.2.1.isEmpty
 | .abW as,a=>opt (lK a) fun t=>c.calm&&(t.1==aD "min")&&cT c t.1&&qH c as t.2&& !t.2.isEmpty
 | .dd3 k1 k2 k3 x y z,a=>(match k2 with
  |[]=>opt (NZ a) fun t=>(t.1.1==k1)&&(t.1.2==k3)&& !decide (k1=k3)&&aiM y&&mE c x t.2.1&&mE c z t.2.2
  |u::k=>opt (NT a) fun t=>(t.1.1==k1)&&(t.1.2.1==u::k)&&(t.1.2.2==k3)&& !decide (k1=u::k)&& !decide (k1=k3)&& !decide (u::k=k3)&&mE c x t.2.1&&mE c y t.2.2.1&&mE c z t.2.2.2)
 | .idx x y,a=>opt (Cu a) fun t=>mE c x t.1&&mE c y t.2&&eE t.2
 | .slc _ x lo hi,a=>opt (aj1 a) fun t=>mE c x t.1&&mO c lo t.2.1&&mO c hi t.2.2
 | .tup as,a=>opt (acE a) fun es=>qH c as es&&decide (es.length<=16777216)
 | .lst _ as,a=>opt (aj4 a) fun es=>qH c as es&&decide (es.length<=16777216)
 | .comp _ n tt cap elt it cond,a=>opt (acJ a) fun t=>(c.calm||(Il it&& !tt))&&opt (GR tt t.2.1) fun xs=>opt (lZ c cap) fun cs=>n==xs.length&&KQ c t.2.2.2.2 (xs++cs) cs&&wM tt it&&mI c it t.2.2.1&&mTg (c.in_ (xs++cs) t.2.2.2.2.names) (aU n) tt t.2.1&&mE (c.in_ (xs++cs) t.2.2.2.2.names) elt t.1&&qH (c.in_ (xs++cs) t.2.2.2.2.names) cond t.2.2.2.1&&decide (t.2.2.2.1.length<=1)
 | .Gh x,a=>mE c x a| .ab5 _,a=>VR a| .Zt x y,a=>opt (Cu a) fun t=>c.calm&&mE c x t.1&&mE c y t.2&&eE t.2
 | .fld _ f o,a=>opt (HB a) fun t=>t.2==aD f&&m8 t.1&&mE c o t.1
 | .rW _ m _ o as,a=>opt (zT a) fun t=>t.2.1==aD m&&m8 t.1&&t.2.2.2&&mE c o t.1&&qH c as t.2.2.1&&decide (t.2.2.1.length<30)
 | .mk x _ as,a=>opt (lK a) fun t=>aD x==t.1&&c.Bt t.1&& !gF t.1&&qH c as t.2
noncomputable def qH (c:Ctx):Es->List Expr->Bool
 | .nil,as=>as.isEmpty| .cons e es,as=>match as with|[]=>false|a::as=>mE c e a&&notStar a&&qH c es as
noncomputable def mO (c:Ctx):Es->Option Expr->Bool
 | .nil,a=>a.isNone| .cons e es,a=>match a,es with|some a,.nil=>mE c e a|_,_=>false
noncomputable def mI (c:Ctx):It->Expr->Bool
 | .seq e,a=>mE c e a&&jP a| .rng as,a=>opt (lK a) fun t=>(t.1==aD "range")&&cT c t.1&&qH c as t.2&&(t.2.length==1||t.2.length==2||t.2.length==3)
 | .enum l,a=>opt (lK a) fun t=>match t.2 with|[l']=>(t.1==aD "enumerate")&&cT c t.1&&mE c l l' &&notStar l' |_=>false
 | .rvd l,a=>opt (lK a) fun t=>match t.2 with|[l']=>(t.1==aD "reversed")&&cT c t.1&&mE c l l' &&notStar l' |_=>false
end
def DY:Expr->Bool
 | .Tuple ..=>false| .List ..=>false|_=>true
def isLocal (c:Ctx) (x:Str):Bool:=c.names.lookup x==some .local
def Rm:E->Bool
 | .comp ..=>true|_=>false
def mXC (c:Ctx):XC->Expr->Bool
 | .dsp x _ _ i as,a=>opt (V6 a) fun t=>opt (Cu t.1) fun u=>opt (qg u.1) fun z=>z==x&&c.Bt x&& !gF x&&mE c i u.2&&eE u.2&&qH c as t.2&& !t.2.isEmpty
def HJ:Stmt->Option (Expr×Expr)
 | .Assign [t] v _=>some (t,v)|_=>none
theorem tR {a:Stmt} {t:Expr×Expr} (h:HJ a=some t):∃ p,a= .Assign [t.1] t.2 p:=by
 cases a with
 |Assign ts v p=>
  match ts,h with
  |[x],h=>cases cM (show some (x,v)=some t from h);exact⟨p,rfl⟩
  |[],h=>exact ao h|_::_::_,h=>exact ao h
 |_=>exact ao h
def acS:Stmt->Option (Expr×jL×Expr)
 | .AugAssign t o v _=>some (t,o,v)|_=>none
theorem Sx {a:Stmt} {t:Expr×jL×Expr} (h:acS a=some t):∃ p,a= .AugAssign t.1 t.2.1 t.2.2 p:=by
 cases a with
 |AugAssign x o v p=>cases cM (show some (x,o,v)=some t from h);exact⟨p,rfl⟩
 |_=>exact ao h
def akb:Stmt->Option Expr
 | .Expr v _=>some v|_=>none
theorem acR {a:Stmt} {t:Expr} (h:akb a=some t):∃ p,a= .Expr t p:=by
 cases a with
 |Expr v p=>cases cM (show some v=some t from h);exact⟨p,rfl⟩
 |_=>exact ao h
def acP:Stmt->Option (Option Expr)
 | .Return v _=>some v|_=>none
theorem Sw {a:Stmt} {t:Option Expr} (h:acP a=some t):∃ p,a= .Return t p:=by
 cases a with
 |Return v p=>cases cM (show some v=some t from h);exact⟨p,rfl⟩
 |_=>exact ao h
def uIf:Stmt->Option (Expr×List Stmt×List Stmt)
 | .If t x y _=>some (t,x,y)|_=>none
theorem ahG {a:Stmt} {t:Expr×List Stmt×List Stmt} (h:uIf a=some t):∃ p,a= .If t.1 t.2.1 t.2.2 p:=by
 cases a with
 |If u x y p=>cases cM (show some (u,x,y)=some t from h);exact⟨p,rfl⟩
 |_=>exact ao h
def aj9:Stmt->Option (Expr×Expr×List Stmt)
 | .For t i b [] _=>some (t,i,b)|_=>none
theorem acQ {a:Stmt} {t:Expr×Expr×List Stmt} (h:aj9 a=some t):∃ p,a= .For t.1 t.2.1 t.2.2 [] p:=by
 cases a with
 |For u i b e p=>
  cases e with
  |nil=>cases cM (show some (u,i,b)=some t from h);exact⟨p,rfl⟩
  |cons _ _=>exact ao h
 |_=>exact ao h
def aj7:Stmt->Option (Expr×List Stmt)
 | .While t b [] _=>some (t,b)|_=>none
theorem acN {a:Stmt} {t:Expr×List Stmt} (h:aj7 a=some t):∃ p,a= .While t.1 t.2 [] p:=by
 cases a with
 |While u b e p=>
  cases e with
  |nil=>cases cM (show some (u,b)=some t from h);exact⟨p,rfl⟩
  |cons _ _=>exact ao h
 |_=>exact ao h
def aj8:Stmt->Option (List Stmt×Xp)
 | .Try b [x] [] [] _=>some (b,x)|_=>none
theorem acO {a:Stmt} {t:List Stmt×Xp} (h:aj8 a=some t):∃ p,a= .Try t.1 [t.2] [] [] p:=by
 cases a with
 |Try b xs o f p=>
  match xs,o,f,h with
  |[x],[],[],h=>cases cM (show some (b,x)=some t from h);exact⟨p,rfl⟩
  |[],_,_,h=>exact ao h|_::_::_,_,_,h=>exact ao h|[_],_::_,_,h=>exact ao h|[_],[],_::_,h=>exact ao h
 |_=>exact ao h
mutual
noncomputable def mS (c:Ctx):S->Stmt->Bool
 | .set i e,a=>opt (HJ a) fun t=>opt (qg t.1) fun x=>c.at_ i x&&c.loc x&&mE c e t.2&&(iM t.2||Rm e)
 | .Tj is e,a=>opt (HJ a) fun t=>opt (acE t.1) fun ts=>c.calm&&jR c is ts&&mE c e t.2&&iM t.2&&DY t.2
 | .dput o i e,a=>opt (HJ a) fun t=>opt (Cu t.1) fun u=>c.calm&&mE c o u.1&&mE c i u.2&&eE u.2&&mE c e t.2&&iM t.2
 | .Nu op o i e,a=>opt (acS a) fun t=>opt (Cu t.1) fun u=>op==t.2.1&&(op== .Add||op== .Sub)&&mE c o u.1&&mE c i u.2&&eE u.2&&mE c e t.2.2
 | .Ih o i e,a=>opt (HJ a) fun t=>opt (Cu t.1) fun u=>mE c o u.1&&mE c i u.2&&eE u.2&&mE c e t.2&&iM t.2
 | .exp e,a=>opt (akb a) fun v=>mE c e v&&iM v
 | .ret e,a=>opt (acP a) fun o=>opt o fun v=>mE c e v
 | .ite t x y,a=>opt (uIf a) fun u=>mE c t u.1&&Ec c x u.2.1&&Ec c y u.2.2
 | .for_ is tt it b,a=>opt (aj9 a) fun u=>c.calm&&mTg c is tt u.1&&mI c it u.2.1&&Ec c b u.2.2&&jP u.2.1&&wM tt it
 | .whl t b,a=>opt (aj7 a) fun u=>mE c t u.1&&Ec c b u.2
 | .qt cn f o e,a=>opt (HJ a) fun t=>opt (HB t.1) fun u=>u.2==aD f&&mE c o u.1&&mE c e t.2
 | .aco cn f op o e,a=>opt (acS a) fun t=>opt (HB t.1) fun u=>u.2==aD f&&op==t.2.1&&(op== .Add||op== .Sub)&&mE c o u.1&&mE c e t.2.2
 | .abt k,a=>opt (acP a) fun o=>opt o fun v=>mXC c k v
 | .abh P tab i b hs,a=>opt (aj8 a) fun t=>Ec {c with rs:=false} b t.1
 | .Y4,_=>true
noncomputable def Ec (c:Ctx):Ss->List Stmt->Bool
 | .nil,as=>as.isEmpty| .cons s r,as=>match as with|[]=>false|a::as=>mS c s a&&Ec c r as
end
inductive Rf where
 |fn (x:Str)|rW (c m:String)|mk (c:String)|fld (c f:String)
 |din (x:Str) (ks:List (List Nat))|dsp (x:Str) (ks:List (List Nat)) (sp:qZ)
 |lam
 |fnM (x:Str)|rsi (c:String) (ks:List String)|efl (f:String) (tab:List String)
 |fnX (x:Str) (sp:qZ)|amO (c m:String) (sp:qZ)|mkX (c:String) (sp:qZ)|rse (c:String)|hdl (P:String) (tab:List String)|isx (tt:Bool) (ts:List String) (tab:List (String×Bool))
def spN:dz:=fun _ _ _=>False
mutual
noncomputable def cF (P:Rf->dz->Prop) (G:Str->D->Prop):E->Prop
 | .gbl x d=>G x d| .bin _ a b=>cF P G a/\cF P G b| .neg a=>cF P G a| .not a=>cF P G a| .cmp _ a b=>cF P G a/\cF P G b| .RL _ a b=>cF P G a/\cF P G b| .chain _ _ a b c=>cF P G a/\cF P G b/\cF P G c| .and a b=>cF P G a/\cF P G b| .or a b=>cF P G a/\cF P G b| .ife a b c=>cF P G a/\cF P G b/\cF P G c| .call x sp as=>P (.fn x) sp/\fM P G as| .blt _ as=>fM P G as| .acj _ a b=>cF P G a/\cF P G b| .isin a _=>cF P G a| .isin a t (some ks)=>P (.din (aD t) ks) spN/\cF P G a| .meth _ o as=>cF P G o/\fM P G as| .S5 _ o as=>cF P G o/\fM P G as| .rmv o as=>cF P G o/\fM P G as| .abW as=>fM P G as| .dd3 _ _ _ a b e=>cF P G a/\cF P G b/\cF P G e| .idx a b=>cF P G a/\cF P G b| .slc _ a lo hi=>cF P G a/\fM P G lo/\fM P G hi| .tup as=>fM P G as| .lst _ as=>fM P G as| .comp _ _ _ _ elt it cond=>cF P G elt/\okI P G it/\fM P G cond| .Gh a=>cF P G a| .Zt a b=>cF P G a/\cF P G b| .fld c f o=>P (.fld c f) spN/\cF P G o| .rW c m sp o as=>P (.rW c m) sp/\cF P G o/\fM P G as| .mk c sp as=>P (.mk c) sp/\fM P G as|_=>True
noncomputable def fM (P:Rf->dz->Prop) (G:Str->D->Prop):Es->Prop
 | .nil=>True| .cons e es=>cF P G e/\fM P G es
noncomputable def okI (P:Rf->dz->Prop) (G:Str->D->Prop):It->Prop
 | .seq e=>cF P G e| .rng as=>fM P G as| .enum a=>cF P G a| .rvd a=>cF P G a
end
def aby (P:Rf->dz->Prop) (G:Str->D->Prop):XC->Prop
 | .dsp x ks sp i as=>P (.dsp x ks sp) spN/\cF P G i/\fM P G as
mutual
noncomputable def okS (P:Rf->dz->Prop) (G:Str->D->Prop):S->Prop
 | .set _ e=>cF P G e| .Tj _ e=>cF P G e| .dput o i e=>cF P G o/\cF P G i/\cF P G e| .Nu _ o i e=>cF P G o/\cF P G i/\cF P G e| .Ih o i e=>cF P G o/\cF P G i/\cF P G e| .exp e=>cF P G e| .ret e=>cF P G e| .ite c a b=>cF P G c/\jO P G a/\jO P G b| .for_ _ _ it b=>okI P G it/\jO P G b| .whl c b=>cF P G c/\jO P G b| .qt c f o e=>P (.fld c f) spN/\cF P G o/\cF P G e| .aco c f _ o e=>P (.fld c f) spN/\cF P G o/\cF P G e| .abt k=>aby P G k| .abh _ _ _ b _=>jO P G b|_=>True
noncomputable def jO (P:Rf->dz->Prop) (G:Str->D->Prop):Ss->Prop
 | .nil=>True| .cons s r=>okS P G s/\jO P G r
end
open PySem.Spec PyProof.Rows
open L2 (aP Key frs wz Loc Look Mod tL cG)
section
variable {X:Cx} {ρ:dH} {θ:Th} {μ:Mem} {s:aj} {d e x y:D} {u v w:Value} {ds es:List D} {us vs:List Value} {Qd:QD} {Q:Value->aj->Prop} {E:Value->aj->Prop} {a:Addr} {n k j:Nat} {A:aL} {wa wb wc:WE} {pos:Pos}
theorem akc {Qa:Bool->Mem->Prop} {Qb:Bool->aj->Prop} (i:Iv X ρ θ μ s) (r:Rp s.heap θ μ d u) (h:fU d μ Qa) (f:Fn X ρ θ μ s Alike Qa Qb):ak X.M X.A (Ip u) Qb E s:=by
 have hs:sizeLine=16777216:=cY;unfold fU at h;split at h
 .rename_i b e
  have sq:∀ {ds:List D},aB μ d=some ds->b=(ds.length !=0)->ak X.M X.A (Ip u) Qb E s:=fun {ds} e eb=>by
   obtain⟨a,us,rfl,x,r⟩:=wR i.dJ r e;have l:=x.fix.1;(have z:(!us.toArray.isEmpty)=b:=by rw[eb,<-r.length];cases us<;>simp);by_cases hk:Wi d=0
   .rw[hk]at x
    exact truthy_tuple (gA x) (by simp only[cB];lia) (by rw[z];exact f.tok i rfl h)
   .exact wpAny_truthy_list (gB x hk).isList (by simp only[cB];lia) (by rw[z];exact f.tok i rfl h)
  cases d with
  |non=>cases(show u=fY from r);cases e;exact truthy_none (f.at i rfl h)
  |bl c=>cases(show u=jF c from r);cases e;exact nO (f.at i rfl h)
  |int c=>obtain⟨t,rfl⟩:=r;cases e;exact PySem.P.truthy_int (f.at i rfl h)
  |str c=>obtain⟨⟨t,rfl⟩,l⟩:=r;cases e;refine PySem.P.truthy_str (by simp only[eN,cB];lia) (f.tok i ?_ h);show(c.length !=0)=_;simp only[eN,cB];cases c<;>simp;lia
  |tup l=>cases e;exact sq rfl rfl
  |lst l=>cases e;exact sq rfl rfl
  |ro l=>cases e;exact sq rfl rfl
  |loc n=>
   simp only[truth,lenOf]at e;cases q:aB μ (.loc n) with
   |none=>rw[q]at e;cases e
   |some ds=>rw[q]at e;cases e;exact sq q rfl
  |_=>exact r.elim
 .exact h.elim
theorem akU {a:Expr} (ha:PE X a wa) (he:∀ whole,rI a X.env whole=(do let v<-whole;IW a.pos;uz [v] (Ip v))):PT X a (fun ρ μ Q=>wa ρ μ fun d μ1=>fU d μ1 Q):=fun i h f=>isTrue_plain (ha i h fun i1 g1 r1 h1=>akc i1 r1 h1 (f.mono g1)) (he _)
theorem ajp {t:String} (w:pL X.T θ μ s.heap) (r:Rp s.heap θ μ d u) (h:tyOf μ d=some t):t∈["NoneType","bool","int","str","tuple","list","dict"]/\s.TypeIs u t/\∀ a,u= .ref a->∃ o,s.heap.get? a=some o/\o.dict=none:=by
 cases d with
 |non=>cases(show u=fY from r);cases h;exact⟨by simp,rfl,fun _ e=>nomatch e⟩
 |bl c=>cases(show u=jF c from r);cases h;exact⟨by simp,rfl,fun _ e=>nomatch e⟩
 |int i=>obtain⟨t,rfl⟩:=r;cases h;exact⟨by simp,typeIs_int s i t,fun _ e=>nomatch e⟩
 |str y=>obtain⟨⟨t,rfl⟩,_⟩:=r;cases h;exact⟨by simp,rN s _ t,fun _ e=>nomatch e⟩
 |tup ds=>obtain⟨a,us,rfl,⟨_,o,n,e,c,_,z⟩,_⟩:=r;cases h;exact⟨by simp,⟨o,e,c⟩,fun _ q=>by cases q;exact⟨o,e,z⟩⟩
 |lst ds=>obtain⟨a,us,rfl,⟨_,n,e⟩,_⟩:=r;cases h;exact⟨by simp,⟨_,e,rfl⟩,fun _ q=>by cases q;exact⟨_,e,rfl⟩⟩
 |loc n=>
  obtain⟨p,rfl,hp⟩:=r;simp only[tyOf]at h;split at h
  .rename_i es hn
   obtain⟨us,⟨_,n,e⟩,_⟩:=w.cell _ _ p hn hp;cases h;exact⟨by simp,⟨_,e,rfl⟩,fun _ q=>by cases q;exact⟨_,e,rfl⟩⟩
  .rename_i ks es hn
   obtain⟨⟨_,⟨o,_,_,e,x,_⟩,_⟩,_⟩:=w.cell _ _ p hn hp;cases h;exact⟨by simp,⟨o,e,x.1⟩,fun _ q=>by cases q;exact⟨o,e,x.2.1⟩⟩
  .rename_i ks es hn
   obtain⟨⟨_,⟨o,_,_,e,x,_⟩,_⟩,_⟩:=w.cell _ _ p hn hp;cases h;exact⟨by simp,⟨o,e,x.1⟩,fun _ q=>by cases q;exact⟨o,e,x.2.1⟩⟩
  .cases h
 |ro _=>cases h
 |_=>exact r.elim
theorem Hg {i:Int} (h:oV n i=some j):WM i n=some j/\j<n/\-(n:Int)<=i/\i<n:=L2.aiK h
theorem akB {h:Heap} {i:Int} (r:dh h θ μ ds us) (q:(oV ds.length i).bind (ds[·]?)=some d):∃ j u,us[j]?=some u/\Rp h θ μ d u/\WM i us.length=some j/\-(us.length:Int)<=i/\i<us.length:=by
 rw[<-r.length]at q;cases e:oV us.length i with
 |none=>rw[e]at q;cases q
 |some j=>rw[e]at q;obtain⟨h1,_,h3,h4⟩:=Hg e;obtain⟨u,hu,ru⟩:=r.get (i:=j) q;exact⟨j,u,hu,ru,h1,h3,h4⟩
theorem alL {value slice:Expr} (i:Iv X ρ θ μ s) (rd:Rp s.heap θ μ x u) (re:Rp s.heap θ μ y v) (hw:dM x y μ Qd) (f:Fin X ρ θ μ s Qd Q) (hs:Jb slice false u v=Ov [u,v] (gk u v)):
  ak X.M X.A (Xv value slice u v) Q E s:=by
 have hn:=Q8;unfold dM at hw;split at hw
 .rename_i z i'
  obtain⟨⟨t,rfl⟩,hz⟩:=rd;obtain⟨t',rfl⟩:=re;split at hw
  .rename_i c hc
   cases e:oV z.length i' with
   |none=>rw[e]at hc;cases hc
   |some j=>rw[e]at hc;obtain⟨h1,h2,h3,h4⟩:=Hg e;(have hl:(⟨z.toArray⟩:Str).length=z.length:=by simp[eN]);exact tail_any (rN s _ t) ad4.lookup (getItem_str (c:=c) (by have e1:decide (i' < -(2 ^ 63:Int))=false:=decide_eq_false (by lia);have e2:decide (i' ≥2 ^ 63)=false:=decide_eq_false (by lia);rw[e1,e2,Bool.or_false]) (by rw[hl,h1];simpa using hc) (f.tok i (xY (x:=[c]) (by simp[cY])) hw)) hs
  .exact hw.elim
 .rename_i x' i' hne
  obtain⟨t',rfl⟩:=re;split at hw
  .rename_i ds hq
   obtain⟨a,us,rfl,z,r⟩:=wR i.dJ rd hq;have l:=z.fix.1;split at hw
   .rename_i d' hd
    obtain⟨j,w,ew,rw',h1,h3,h4⟩:=akB r hd;have fin:Q w s:=f.at i rw' hw;by_cases hk:Wi x=0
    .rw[hk]at z
     exact afa (x:=w) (gA z).typeIs MJ.lookup
      (getItem_tuple (j:=j) (Q:=fun r s'=>r=w/\Q r s') (gA z) (by lia) (by lia) (by rw[cB];exact h1) (by simpa using ew) ⟨rfl,fin⟩) hs
    .have pl:=gB z hk
     by_cases h0:0<=i'
     .have hj:i'.toNat=j:=by rw[Xa h0 h4]at h1;exact cM h1
      exact item_listR pl.isList h0 (by lia) (by rw[hj];simpa using ew) fin hs
     .have hj:(i' +(us.toArray.size:Int)).toNat=j:=by rw[seqIndex_neg (by lia) h3]at h1;rw[cB];exact cM h1
      exact afa (x:=w) pl.isList.typeIs ael.lookup
       (wpAny_getItem_list_neg (Q:=fun r s'=>r=w/\Q r s') pl.isList (by lia) (by rw[cB]<;>lia) (by lia) (by rw[hj];simpa using ew) ⟨rfl,fin⟩) hs
   .exact hw.elim
  .exact hw.elim
 .exact hw.elim
def Cg (b:Expr):Prop:=∀ o i,Jb b false o i=Ov [o,i] (gk o i)
theorem alb {a b:Expr} (ha:PE X a wa) (hb:PE X b wb) (hs:Cg b):PE X (.Subscript a b pos) (fun ρ μ Q=>wa ρ μ fun x μ1=>wb ρ μ1 fun y μ2=>dM x y μ2 Q):=fun i h f=>W2 (ha i h fun i1 g1 r1 h1=>hb i1 h1 fun i2 g2 r2 h2=>alL i2 ((i1.kp g2).rp r1) r2 h2 (f.mono (g1.trans g2)) (hs _ _))
theorem o9 (n d:Nat) (o:Option Int):kO n d o=HT.oW n d o:=by
 cases o with
 |none=>rfl|some v=>first|rfl|(simp only[kO,HT.oW];done)|(simp only[kO,HT.oW];split<;>lia)
theorem part_of {o:Option Int} (h:jq v o):∃ l:Option (Int×Tok),partValue l=v/\l.map (·.1)=o:=by
 cases h with
 |none=>exact⟨none,rfl,rfl⟩|int i t=>exact⟨some (i,t),rfl,rfl⟩
theorem abj {z:List Nat} {lo hi:Option Int} (h1:∀ i,lo=some i->0<=i) (h2:∀ i,hi=some i->0<=i):
  lQ lo hi 1 z.length=lQ (some ((kO z.length 0 lo:Nat):Int)) (some ((kO z.length z.length hi:Nat):Int)) 1 z.length:=by
 have e1:∀ (d:Nat) (i:Int),0<=i->((kO z.length d (some i):Nat):Int)=min i z.length:=fun d i a=>by unfold kO;simp only[show¬i<0 by lia,if_false];lia
 have k0:∀ hi,lQ none hi 1 z.length=lQ (some 0) hi 1 z.length:=fun hi=>by unfold lQ;simp[show max (0:Int) (min 0 (z.length:Int))=0 by lia]
 have k1:∀ lo,lQ lo none 1 z.length=lQ lo (some (z.length:Int)) 1 z.length:=fun lo=>by unfold lQ;simp[show¬((z.length:Int)<0) by lia,show max (0:Int) (min (z.length:Int) (z.length:Int))=z.length by lia]
 have k2:∀ (i:Int) hi,0<=i->lQ (some i) hi 1 z.length=lQ (some (min i z.length)) hi 1 z.length:=fun i hi a=>by unfold lQ;simp[show¬(i<0) by lia,show¬(min i (z.length:Int)<0) by lia,show min (min i (z.length:Int)) (z.length:Int)=min i (z.length:Int) by lia]
 have k3:∀ (i:Int) lo,0<=i->lQ lo (some i) 1 z.length=lQ lo (some (min i z.length)) 1 z.length:=fun i lo a=>by unfold lQ;simp[show¬(i<0) by lia,show¬(min i (z.length:Int)<0) by lia,show min (min i (z.length:Int)) (z.length:Int)=min i (z.length:Int) by lia]
 have lo':lQ lo hi 1 z.length=lQ (some ((kO z.length 0 lo:Nat):Int)) hi 1 z.length:=by
  cases lo with
  |none=>exact k0 hi|some i=>rw[e1 _ i (h1 i rfl)];exact k2 i hi (h1 i rfl)
 rw[lo'];cases hi with
 |none=>exact k1 _|some j=>rw[e1 _ j (h2 j rfl)];exact k3 j _ (h2 j rfl)
theorem abg {prog:aZ} {w:aQ} {A:aL} {E:Value->aj->Prop} {s:aj} {t sl:Addr} {its:Array Value} {vl vu:Value} {lo hi:Option Int} {Q:Value->aj->Prop}
  (ht:yc s.heap t its) (hs:s.heap.IsSliceOf sl vl vu .none) (pl:jq vl lo) (pu:jq vu hi) (h0:HT.oW its.size 0 lo=0) (h1:HT.oW its.size its.size hi=its.size) (h:Q (.ref t) s):
  ak (aH prog w) A (gk (.ref t) (.ref sl)) Q E s:=by
 have ts:s.TypeIs (.ref sl) "slice":=by obtain⟨os,a,b,_⟩:=id hs;exact⟨os,a,b⟩
 unfold gk
 (try with_reducible refine kZ ?_)
 (first|refine aq (aG ?_)|skip)
 refine aq
  (Yh ht.typeIs (by decide) ?_)
 refine aq (Jy
  (name:=aD "__getitem__") ht.typeIs
  MJ (yK
   MJ ht.typeIs aer ?_ (aek _ _)))
 show ak _ _ (aft _>>=_) _ _ s;refine aq (adO ht
  (aq (Pb ts ?_)))
 rw[if_pos (by decide)];refine aq (HT.qp hs pl pu ?_);rw[h0,h1];show ak _ _ (if((((0:Nat):Int)==0&&(1:Int)==1&&(its.size -0)==its.size)=true)then _ else _) _ _ s;rw[if_pos (by simp)];first
  |exact aq (aq (m:=afp _) (aq (Pb ht.typeIs (aG (aq (Dk (aq (aG ⟨_,rfl,aG h⟩))))))))
  | exact aq (m:=afp _) (aq (Pb ht.typeIs (aG (by
    show ak _ _ (if((W4 "tuple"==W4 "tuple")=true)then _ else _) _ _ s;rw[if_pos (by decide)];first
     |exact aq (Dk (aG ⟨_,rfl,aG h⟩))
     |exact aq (Dk (aq (aG (aG ⟨_,rfl,aG h⟩))))
     |exact aq (Dk (aq (aG ⟨_,rfl,aG h⟩)))))))
theorem ahP {vl vu:Value} {lo hi:Option Int} {sl:Addr} (i:Iv X ρ θ μ s) (rd:Rp s.heap θ μ (.tup ds) v) (hs:s.heap.IsSliceOf sl vl vu .none) (pl:jq vl lo) (pu:jq vu hi) (hq:Qd (.tup (cutD ds lo hi)) μ) (f:Fin X ρ θ μ s Qd Q):
  ∃ T id,I8 (.type T) "__getitem__"=pure (some (.builtin id))/\s.TypeIs v T/\ak X.M X.A (gk v (.ref sl)) Q E s:=by
 have rd':=rd;obtain⟨a,us,rfl,x,_,r⟩:=rd;have ht:=gA x;have l:=x.fix.1;have hlen:us.toArray.size=ds.length:=by rw[cB,r.length]
 refine⟨"tuple",_,MJ.lookup,ht.typeIs,?_⟩;by_cases hn:kO ds.length 0 lo=0/\kO ds.length ds.length hi=ds.length
 .rw[show cutD ds lo hi=ds by unfold cutD;rw[hn.1,hn.2];simp]at hq
  exact abg ht hs pl pu (by rw[hlen,<-o9];exact hn.1) (by rw[hlen,<-o9];exact hn.2) (f.at i rd' hq)
 .refine HT.Bv ht hs pl pu (by rw[hlen,<-o9,<-o9];exact hn) ?_ (by rw[cB];exact l)
  rw[<-o9,<-o9,hlen];refine f.sq i c7 (aA _) (rA _ ?_).2 ((r.drop _).take _) hq;simp only[qw,Dv];lia
theorem aks {vl vu:Value} {lo hi:Option Int} {sl:Addr} (m:Bool) (i:Iv X ρ θ μ s) (rd:Rp s.heap θ μ d v) (hs:s.heap.IsSliceOf sl vl vu .none) (pl:jq vl lo) (pu:jq vu hi) (hw:Gq m d lo hi μ Qd) (f:Fin X ρ θ μ s Qd Q):
  ∃ T id,I8 (.type T) "__getitem__"=pure (some (.builtin id))/\s.TypeIs v T/\ak X.M X.A (gk v (.ref sl)) Q E s:=by
 have go:∀ {ds:List D} {us:List Value} {a:Addr},v= .ref a->j8 s.heap 1 a us->dh s.heap θ μ ds us->newL m (cutD ds lo hi) μ Qd->∃ T id,I8 (.type T) "__getitem__"=pure (some (.builtin id))/\s.TypeIs v T/\ak X.M X.A (gk v (.ref sl)) Q E s:=fun {ds us a} ev x r hq=>by
  subst ev;have pl':=gB x (by decide);have l:=x.fix.1;refine⟨"list",_,ael.lookup,pl'.isList.typeIs,wpAny_getItem_list_slice (E:=E) (Q:=Q) pl'.isList hs pl pu .none (by simp) ?_ (by rw[cB]<;>lia)⟩;rw[L2.Lf,<-o9,<-o9];refine f.newL i c7 (aA _) (rA _ ?_).1 ?_ hq
  .rw[qw,Dv];lia
  .rw[r.length];exact(r.drop _).take _
 cases d with
 |lst ds=>obtain⟨a,us,ev,x,_,r⟩:=rd;exact go ev x r hw|loc n=>
  simp only[Gq]at hw;split at hw
  .rename_i ds hn
   obtain⟨p,us,ev,_,_,x,r⟩:=Iv.lst i.dJ hn rd;exact go ev x r hw
  .exact hw.elim
 |str z=>
  obtain⟨⟨t,rfl⟩,hz⟩:=rd;obtain⟨⟨h1,h2,h3⟩,hq⟩:=hw;obtain⟨l,rfl,el⟩:=part_of pl;obtain⟨u',rfl,eu⟩:=part_of pu;have hb:kO z.length z.length hi<=z.length:=by
   cases hi with
   |none=>exact aA _|some j=>unfold kO;simp only[show¬j<0 by have:=h2 j rfl;lia,if_false];lia
  have hpk:O7 ⟨z.toArray⟩ l u' none=lQ (some ((kO z.length 0 lo:Nat):Int)) (some ((kO z.length z.length hi:Nat):Int)) 1 z.length:=by unfold O7;rw[el,eu];have:=abj (z:=z) h1 h2;simpa[eN]using this
  have hpf:(O7 ⟨z.toArray⟩ l u' none).filterMap ((⟨z.toArray⟩:Str).cps[·]?)=cutD z lo hi:=by rw[hpk];have:=StrLaws.sliced_plain ⟨z.toArray⟩ h3 (by simpa[eN]using hb);simpa[eN,cutD]using this
  refine⟨"str",_,ad4.lookup,rN s _ t,wpAny_getItem_str_slice (l:=l) (u:=u') (st:=none) (by obtain⟨o,a,b,c⟩:=hs;exact⟨o,a,b,c⟩) rfl ?_⟩;have hcl:(cutD z lo hi).length<=sizeLine:=by (have:(cutD z lo hi).length<=z.length:=by unfold cutD;simp;lia);lia
  unfold sliceMade;split
  .rename_i hw
   have:cutD z lo hi=z:=by (have hlen:(O7 ⟨z.toArray⟩ l u' none).length=z.length:=by simpa[eN]using hw);rw[hpk,StrLaws.strSliceIndices_plain h3 hb]at hlen;simp at hlen;unfold cutD;rw[show kO z.length 0 lo=0 by lia,show kO z.length z.length hi=z.length by lia];simp
   rw[this]at hq;exact f.at i (xY hz) hq
  .rw[hpf]
   exact⟨by simpa[eN]using hcl,f.tok i (xY hcl) hq⟩
 |tup ds=>exact ahP i rd hs pl pu hw f|_=>exact hw.elim
noncomputable abbrev WO:=dH->Mem->(Option Int->Mem->Prop)->Prop
noncomputable abbrev PO (X:Cx) (e:Option Expr) (w:WO):Prop:=Jg X (fun _ _ _ o v=>jq v o) (evalPart e X.env) w
theorem ah6:PO X none fun _ μ Q=>Q none μ:=fun i h f=>by rw[evalPart_none];exact aG (f.at i .none h)
theorem ah5 {a:Expr} (ha:PE X a wa):PO X (some a) fun ρ μ Q=>wa ρ μ fun d μ1=>zR d μ1 fun i μ2=>Q (some i) μ2:=fun i h f=>by
 rw[evalPart_some];refine ha i h fun {d _ _ _ _} i1 g1 r1 h1=>?_;cases d with
 |int k=>obtain⟨t,rfl⟩:=r1;exact f i1 g1 (.int k t) h1|_=>exact h1.elim
theorem ak7 {a:Expr} {lo hi:Option Expr} {wl wh:WO} {p2:Pos} (m:Bool) (ha:PE X a wa) (hl:PO X lo wl) (hu:PO X hi wh):
  PE X (.Subscript a (.Slice lo hi none p2) pos) (fun ρ μ Q=>wa ρ μ fun x μ1=>wl ρ μ1 fun l μ2=>wh ρ μ2 fun h μ3=>Gq m x l h μ3 Q):=fun i h f=>by
 refine W2 (ha i h fun i1 g1 r1 h1=>wpAny_Slice (hl i1 h1 fun {_ vl _ _ _} i2 g2 pl h2=>hu i2 h2 fun {_ vu s3 θ3 μ3} i3 g3 pu h3=>?_));rw[evalPart_none];refine aG ?_;have i4:=i3.kept (tk:=s3.toks) (h':=s3.heap.push {cls:=.type "slice",data:=.fields #[vl,vu,.none]}) c7;have g4:G0 X θ3 μ3 s3 θ3 μ3 _:=cW (tk:=s3.toks) (h':=s3.heap.push {cls:=.type "slice",data:=.fields #[vl,vu,.none]}) c7;obtain⟨T,id,hT,ht,hg⟩:=aks m i4 ((jU c7).rp ((i1.kp (g2.trans g3)).rp r1)) (akE ..) pl pu h3 (f.mono (((g1.trans g2).trans g3).trans g4));exact tail_any (ops:=[.ref s3.heap.objs.size,_]) ht hT hg (by with_unfolding_all rfl)
theorem Wh {h:Heap} {us vs:List Value} {g:Array Value->Array Value} (x:j8 h 1 a us) (hf:g us.toArray=vs.toArray) (l:vs.length<=sizeLine):j8 (h.update a (ig g)) 1 a vs/\∀ b o,b≠a->h.get? b=some o->(h.update a (ig g)).get? b=some o:=by obtain⟨_,n,e⟩:=x;have q:=ad3 e g;rw[hf]at q;exact⟨⟨l,_,q⟩,fun b o hb z=>(nP _ _ (bL hb)).trans z⟩
theorem Tn {ov iv u:Value} {z:D} {K:Mem->Prop} {R:Unit->aj->Prop} (i:Iv X ρ θ μ s) (rx:Rp s.heap θ μ x ov) (ry:Rp s.heap θ μ y iv) (rz:Rp s.heap θ μ z u) (hw:q9 x y z μ K)
  (f:∀ {s' μ'},Iv X ρ θ μ' s'->G0 X θ μ s θ μ' s'->K μ'->R () s'):ak X.M X.A (IV ov iv u) R E s:=by
 have hn:=Q8;unfold q9 at hw;split at hw
 .rename_i n j
  split at hw
  .rename_i xs hn'
   obtain⟨p,us,rfl,hp,h2,q,r⟩:=Iv.lst i.dJ hn' rx;obtain⟨t,rfl⟩:=ry;split at hw
   .rename_i k hk
    rw[<-r.length]at hk;obtain⟨h1,_,h3,h4⟩:=Hg hk;have l:=q.fix.1;obtain⟨q',kp⟩:=Wh q (g:=(·.setIfInBounds k u)) (vs:=us.set k u) (by simp) (by simpa using l)
    obtain⟨i',g,_⟩:=i.akt (tk:=s.toks) hn' hp h2 kp q' (r.set rz k);have fin:=f i' g hw;obtain⟨_,m,e⟩:=q;by_cases h0:0<=j
    .have hj:j.toNat=k:=by rw[Xa h0 h4]at h1;exact cM h1
     exact PySem.W.ki_setAt e h0 (by lia) (by rw[cB];exact h4) (by rw[hj];exact fin)
    .have hj:(j+(us.toArray.size:Int)).toNat=k:=by rw[seqIndex_neg (by lia) h3]at h1;rw[cB];exact cM h1
     exact PySem.W.ki_setBack e (by lia) (by rw[cB];exact h3) (by lia) (by rw[hj];exact fin)
   .exact hw.elim
  .exact hw.elim
 .exact hw.elim
def Mt (X:Cx) (id:String) (w:D->List D->Mem->QD->Prop):Prop:=
 ∀ {s:aj} {ρ:dH} {θ:Th} {μ:Mem} {x:D} {ds:List D} {u:Value} {us:List Value} {Qd:QD} {Q:Value->aj->Prop} {E:Value->aj->Prop},Iv X ρ θ μ s->Rp s.heap θ μ x u->dh s.heap θ μ ds us->w x ds μ Qd->Fin X ρ θ μ s Qd Q->
  ak X.M X.A (call (.builtin id) (u::us)) Q E s
theorem aiq (h:n<=sizeLine):QJ n=false:=by unfold QJ;exact decide_eq_false (by lia)
theorem dh.dropLast (r:dh s.heap θ μ ds us):dh s.heap θ μ ds.dropLast us.dropLast:=by rw[ae2,ae2,r.length];exact r.take _
theorem dh.eraseIdx (r:dh s.heap θ μ ds us) (k:Nat):dh s.heap θ μ (ds.eraseIdx k) (us.eraseIdx k):=by rw[afz,afz];exact(r.take k).append (r.drop (k+1))
theorem G5 (i:Iv X ρ θ μ s) (rd:Rp s.heap θ μ x u) (hw:dB m x ds μ Qd) (f:Fin X ρ θ μ s Qd Q):∃ n xs a vs,bU m n xs ds μ Qd/\u= .ref a/\j8 s.heap 1 a vs/\dh s.heap θ μ xs vs/\
  ∀ {g:Array Value->Array Value} {xs':List D} {vs':List Value} {d:D} {u':Value} {t:Nat},g vs.toArray=vs'.toArray->vs'.length<=sizeLine->dh s.heap θ μ xs' vs'->Rp s.heap θ μ d u'->Qd d (μ.set n (.lst xs'))->Q u' {s with heap:=s.heap.update a (ig g),toks:=t}:=by
 cases x with
 |loc n=>
  simp only[dB]at hw;split at hw
  .rename_i xs hn
   obtain⟨p,vs,rfl,hp,h2,q,r⟩:=Iv.lst i.dJ hn rd;refine⟨n,xs,p.1,vs,hw,rfl,q,r,fun {g xs' vs' d u' t} hg l r' rd' hq=>?_⟩;obtain⟨q',kp⟩:=Wh q hg l;obtain⟨i',g',k'⟩:=i.akt (tk:=t) hn hp h2 kp q' r';exact f i' g' (k'.rp rd') hq
  .exact hw.elim
 |_=>exact hw.elim
theorem abD:Mt X "list.append" (dB "append"):=fun {s ρ θ μ x ds u us Qd Q E} i rd rs hw f=>by
 obtain⟨n,xs,a,vs,hw,rfl,q,r,fin⟩:=G5 i rd hw f
 match ds,hw with
 |[e],hw=>obtain⟨w,rfl,re⟩:=rs.jl;have hw:xs.length<lim/\Qd .non (μ.set n (.lst (xs++[e]))):=hw;have l:=r.length;rw[yX]at hw;obtain⟨_,m,e1⟩:=q;exact jt Xo ⟨_,e1,rfl⟩ aeL (aeU _ _) (aej a vs.toArray m w (by rw[cB];lia)) ⟨e1,fin (vs':=vs++[w]) (by simp) (by simp;lia) (r.append (.one re)) CK hw.2⟩|[],hw=>simp[bU]at hw|e1::e2::er,hw=>cases e1<;>cases er<;>simp[bU]at hw
theorem Za (l:Addr) (as:Array Value) (n:Nat) (b:Addr) (bs:Array Value) (m:Nat) (sl:Array (Option Value)) (h0:¬(!as.isEmpty&&QJ (as.size+bs.size))=true) (h1:as.size<=sizeLine) (h2:(as++bs).size<=sizeLine+1):
  Oq (rJ.«list.extend» ⟨[.ref l,.ref b],[]⟩) (fun _ R s=>s.heap.get? l=some {cls:=.type "list",data:=.seq as n}/\s.heap.get? b=some {cls:=.type "tuple",dict:=none,data:=.seq bs m,slots:=sl}/\R (.ok (.ret fY)) {s with heap:=s.heap.update l (ig fun x=>x++bs),toks:=s.toks}):=
 .of_wp fun prog w A R s h=>by
  obtain⟨hp,gn,dd,tk,os⟩:=s;obtain⟨hl,hb,h⟩:=h;have z1:=AutoSeq1.sub_tuple_list;have z2:=AutoSeq1.sub_list_tuple;have z3:=afi;have z4:=AutoSeq1.sub_list_list
  wp_walk using(uI hl rfl (hz:=h1) (_hz':=h2)),Fq hl,Fq hb
  exact⟨_,rfl,h⟩
theorem ahw (h:wlT μ d=some ds):aB μ d=some ds/\Wi d<=1:=by
 cases d with
 |tup l=>exact⟨h,jG _⟩|lst l=>exact⟨h,aA _⟩|loc n=>exact⟨h,aA _⟩|_=>cases h
theorem abC:Mt X "list.extend" (dB "extend"):=fun {s ρ θ μ x ds u us Qd Q E} i rd rs hw f=>by
 obtain⟨n,xs,a,vs,hw,rfl,q,r,fin⟩:=G5 i rd hw f
 match ds,hw with
 |[e],hw=>
  obtain⟨w,rfl,re⟩:=rs.jl;simp only[bU]at hw;split at hw
  .rename_i es he
   obtain⟨he,hk⟩:=ahw he;obtain⟨b,ws,rfl,q2,r2⟩:=wR i.dJ re he;have l:=r.length;have l2:=r2.length;rw[yX]at hw;obtain⟨_,m,e1⟩:=q;have ajA:¬(!vs.toArray.isEmpty&&QJ (vs.toArray.size+ws.toArray.size))=true:=by rw[aiq (by rw[cB,cB];lia),Bool.and_false];exact fH
   have fin:=fin (g:=fun x=>x++ws.toArray) (t:=s.toks) (vs':=vs++ws) (by simp) (by simp;lia) (r.append r2) CK hw.2;obtain z|z:Wi e=0∨Wi e=1:=by lia
   .rw[z]at q2
    obtain⟨_,⟨oc,od,oda,osl⟩,m2,e2,c2,d2,nd⟩:=q2;cases c2;cases d2;cases nd;exact jt Xn ⟨_,e1,rfl⟩ aeK (aeT _ _) (Za a vs.toArray m b ws.toArray m2 osl ajA (by rw[cB];lia) (by simp;lia)) ⟨e1,e2,fin⟩
   .rw[z]at q2
    obtain⟨_,m2,e2⟩:=q2;exact jt Xn ⟨_,e1,rfl⟩ aeK (aeT _ _)
     (AutoSeq1.list_extend_list_list_0 a vs.toArray m b ws.toArray m2 ajA (by rw[cB];lia) (by rw[cB,cB];lia)) ⟨e1,e2,fin⟩
  .exact hw.elim
 |[],hw=>simp[bU]at hw|e1::e2::er,hw=>cases e1<;>cases er<;>simp[bU]at hw
theorem alp:Mt X "list.pop" (dB "pop"):=fun {s ρ θ μ x ds u us Qd Q E} i rd rs hw f=>by
 obtain⟨n,xs,a,vs,hw,rfl,q,r,fin⟩:=G5 i rd hw f;have l:=r.length;obtain⟨hl,m,e1⟩:=q
 match ds,hw with
 |[],hw=>
  cases rs.nil_inv;simp only[bU]at hw;split at hw
  .rename_i e he
   obtain⟨w,hw',re⟩:=r.get he;rw[<-l]at hw';refine jt W8 ⟨_,e1,rfl⟩ ad2 (F.args_list_pop_1 _) (MeetsSeq.list_pop_last a vs.toArray m w (by simpa using hw') (by rw[cB];lia)) ⟨e1,fin (vs':=vs.dropLast) ?_ (by simp;lia) r.dropLast re hw⟩;show vs.toArray.eraseIdxIfInBounds (vs.toArray.size -1)=vs.dropLast.toArray;rw[cB,YT,L2.Zr]
  .exact hw.elim
 |[.int k],hw=>
  obtain⟨w,rfl,t,rfl⟩:=rs.jl;simp only[bU]at hw;split at hw
  .rename_i p hp
   split at hw
   .rename_i e he
    obtain⟨w,hw',re⟩:=r.get he;rw[<-l]at hp;obtain⟨h1,_,h3,h4⟩:=Hg hp;have hn:=Q8;refine jt W8 ⟨_,e1,rfl⟩ ad2 (F.args_list_pop_2 _ _)
     (MeetsSeq.list_pop_at a vs.toArray m k t p w (fitsIndex_both (by lia) (by lia)) (by rw[cB];exact h1) (by simpa using hw') (by rw[cB];lia)) ⟨e1,fin (vs':=vs.eraseIdx p) ?_ (gD (L2.Nf vs p) hl) (r.eraseIdx p) re hw⟩
    show vs.toArray.eraseIdxIfInBounds p=(vs.eraseIdx p).toArray;rw[YT]
   .exact hw.elim
  .exact hw.elim
 |e1::e2::er,hw=>cases e1<;>cases er<;>simp[bU]at hw
theorem abB:Mt X "list.insert" (dB "insert"):=fun {s ρ θ μ x ds u us Qd Q E} i rd rs hw f=>by
 obtain⟨n,xs,a,vs,hw,rfl,q,r,fin⟩:=G5 i rd hw f;have l:=r.length;obtain⟨hl,m,e1⟩:=q
 match ds,hw with
 |[],hw=>simp[bU]at hw|[e],hw=>simp[bU]at hw|[.int k,e],hw=>
  obtain⟨w,w',rfl,⟨t,rfl⟩,re⟩:=rs.zU;have hw:0<=k/\k<=xs.length/\xs.length<lim/\Qd .non (μ.set n (.lst (xs.take k.toNat++e::xs.drop k.toNat))):=hw;obtain⟨k0,k1,k2,hq⟩:=hw;rw[yX]at k2;refine jt adH ⟨_,e1,rfl⟩ F.entry_list_insert (F.args_list_insert_3 _ _ _) (AutoSeq1.list_insert_list_int_val_1 a vs.toArray m k t w' ?_ (by rw[cB];lia)) ⟨e1,fin (vs':=vs.take k.toNat++w' ::vs.drop k.toNat) ?_ (by simp;lia) ((r.take _).append (.cons re (r.drop _))) CK hq⟩
  .have:afo k=true:=by have hs:sizeLine=16777216:=cY;unfold afo;simp;lia
   rw[this];simp
  .dsimp only
   have hk:(if k<0 then(k+(vs.toArray.size:Int)).toNat else min k.toNat vs.toArray.size)=k.toNat:=by rw[if_neg (by lia),cB];lia
   rw[hk];apply yI.mp;simp;rw[uw (by simp)]
 |e1::e2::e3::er,hw=>cases e1<;>simp[bU]at hw
end
end DW
namespace DW
open PySem PySem.Spec PyProof.Rows
open L2 (aP Key frs wz Loc Look Mod tL cG Cls je Meth Mk RZ)
def Gm (T:Top) (stack:List Env) (s:aj) (θ:Th) (μ:Mem) (s':aj) (c:String) (ks:List String) (ds:List D) (e:Value):Prop:=
 ∃ (ea C:Addr) (ob:Obj) (vs:Array Value) (B:Heap),e= .ref ea/\bI T.K aM (aD c)=some (some (.ref C))/\ob.cls= .ref C/\K8 B stack ea ob vs .none s'.heap/\vs[2]?=some .none/\
  (∀ b o,s.heap.get? b=some o->b∉frs stack->∃ o',B.get? b=some o')/\pL T θ μ B/\
  ks.length=ds.length/\((ks=[]/\ob.dict=none)∨(ks≠[]/\∃ dx,ob.dict=some dx/\dx≠ea/\(∃ o,B.get? dx=some o)/\¬Mh θ μ dx/\acq B θ μ (ks.zip ds) dx))
def Z0 (X:Cx) (ρ:dH) (θ:Th) (μ:Mem) (s:aj) (Xd:QX) (E:Value->aj->Prop):Prop:=
 ∀ {c:String} {ks:List String} {ds:List D} {e:Value} {s':aj} {θ':Th} {μ':Mem},Iv X ρ θ' μ' s'->G0 X θ μ s θ' μ' s'->Gm X.T X.stack s θ' μ' s' c ks ds e->Xd c ks ds μ'->E e s'
def noX:QX:=fun _ _ _ _=>False
def Sq (sp:dz):qZ:=fun ds μ Q _=>sp ds μ Q
structure fG (T:Top) (k:Nat) (f:Addr) (fd:d7) (ps:List Str) (sp:qZ):Prop where
 len:∀ {ds μ Q X},sp ds μ Q X->ds.length=ps.length
 run:∀ {A:aL} {stack:List Env} {s:aj} {θ:Th} {μ:Mem} {args:Args} {us:List Value} {ds:List D} {Qd:QD} {Xd:QX} {R:uy->aj->Prop},cG k A->E0 T A stack θ μ s->uD s fd args (ps.zip us)->dh s.heap θ μ ds us->sp ds μ Qd Xd->
  (∀ {d:D} {u:Value} {s':aj} {θ':Th} {μ':Mem},E0 T A stack θ' μ' s'->G (fun _=>False) (frs stack) θ μ s θ' μ' s'->Rp s'.heap θ' μ' d u->Qd d μ'->R (.ok (.ret u)) s')->
  (∀ {c:String} {ks:List String} {es:List D} {e:Value} {s':aj} {θ':Th} {μ':Mem},E0 T A stack θ' μ' s'->G (fun _=>False) (frs stack) θ μ s θ' μ' s'->Gm T stack s θ' μ' s' c ks es e->Xd c ks es μ'->R (.error e) s')->
  jK (aH T.P T.w) A (.call (.ref f) args) R s
def Binds (K:aV) (fd:d7) (ps:List Str):Prop:=∀ (s:aj) (us:List Value),K.In s.heap->us.length=ps.length->uD s fd ⟨us,[]⟩ (ps.zip us)
section
variable {X:Cx} {ρ:dH} {θ θ':Th} {μ μ':Mem} {s s1 s':aj} {T:Top} {A:aL} {stack:List Env} {f C:Addr} {fd:d7} {ps:List Str} {sp:qZ} {k:Nat} {us first:List Value} {ds:List D} {Qd:QD} {Xd:QX} {Qa:List D->Mem->Prop} {Q XE:Value->aj->Prop} {x:Str} {p pos apos:Pos} {a e o:Expr} {as es:List Expr} {we wo:WE} {ws:WA} {c m fl:String} {d:D} {u v:Value} {n:Nat} {fs:List (String×D)}
theorem Gm.mono {c:String} {ks:List String} {es:List D} {e:Value} (th:∀ b o,s.heap.get? b=some o->∃ o',s1.heap.get? b=some o') (x:Gm T stack s1 θ' μ' s' c ks es e):Gm T stack s θ' μ' s' c ks es e:=by obtain⟨ea,C,ob,vs,B,h1,h2,h3,h4,h5,h6,r⟩:=x;exact⟨ea,C,ob,vs,B,h1,h2,h3,h4,h5,fun b o e n=>let⟨o',e'⟩:=th b o e;h6 b o' e' n,r⟩
theorem Z0.mono (x:Z0 X ρ θ μ s Xd XE) (g:G0 X θ μ s θ' μ' s1):Z0 X ρ θ' μ' s1 Xd XE:=fun i g' fl q=>x i (g.trans g') (fl.mono g.there) q
theorem aiX:Z0 X ρ θ μ s noX XE:=fun _ _ _ q=>q.elim
theorem fG.mono {j:Nat} (F:fG T j f fd ps sp) (h:j<=k):fG T k f fd ps sp:=⟨F.len,fun r e b rs q fx xx=>F.run (r.mono h) e b rs q fx xx⟩
theorem fG.imp {Tc:qZ} (F:fG T k f fd ps sp) (h:∀ ds μ Q X,Tc ds μ Q X->sp ds μ Q X):fG T k f fd ps Tc:=⟨fun q=>F.len (h _ _ _ _ q),fun r e b rs q fx xx=>F.run r e b rs (h _ _ _ _ q) fx xx⟩
theorem Wo (F:fG X.T k f fd ps sp) (hr:cG k X.A) (hb:Binds X.T.K fd ps) (i:Iv X ρ θ μ s) (r:dh s.heap θ μ ds us) (h:sp ds μ Qd Xd) (fi:Fin X ρ θ μ s Qd Q) (fx:Z0 X ρ θ μ s Xd XE):ak X.M X.A (call (.ref f) us) Q XE s:=
 WY (F.run hr i.e (hb s us i.Cp (by rw[r.length];exact F.len h)) r h (fun e g r q=>fi (i.to g e.dJ e.bare) g r q) fun e g fl q=>fx (i.to g e.dJ e.bare) g fl q)
structure Ar (X:Cx) (as:List Expr) (w:WA):Prop where
 pa:PA X as w
 nil:as=[]->∀ {ρ μ Q},w ρ μ Q->Q [] μ
 st:∀ {e es},as=e::es->fu (e::es) X.env=(false,eval e X.env)::fu es X.env
 any:∀ pos,(jo pos (fu as X.env)).any (·.1)=false
theorem amc:Ar X [] (wEs .nil):=⟨fun _ {_ _ _ _ _ _ _} i h f=>Jq (f.at i .nil h),fun _ {_ _ _} h=>h,fun z=>(ad1 _ _ z.symm).elim,fun _=>rfl⟩
theorem aji {e':DW.E} {es':Es} (ha:PE X e (wE e')) (hr:Ar X es (wEs es')) (hs:fu (e::es) X.env=(false,eval e X.env)::fu es X.env):Ar X (e::es) (wEs (.cons e' es')) where
 pa:=fun pos {s ρ θ μ Qd Q E} i h f=>by rw[hs];show ak _ _ (spliced ((false,eval e X.env)::jo pos (fu es X.env))) _ _ s;simp only[wEs]at h;exact DG (ha i h fun i1 g1 r1 h1=>hr.pa pos i1 h1 fun i2 g2 r2 h2=>f i2 (g1.trans g2) (.cons ((i1.kp g2).rp r1) r2) h2)
 nil:=fun z=>(ad1 _ _ z).elim
 st:=fun z=>by cases z;exact hs
 any:=fun pos=>by rw[hs];show(false||(jo pos (fu es X.env)).any (·.1))=false;rw[hr.any];rfl
theorem Ar.ame (h:Ar X (e::es) ws):(jo pos (fu es X.env)).any (·.1)=false:=by have:=h.any pos;rw[h.st rfl]at this;exact this
theorem cw_ok (h:Ar X as ws) (hk:pB X.T.K v=true) (i:Iv X ρ θ μ s) (q:ws ρ μ Qa)
  (f:∀ {ds us s' θ' μ'},Iv X ρ θ' μ' s'->G0 X θ μ s θ' μ' s'->dh s'.heap θ' μ' ds us->Qa ds μ'->ak X.M X.A (call v (first++us)) Q XE s'):
  ak X.M X.A (OD pos v first (jo pos (fu as X.env)) []) Q XE s:=by
 cases as with
 |nil=>exact PySem.W.callWith_K0 i.Cp hk (f i .refl .nil (h.nil rfl q))|cons e es=>exact PySem.W.callWith_K (h₀:=X.T.base) i.e.mod.kin hk (h.pa pos i q fun i1 g1 r1 h1=>⟨i1.Cp,f i1 g1 r1 h1⟩) (h.st rfl) h.ame
theorem ajM {id:String} (h:Ar X as ws) (i:Iv X ρ θ μ s) (q:ws ρ μ Qa)
  (f:∀ {ds us s' θ' μ'},Iv X ρ θ' μ' s'->G0 X θ μ s θ' μ' s'->dh s'.heap θ' μ' ds us->Qa ds μ'->ak X.M X.A (call (.builtin id) (first++us)) Q XE s'):
  ak X.M X.A (OD pos (.builtin id) first (jo pos (fu as X.env)) []) Q XE s:=by
 refine Calls.callWith_builtin (h.any pos) ?_;cases as with
 |nil=>exact PySem.evalArgs_none (f i .refl .nil (h.nil rfl q))|cons e es=>have key:ak X.M X.A (spliced (jo pos (fu (e::es) X.env))) (fun us s'=>ak X.M X.A (call (.builtin id) (first++us)) Q XE s') XE s:=h.pa pos i q fun i1 g1 r1 h1=>f i1 g1 r1 h1;rw[h.st rfl]at key ⊢;exact Calls.evalArgs_plain key
def JgX (X:Cx) (t:Sem Value) (w:QX->WE):Prop:=
 ∀ {s:aj} {ρ:dH} {θ:Th} {μ:Mem} {Qd:QD} {Xd:QX} {Q E:Value->aj->Prop},Iv X ρ θ μ s->w Xd ρ μ Qd->Fin X ρ θ μ s Qd Q->Z0 X ρ θ μ s Xd E->ak X.M X.A t Q E s
theorem JgX.calm {t:Sem Value} {w:QX->WE} {w':WE} (h:JgX X t w) (q:∀ ρ μ Q,w' ρ μ Q->w noX ρ μ Q):Jg X Rp t w':=fun i z f=>h i (q _ _ _ z) f aiX
theorem ahZ (F:fG X.T k f fd ps sp) (hr:cG k X.A) (hb:Binds X.T.K fd ps) (hg:Gl X x) (hm:X.T.mg x=some (.ref f)) (hk:pB X.T.K (.ref f)=true) (ha:Ar X as ws) (hdb:(x==("__debug__":Str))=false):
  JgX X (eval (.Call (.Name x p) as [] pos) X.env) (fun Xd ρ μ Q=>ws ρ μ fun ds μ1=>sp ds μ1 Q Xd):=fun i h fi fx=>
 Dz (vV i hg hm hdb (cw_ok (first:=[]) ha hk i h fun i1 g1 r1 h1=>Wo F hr hb i1 r1 h1 (fi.mono g1) (fx.mono g1)))
end
end DW
namespace DW
open PySem PySem.Spec PyProof.Rows
open L2 (aP Key frs wz Loc Look Mod tL cG Cls je Meth Mk RZ)
theorem Aw {a b:String} (h:aD a=aD b):a=b:=by
 rw[Yy,Yy]at h;have h1:a.toList.map I7=b.toList.map I7:=by have:=congrArg (fun s:Str=>s.cps.toList) h;simpa using this
 have inj:∀ (x y:List Char),x.map I7=y.map I7->x=y:=by
  intro x;induction x with
  |nil=>intro y e;cases y with|nil=>rfl|cons _ _=>simp at e
  |cons c x ih=>
   intro y e;cases y with
   |nil=>simp at e|cons d y=>simp only[aX,m6]at e;have:c=d:=Char.ext (UInt32.toNat_inj.mp e.1);rw[this,ih y e.2]
 exact String.ext (inj _ _ h1)
section
variable {h h':Heap} {θ:Th} {μ:Mem} {f g c:String} {d:D} {u v:Value} {n:Nat} {fs:List (String×D)} {a:Addr} {T:Top}
theorem U3:∀ {fs:List (String×D)},bF f fs=none->aD f∉fs.map (fun p=>aD p.1)
 |[],_=>by simp|(g,d)::r,h=>by
  unfold bF at h;split at h
  .cases h
  .rename_i q
   simp only[aX,bC,not_or];exact⟨fun z=>q (Aw z).symm,U3 h⟩
theorem U0:∀ {fs:List (String×D)},bF g (putD f d fs)=if f=g then some d else bF g fs
 |[]=>rfl|(k,e)::r=>by
  unfold putD;by_cases q:k=f
  .subst q
   simp only[if_true,bF];split<;>rfl
  .rw[if_neg q]
   simp only[bF];rw[U0];by_cases z:k=g
   .subst z;rw[if_pos rfl,if_pos rfl,if_neg fun z=>q z.symm]
   .rw[if_neg z,if_neg z]
theorem aaD:∀ {fs:List (String×D)},(putD f d fs).length<=fs.length+1
 |[]=>aA _|(k,e)::r=>by
  unfold putD;split
  .exact yq _
  .exact ad5 aaD
theorem G6 {y:Str}:∀ {fs:List (String×D)},(y=aD f∨y∈fs.map fun p=>aD p.1)->y∈(putD f d fs).map fun p=>aD p.1
 |[],z=>by
  rcases z with rfl|z
  .exact cH.mpr rfl
  .exact absurd z (by simp)
 |(k,e)::r,z=>by
  unfold putD;split
  .rename_i q
   subst q;rcases z with rfl|z
   .exact w7
   .exact z
  .rcases z with rfl|z
   .exact jh _ (G6 (.inl rfl))
   .rcases bC.mp z with rfl|z
    .exact w7
    .exact jh _ (G6 (.inr z))
theorem MF (r:Rp h θ μ d u):ad7 u=true:=by
 cases d with
 |non=>cases(show u=_ from r);rfl
 |bl b=>cases(show u=_ from r);rfl
 |int i=>obtain⟨t,rfl⟩:=r;rfl|str x=>obtain⟨⟨t,rfl⟩,_⟩:=r;rfl|tup ds=>obtain⟨a,_,rfl,_⟩:=r;rfl|lst ds=>obtain⟨a,_,rfl,_⟩:=r;rfl|ro ds=>obtain⟨a,_,rfl,_⟩:=r;rfl|loc n=>obtain⟨p,rfl,_⟩:=r;rfl|jZ _ _=>exact r.elim
theorem Ro (w:pL T θ μ h) (r:Rp h θ μ d u) (e:dG μ c d=some (n,fs)):∃ p C mA,d= .loc n/\u= .ref p.1/\θ.cs[n]?=some p/\μ[n]?=some (.ins c fs)/\bI T.K aM (aD c)=some (some (.ref C))/\
  RZ h p.1 p.2 C mA/\fs.length<=1000/\(∀ f d,bF f fs=some d->∃ u,mA (aD f)=some u/\Rp h θ μ d u)/\(∀ f,bF f fs=none->mA (aD f)=none)/\Pj mA (fs.map fun p=>aD p.1):=by
 cases d with
 |loc k=>
  obtain⟨p,rfl,hp⟩:=r;simp only[dG]at e;split at e
  .rename_i c' fs0 hn
   split at e
   .rename_i ec
    subst ec;cases e;obtain⟨C,h0,h1,h2,h3,mA,k1,k2,k3⟩:=w.cell _ _ p hn hp;refine⟨p,C,mA,rfl,rfl,hp,hn,h0,⟨h1,k1,h2⟩,h3,k2,fun f q=>?_,k3⟩;by_cases z:mA (aD f)=none
    .exact z
    .exact absurd (k3 _ z) (U3 q)
   .cases e
  .cases e
 |_=>simp[dG]at e
end
section
variable {X:Cx} {ρ:dH} {θ θ':Th} {μ μ':Mem} {s s1 s':aj} {f C:Addr} {fd:d7} {ps:List Str} {sp:qZ} {k n:Nat} {us:List Value} {ds:List D} {Qd:QD} {Xd:QX} {Q XE:Value->aj->Prop} {x:Str} {p pos apos:Pos} {a e o:Expr} {as es:List Expr} {we wo:WE} {ws:WA} {c m:String} {d dv:D} {u v:Value} {K:Mem->Prop}
theorem RX {env:Env} {m:Str} (h:m8 o=true):Xw o m env (eval o env)=eval o env:=by
 cases o with
 |Call f as ks p=>rcases ZR h with⟨x,q,a,r,rfl,rfl⟩|⟨o,m',q,rfl⟩<;>rfl|_=>first|rfl|exact(fH h).elim
theorem abH {env:Env} {m:Str} {args:List Expr} (hbase:Xw o m env (eval o env)=eval o env) (hform:methodCallForm (args.length+([]:List Dd).length) (jo pos (fu args env)) (Dg pos (Dl [] env))=true) (hline:(apos.endLine==pos.line)=true):
  eval (.Call (.Attribute o m apos) args [] pos) env=(do
   let ov<-eval o env
   IW apos.atName
   let(f,first)<-uz [ov] (getMethod ov m (do return(<-importBound o env).getD true))
   OD pos f first (jo pos (fu args env)) (Dg pos (Dl [] env))):=by
 have hpos:methodCallPos true o env apos pos=pure pos:=by unfold methodCallPos;simp[hline]
 rw[arm_eval_Call,hbase];unfold methodCall;rw[hform];simp only[calleeOf,if_true,hpos,pure_bind]
theorem Ar.few (h:Ar X as ws) (h30:as.length<30):((jo pos (fu as X.env)).all (fun x=>!x.1)&&(Dg pos (Dl [] X.env)).all (fun x=>x.1.isSome)
   &&decide (as.length+([]:List Dd).length+(if([]:List Dd).isEmpty then 0 else 1)<30))=true:=by
 have h1:(jo pos (fu as X.env)).all (fun x=>!x.1)=true:=by have:=h.any pos;rw[List.all_eq_not_any_not];simpa using this
 have h2:(Dg pos (Dl [] X.env)).all (fun x=>x.1.isSome)=true:=rfl;rw[h1,h2];simpa using h30
theorem ahX (F:fG X.T k f fd ps sp) (hr:cG k X.A) (hb:Binds X.T.K fd ps) (hn:bI X.T.K aM (aD c)=some (some (.ref C))) (cl:Cls X.T.K C) (hm:Meth X.T.K C (aD m) f)
  (ho:PE X o wo) (hbs:m8 o=true) (ha:Ar X as ws) (hline:(apos.endLine==pos.line)=true) (h30:as.length<30):
  JgX X (eval (.Call (.Attribute o (aD m) apos) as [] pos) X.env) (fun Xd ρ μ Q=>wo ρ μ fun x μ1=>iz μ1 c m x/\ws ρ μ1 fun ds μ2=>sp (x::ds) μ2 Q Xd):=fun i h fi fx=>by
 refine PySem.W.methodCall_KW (pl:=do return(<-importBound o X.env).getD true) (ho i h fun i1 g1 r1 h1=>?_) (abH (RX hbs) (ha.few h30) hline);obtain⟨h1,h2⟩:=h1;unfold iz at h1;split at h1
 .rename_i n fs e
  obtain⟨p,C',mA,rfl,rfl,hp,_,h0,O,_,_,k2,_⟩:=Ro i1.dJ r1 e;rw[hn]at h0;cases h0;refine L2.agz i1.Cp O (cl.get _) hm.at_ hm.fn (k2 _ h1) ?_;exact cw_ok (first:=[.ref p.1]) ha hm.kp i1 h2 fun i2 g2 r2 h2=>Wo F hr hb i2 (.cons ((i1.kp g2).rp r1) r2) h2 (fi.mono (g1.trans g2)) (fx.mono (g1.trans g2))
 .exact h1.elim
theorem E0.make {T:Top} {A:aL} {stack:List Env} (e:E0 T A stack θ μ s) {C:Addr} {us:List Value} {kw:List (Str×Value)}:E0 T (A.under (.builtin "type.__call__" ⟨.ref C::us,kw⟩)) stack θ μ s:=
 ⟨e.mod,by first|exact e.frames|(simpa[Ph,Code.envs,Pg,pushEnvs]using e.frames),e.bare,e.bs,e.stk,e.dJ,e.hh⟩
theorem ada (M:Mk X.T.K C f) (hn:bI X.T.K aM (aD c)=some (some (.ref C))) (F:fG X.T k f fd ps sp) (hr:cG (k+1) X.A) (hb:Binds X.T.K fd ps) (i:Iv X ρ θ μ s) (r:dh s.heap θ μ ds us)
  (h:sp (.loc μ.length::ds) (μ++[.ins c []]) (fun v μ2=>v= .non/\Qd (.loc μ.length) μ2) Xd) (fi:Fin X ρ θ μ s Qd Q) (fx:Z0 X ρ θ μ s Xd XE):ak X.M X.A (call (.ref C) us) Q XE s:=by
 have e1:(s.heap.push wY).get? s.heap.objs.size=some wY:=gU s.heap rfl;have e2:((s.heap.push wY).push (uq C s.heap.objs.size)).get? (s.heap.objs.size+1)=some (uq C s.heap.objs.size):=by have:=gU (s.heap.push wY) (o:=uq C s.heap.objs.size) rfl;rwa[yx]at this
 have e1':((s.heap.push wY).push (uq C s.heap.objs.size)).get? s.heap.objs.size=some wY:=eV _ e1;have e3:((s.heap.push wY).push (uq C s.heap.objs.size)).Ns s.heap.objs.size (fun _=>none):=⟨wY,#[],_,e1',rfl,(fun e he=>absurd he (by simp)),fun _=>rfl⟩;obtain⟨i2,g2⟩:=i.new (c:=.ins c []) (p:=(s.heap.objs.size+1,s.heap.objs.size)) (tk:=s.toks) (h':=(s.heap.push wY).push (uq C s.heap.objs.size)) (fun b o q=>eV _ (eV _ q))
  (yq _) (aA _) (fun a z=>by rcases z with rfl|rfl<;>first|exact⟨_,e2⟩|exact⟨_,e1'⟩) ⟨C,hn,e2,jf (Qj _),jG _,fun _=>none,Heap.Ns1.of_empty e3,fun f d z=>(by cases z),fun y hy=>absurd rfl hy⟩
 have r2:dh _ (θ.snoc (s.heap.objs.size+1,s.heap.objs.size)) (μ++[.ins c []]) (.loc μ.length::ds) (.ref (s.heap.objs.size+1)::us):=.cons ⟨(s.heap.objs.size+1,s.heap.objs.size),rfl,by rw[<-i.dJ.len];simp[Th.snoc]⟩ ((i.kp g2).Gr r);refine WY (L2.af9 (f:=f) i.Cp M.makes M.init (beq_iff_eq.mp M.fn) ?_);refine F.run (hr.make C us []) i2.e.make (hb _ (.ref (s.heap.objs.size+1)::us) i2.Cp (by rw[r2.length];exact F.len h)) r2 h (fun {d u s' θ' μ'} e g r q=>?_) fun e g fl q=>fx (i2.to g e.dJ e.bare) (g2.trans g) (fl.mono g2.there) q;obtain⟨rfl,q⟩:=q;cases(show u=_ from r);exact⟨rfl,fi (d:=.loc μ.length) (i2.to g e.dJ e.bare) (g2.trans g) ⟨(s.heap.objs.size+1,s.heap.objs.size),rfl,g.pre _ _ (by rw[<-i.dJ.len];simp[Th.snoc])⟩ q⟩
theorem ahY (M:Mk X.T.K C f) (hn:bI X.T.K aM (aD c)=some (some (.ref C))) (F:fG X.T k f fd ps sp) (hr:cG (k+1) X.A) (hb:Binds X.T.K fd ps) (hg:Gl X x) (hm:X.T.mg x=some (.ref C)) (ha:Ar X as ws) (hdb:(x==("__debug__":Str))=false):
  JgX X (eval (.Call (.Name x p) as [] pos) X.env) (fun Xd ρ μ Q=>ws ρ μ fun ds μ1=>sp (.loc μ1.length::ds) (μ1++[.ins c []]) (fun v μ2=>v= .non/\Q (.loc μ1.length) μ2) Xd):=fun i h fi fx=>
 Dz (vV i hg hm hdb (cw_ok (first:=[]) ha M.kp i h fun i1 g1 r1 h1=>ada M hn F hr hb i1 r1 h1 (fi.mono g1) (fx.mono g1)))
theorem ald (hn:bI X.T.K aM (aD c)=some (some (.ref C))) (cl:Cls X.T.K C) (na:je X.T.K C (aD m)) (ho:PE X o wo) (hbs:m8 o=true):PE X (.Attribute o (aD m) pos) (fun ρ μ Q=>wo ρ μ fun x μ1=>iI c m x μ1 Q):=fun i h f=>
 L2.ajg (RX hbs) (ho i h fun {d u s1 θ1 μ1} i1 g1 r1 h1=>by
  unfold iI at h1;split at h1
  .rename_i n fs e
   split at h1
   .rename_i d' ed
    obtain⟨p,C',mA,rfl,rfl,hp,_,h0,O,_,k1,_⟩:=Ro i1.dJ r1 e;rw[hn]at h0;cases h0;obtain⟨u,hu,ru⟩:=k1 _ _ ed;exact L2.get_map i1.Cp O (cl.get _) cl.hd na hu (MF ru) (f i1.tok (g1.trans (cW fun _ _ e=>e)) ru h1)
   .exact h1.elim
  .exact h1.elim)
theorem aaj {Q:Unit->aj->Prop} (hn:bI X.T.K aM (aD c)=some (some (.ref C))) (cl:Cls X.T.K C) (na:je X.T.K C (aD m)) (i:Iv X ρ θ μ s) (r:Rp s.heap θ μ d u) (rv:Rp s.heap θ μ dv v) (h:lJ c m d dv μ K)
  (f:∀ {s' μ'},Iv X ρ θ μ' s'->G0 X θ μ s θ μ' s'->K μ'->Q () s'):ak X.M X.A (setAttr u (aD m) v) Q XE s:=by
 unfold lJ at h;split at h
 .rename_i n fs e
  obtain⟨hl,h⟩:=h;obtain⟨p,C',mA,rfl,rfl,hp,hx,h0,O,_,k1,k2,k3⟩:=Ro i.dJ r e;rw[hn]at h0;cases h0;refine L2.ahR i.Cp O cl.sa cl.po na.taker cl.hd k3 (by rw[aR,cY];lia) fun h' O' sb=>?_;have k':∀ b o,¬(b=p.1∨b=p.2)->s.heap.get? b=some o->h'.get? b=some o:=fun b o z q=>(sb.2 b fun y=>z (.inr y)).trans q;have kp:Kp θ μ s.heap θ (μ.set n (.ins c (putD m dv fs))) h':=yZ hx hp (by simp) k';obtain⟨o2,_,_,q2,_⟩:=O'.ns;obtain⟨i',g⟩:=i.set (c':=.ins c (putD m dv fs)) (tk:=s.toks+2) hx hp (by simp) rfl k' (fun a z=>by rcases z with rfl|rfl<;>first|exact⟨_,O'.obj⟩|exact⟨_,q2⟩)
   ⟨C,hn,O'.obj,O.ne,gD aaD hl,_,O'.ns,fun g d q=>by
    rw[U0]at q;by_cases z:m=g
    .subst z
     rw[if_pos rfl]at q;cases q;exact⟨v,if_pos rfl,kp.rp rv⟩
    .rw[if_neg z]at q
     obtain⟨w,q1,q2⟩:=k1 _ _ q;exact⟨w,by rw[if_neg fun y=>z (Aw y).symm];exact q1,kp.rp q2⟩,fun y hy=>by
    by_cases z:y=aD m
    .exact G6 (.inl z)
    .exact G6 (.inr (k3 y (by simpa only[if_neg z]using hy)))⟩
  exact f i' g h
 .exact h.elim
end
end DW
namespace DW
open PySem PySem.W PyProof.Rows
def cI {α:Type} (lt:Nat->Nat->Bool):KasT α->α
 | .ret a=>a| .ask i j k=>cI lt (k (lt i j))
theorem lu (lt:Nat->Nat->Bool) (f:α->KasT β):∀ t:KasT α,cI lt (t.bind f)=cI lt (f (cI lt t))
 | .ret a=>rfl| .ask i j k=>lu lt f (k (lt i j))
noncomputable abbrev at' (p:Array Nat) (k:Nat):Nat:=p.getD k 0
theorem BZ (p:Array Nat) (k:Nat):at' p k=p[k]?.getD 0:=by simp[at']
theorem K1 (hj:j<=p.size) (k:Nat):at' (jr p i j) k=if i<=k/\k<j then at' p (i+j -1 -k)else at' p k:=by rw[BZ,jr,getElem?_mirror_all hj];split<;>rw[BZ]
theorem ahe (hs:s<p.size) (hd:d<=s) (k:Nat):at' (bubble p s d) k=if k=s -d then at' p s else if s -d<k/\k<=s then at' p (k -1)else at' p k:=by
 rw[BZ,getElem?_bubble hs d hd,BZ,BZ,BZ];by_cases h1:k=s -d
 .rw[if_pos h1,if_pos h1]
 .rw[if_neg h1,if_neg h1]
  by_cases h2:s -d<k/\k<=s
  .rw[if_pos h2,if_pos h2]
  .rw[if_neg h2,if_neg h2]
theorem Ai (p:Array Nat) (i j:Nat):(jr p i j).size=p.size:=mirror_size _ _ _ _
theorem jE (p:Array Nat) (i j:Nat):(jr p i j).Perm p:=mirror_perm _ _ _ _
section
variable {lt:Nat->Nat->Bool} (hA:∀ a b,lt a b=true->lt b a=false) (hT:∀ a b c,lt b a=false->lt c b=false->lt c a=false)
def Up (lt:Nat->Nat->Bool) (p:Array Nat) (m:Nat):Prop:=∀ i,i+1<m->lt (at' p (i+1)) (at' p i)=false
def Down (lt:Nat->Nat->Bool) (p:Array Nat) (m:Nat):Prop:=∀ i,i+1<m->lt (at' p i) (at' p (i+1))=false
def Nv (lt:Nat->Nat->Bool) (a b:Nat):Prop:=lt a b=false/\lt b a=false
include hT in
theorem Up.le (h:Up lt p m) (oX:∀ a,lt a a=false):∀ (d i:Nat),i+d<m->lt (at' p (i+d)) (at' p i)=false
 |0,i,_=>oX _|d+1,i,hd=>hT _ _ _ (Up.le h oX d i (by lia)) (h (i+d) (by lia))
include hA in
theorem Rn (a:Nat):lt a a=false:=by
 cases h:lt a a with
 |false=>rfl|true=>rw[<-h];exact hA a a h
include hT in
theorem Nv.trans (h:Nv lt a b) (k:Nv lt b c):Nv lt a c:=⟨hT c b a k.1 h.1,hT a b c h.2 k.2⟩
theorem Nv.symm (h:Nv lt a b):Nv lt b a:=⟨h.2,h.1⟩
theorem RV:∀ (f n:Nat),1<=n->n<=cI lt (gY p f n)/\cI lt (gY p f n)<=n+f/\(∀ i,n<=i->i<cI lt (gY p f n)->lt (at' p i) (at' p (i -1))=false)/\
  (cI lt (gY p f n)<n+f->lt (at' p (cI lt (gY p f n))) (at' p (cI lt (gY p f n) -1))=true)
 |0,n,_=>⟨aA _,aA _,fun i h1 h2=>by simp[gY,cI]at h2;lia,fun h=>by simp[gY,cI]at h⟩|f+1,n,h1=>by
  cases c:lt (at' p n) (at' p (n -1)) with
  |true=>
   have e:cI lt (gY p (f+1) n)=n:=by show cI lt (if lt (at' p n) (at' p (n -1))=true then .ret n else gY p f (n+1))=n;rw[c];rfl
   rw[e];exact⟨aA _,by lia,fun i h1 h2=>by lia,fun _=>c⟩
  |false=>
   have e:cI lt (gY p (f+1) n)=cI lt (gY p f (n+1)):=by show cI lt (if lt (at' p n) (at' p (n -1))=true then .ret n else gY p f (n+1))=_;rw[c];rfl
   rw[e];obtain⟨a1,a2,a3,a4⟩:=RV (p:=p) f (n+1) (by lia);refine⟨by lia,by lia,fun i h2 h3=>?_,fun h=>a4 (by lia)⟩;by_cases q:i=n
   .subst q;exact c
   .exact a3 i (by lia) h3
structure Z2 (lt:Nat->Nat->Bool) (p0:Array Nat) (top:Nat) (r:Array Nat×Nat×Nat):Prop where
 perm:r.1.Perm p0
 size:r.1.size=p0.size
 le:r.2.1<=top
 pos:r.2.2+1<=r.2.1
 down:Down lt r.1 r.2.1
 tie:∀ i,r.2.1 -(r.2.2+1)<=i->i<r.2.1->Nv lt (at' r.1 i) (at' r.1 (r.2.1 -1))
include hT in
theorem Oo (hn:n<=p.size) (hq:q+1<=n) (ht:∀ i,n -(q+1)<=i->i<n->Nv lt (at' p i) (at' p (n -1))) (oX:∀ a,lt a a=false) (k:Nat):
  Nv lt (at' (jr p (n -(q+1)) n) k) (at' p k):=by
 rw[K1 hn];split
 .rename_i h
  exact Nv.trans hT (ht _ (by lia) (by lia)) (Nv.symm (ht k h.1 h.2))
 .exact⟨oX _,oX _⟩
include hT in
theorem Down.like (h:Down lt p n) (k:∀ i,i<n->Nv lt (at' p' i) (at' p i)):Down lt p' n:=fun i hi=>hT _ _ _ (hT _ _ _ (k (i+1) hi).2 (h i hi)) (k i (by lia)).1
include hA hT in
theorem BK (htop:top<=p0.size):∀ (f:Nat) (p:Array Nat) (n q:Nat),n+f=top->Z2 lt p0 top (p,n,q)->Z2 lt p0 top (cI lt (nW f p n q))
 |0,p,n,q,_,h=>h|f+1,p,n,q,hn,h=>by
  have oX:=Rn hA;obtain⟨h1,h2,h3,h4,h5,h6⟩:=h;simp only at h1 h2 h3 h4 h5 h6;have hsz:n<=p.size:=by lia
  cases c:lt (at' p n) (at' p (n -1)) with
  |true=>
   have e:cI lt (nW (f+1) p n q)=cI lt (if q>0 then nW f (jr p (n -(q+1)) n) (n+1) 0 else nW f p (n+1) 0):=by show cI lt (if lt (at' p n) (at' p (n -1))=true then _ else _)=_;rw[c];rfl
   rw[e];have dn:∀ p':Array Nat,p'.Perm p0->p'.size=p0.size->(∀ i,Nv lt (at' p' i) (at' p i))->at' p' n=at' p n->Z2 lt p0 top (p',n+1,0):=fun p' q1 q2 q3 q4=>by
    refine⟨q1,q2,by simp;lia,by simp,fun i hi=>?_,fun i a1 a2=>?_⟩
    .simp only at hi ⊢
     by_cases z:i+1<n
     .exact Down.like hT h5 (fun i _=>q3 i) i z
     .have z1:i+1=n:=by lia
      (have z2:i=n -1:=by lia);rw[z1,q4,z2];exact hT _ _ _ (hA _ _ c) (q3 (n -1)).1
    .simp only at a1 a2 ⊢
     (have:i=n:=by lia);subst this;exact⟨oX _,oX _⟩
   by_cases hq:q>0
   .rw[if_pos hq]
    refine BK htop f _ (n+1) 0 (by lia) (dn _ ((jE _ _ _).trans h1) (by rw[Ai];exact h2) (Oo hT hsz h4 h6 oX) ?_);rw[K1 hsz,if_neg (by lia)]
   .rw[if_neg hq]
    exact BK htop f _ (n+1) 0 (by lia) (dn _ h1 h2 (fun i=>⟨oX _,oX _⟩) rfl)
  |false=>
   cases d:lt (at' p (n -1)) (at' p n) with
   |true=>
    have e:cI lt (nW (f+1) p n q)=(p,n,q):=by show cI lt (if lt (at' p n) (at' p (n -1))=true then _ else _)=_;rw[c];show cI lt (if lt (at' p (n -1)) (at' p n)=true then _ else _)=_;rw[d];rfl
    rw[e];exact⟨h1,h2,h3,h4,h5,h6⟩
   |false=>
    have e:cI lt (nW (f+1) p n q)=cI lt (nW f p (n+1) (q+1)):=by show cI lt (if lt (at' p n) (at' p (n -1))=true then _ else _)=_;rw[c];show cI lt (if lt (at' p (n -1)) (at' p n)=true then _ else _)=_;rw[d];rfl
    rw[e];refine BK htop f _ (n+1) (q+1) (by lia) ⟨h1,h2,by simp;lia,by simp;lia,fun i hi=>?_,fun i a1 a2=>?_⟩
    .simp only at hi ⊢
     by_cases z:i+1<n
     .exact h5 i z
     .have z1:i+1=n:=by lia
      (have z2:i=n -1:=by lia);rw[z1,z2];exact d
    .simp only at a1 a2 ⊢
     by_cases z:i=n
     .subst z;exact⟨oX _,oX _⟩
     .exact Nv.trans hT (h6 i (by lia) (by lia)) ⟨d,c⟩
structure Cj (lt:Nat->Nat->Bool) (p0:Array Nat) (n:Nat) (r:Nat×Array Nat):Prop where
 perm:r.2.Perm p0
 size:r.2.size=p0.size
 le:r.1<=n
 pos:1<=r.1
 up:Up lt r.2 r.1
theorem Mr (h1:1<=n) (hn:n<=nrem) (hz:nrem<=p0.size) (hp:p.Perm p0) (hs:p.size=p0.size) (hd:Down lt p n):Cj lt p0 nrem (cI lt (WL n nrem p)):=by
 unfold WL;rw[lu];obtain⟨a1,a2,a3,_⟩:=RV (lt:=lt) (p:=jr p 0 n) (nrem -n) n h1;refine⟨(jE _ _ _).trans hp,by rw[show(cI lt (KasT.ret (cI lt (gY (jr p 0 n) (nrem -n) n),jr p 0 n))).2=jr p 0 n from rfl,Ai];exact hs,by show cI lt _<=_;lia,by show 1<=cI lt _;lia,fun i hi=>?_⟩;replace hi:i+1<cI lt (gY (jr p 0 n) (nrem -n) n):=hi;show lt (at' (jr p 0 n) (i+1)) (at' (jr p 0 n) i)=false;by_cases z:n<=i+1
 .exact a3 (i+1) z hi
 .rw[K1 (by lia),K1 (by lia),if_pos (by lia),if_pos (by lia)]
  have:=hd (n -1 -(i+1)) (by lia);have e1:n -1 -(i+1)+1=0+n -1 -i:=by lia
  have e2:n -1 -(i+1)=0+n -1 -(i+1):=by lia
  rw[e1,e2]at this;exact this
include hA hT in
theorem BL (hn:n+1<=nrem) (hz:nrem<=p0.size) (hp:p.Perm p0) (hs:p.size=p0.size) (hd:Down lt p (n+1)):Cj lt p0 nrem (cI lt (Xg n nrem p)):=by
 unfold Xg;rw[lu];have oX:=Rn hA;have D:=BK hA hT hz (nrem -(n+1)) p (n+1) 0 (by lia) ⟨hp,hs,by simp;lia,by simp,hd,fun i a1 a2=>by
  simp only at a1 a2 ⊢;have:i=n:=by lia
  subst this;exact⟨oX _,oX _⟩⟩
 generalize cI lt (nW (nrem -(n+1)) p (n+1) 0)=r at D;obtain⟨p2,m,q⟩:=r;obtain⟨h1,h2,h3,h4,h5,h6⟩:=D;simp only at h1 h2 h3 h4 h5 h6 ⊢;have hsz:m<=p2.size:=by lia
 by_cases hq:q>0
 .rw[if_pos hq]
  exact Mr (by lia) h3 hz ((jE _ _ _).trans h1) (by rw[Ai];exact h2) (Down.like hT h5 fun i _=>Oo hT hsz h4 h6 oX i)
 .rw[if_neg hq]
  exact Mr (by lia) h3 hz h1 h2 h5
include hA hT in
theorem acg (h1:1<=nrem) (hz:nrem<=p0.size):Cj lt p0 nrem (cI lt (uG nrem p0)):=by
 unfold uG;rw[lu];have oX:=Rn hA;obtain⟨a1,a2,a3,a4⟩:=RV (lt:=lt) (p:=p0) (nrem -1) 1 (aA _);generalize cI lt (gY p0 (nrem -1) 1)=n at a1 a2 a3 a4;have up:Up lt p0 n:=fun i hi=>by simpa using a3 (i+1) (by lia) hi
 by_cases e:(n==nrem)=true
 .rw[if_pos e]
  exact⟨.refl _,rfl,by show n<=_;lia,a1,up⟩
 .rw[if_neg e]
  have e':n≠nrem:=by simpa using e
  have ht:=a4 (by lia);by_cases hn:n>1
  .rw[if_pos hn]
   cases c:lt (at' p0 0) (at' p0 (n -1)) with
   |true=>show Cj lt p0 nrem (cI lt (if lt (at' p0 0) (at' p0 (n -1))=true then _ else _));rw[c];exact⟨.refl _,rfl,by show n<=_;lia,a1,up⟩|false=>
    show Cj lt p0 nrem (cI lt (if lt (at' p0 0) (at' p0 (n -1))=true then _ else _));rw[c];(have hsz:n<=p0.size:=by lia);have le:=fun d i h=>Up.le hT up oX d i h;have tie:∀ i,n -(n -1+1)<=i->i<n->Nv lt (at' p0 i) (at' p0 (n -1)):=fun i _ hi=>by have b1:=le (n -1 -i) i (by lia);have b2:=le i 0 (by lia);rw[show i+(n -1 -i)=n -1 by lia]at b1;rw[show 0+i=i by lia]at b2;exact⟨hT _ _ _ c b2,b1⟩
    have r0:=fun i=>Oo hT hsz (q:=n -1) (by lia) tie oX i;rw[show n -(n -1+1)=0 by lia]at r0;refine BL hA hT (by lia) hz (jE _ _ _) (Ai _ _ _) fun i hi=>?_;by_cases z:i+1=n
    .have z2:at' (jr p0 0 n) n=at' p0 n:=by rw[K1 hsz,if_neg (by lia)]
     (have z3:i=n -1:=by lia);rw[z,z2,z3];exact hT _ _ _ (hA _ _ ht) (r0 (n -1)).1
    .have t1:=Nv.trans hT (Nv.trans hT (r0 i) (tie i (by lia) (by lia))) (Nv.symm (Nv.trans hT (r0 (i+1)) (tie (i+1) (by lia) (by lia))))
     exact t1.1
  .rw[if_neg hn]
   (have n1:n=1:=by lia);subst n1;refine BL hA hT (by lia) hz (.refl _) rfl fun i hi=>?_;(have:i=0:=by lia);subst this;exact hA _ _ ht
include hA hT in
theorem DX (up:Up lt p k):∀ (f l r:Nat),l<=r->r<=k->r -l<=f->(∀ i,i<l->lt (at' p k) (at' p i)=false)->(∀ i,r<=i->i<k->lt (at' p k) (at' p i)=true)->
  cI lt (mQ p k f l r)<=k/\(∀ i,i<cI lt (mQ p k f l r)->lt (at' p k) (at' p i)=false)/\∀ i,cI lt (mQ p k f l r)<=i->i<k->lt (at' p k) (at' p i)=true
 |0,l,r,h1,h2,h3,h4,h5=>by
  have:l=r:=by lia
  subst this;exact⟨h2,h4,h5⟩
 |f+1,l,r,h1,h2,h3,h4,h5=>by
  have oX:=Rn hA;have le:=fun d i h=>Up.le hT up oX d i h;by_cases z:l≥r
  .have:l=r:=by lia
   subst this;unfold mQ;rw[if_pos z];exact⟨h2,h4,h5⟩
  .have e:cI lt (mQ p k (f+1) l r)=cI lt (if lt (at' p k) (at' p ((l+r)/2))=true then mQ p k f l ((l+r)/2)else mQ p k f ((l+r)/2+1) r):=by rw[mQ,if_neg z];rfl
   rw[e];generalize hm:(l+r)/2=m;(have m1:l<=m:=by lia);(have m2:m<r:=by lia);cases c:lt (at' p k) (at' p m) with
   |true=>
    rw[if_pos rfl];refine DX up f l m m1 (by lia) (by lia) h4 fun i b1 b2=>?_;cases q:lt (at' p k) (at' p i) with
    |true=>rfl|false=>have b3:=le (i -m) m (by lia);rw[show m+(i -m)=i by lia]at b3;have:=hT _ _ _ b3 q;rw[c]at this;cases this
   |false=>rw[if_neg (by simp)];refine DX up f (m+1) r (by lia) h2 (by lia) (fun i b1=>?_) h5;have b3:=le (m -i) i (by lia);rw[show i+(m -i)=m by lia]at b3;exact hT _ _ _ b3 c
include hA hT in
theorem aa2 (hn:n<=p0.size):∀ (f:Nat) (p:Array Nat) (k:Nat),k+f=n->p.Perm p0->p.size=p0.size->Up lt p k->(cI lt (IK f p k)).Perm p0/\Up lt (cI lt (IK f p k)) n
 |0,p,k,h,h1,h2,h3=>by
  have:k=n:=by lia
  subst this;exact⟨h1,h3⟩
 |f+1,p,k,h,h1,h2,h3=>by
  have e:cI lt (IK (f+1) p k)=cI lt (IK f (bubble p k (k -cI lt (mQ p k k 0 k))) (k+1)):=by show cI lt (KasT.bind _ _)=_;rw[lu]
  rw[e];obtain⟨b1,b2,b3⟩:=DX hA hT h3 k 0 k (jG _) (aA _) (by lia) (fun i hi=>by lia) (fun i x y=>by lia);generalize cI lt (mQ p k k 0 k)=t at b1 b2 b3;refine aa2 hn f _ (k+1) (by lia) ((bubble_perm _ _ _).trans h1) ((bubble_size _ _ _).trans h2) fun i hi=>?_;have hk:k<p.size:=by lia
  rw[ahe hk (by lia),ahe hk (by lia),show k -(k -t)=t by lia];by_cases z1:i+1=t
  .rw[if_pos z1,if_neg (by lia),if_neg (by lia)]
   exact b2 i (by lia)
  .rw[if_neg z1]
   by_cases z2:i=t
   .subst z2
    rw[if_pos rfl,if_pos (by lia)];exact hA _ _ (b3 i (aA _) (by lia))
   .rw[if_neg z2]
    by_cases z3:t<i
    .rw[if_pos (by lia),if_pos (by lia)]
     have:=h3 (i -1) (by lia);rw[show i -1+1=i by lia]at this;exact this
    .rw[if_neg (by lia),if_neg (by lia)]
     exact h3 i (by lia)
include hA hT in
theorem ac5 (h1:1<=n):(cI lt (uF n)).Perm (d8 (aU n))/\Up lt (cI lt (uF n)) n:=by
 unfold uF;rw[lu];have C:=acg (lt:=lt) hA hT (p0:=d8 (aU n)) h1 (by simp);generalize cI lt (uG n (d8 (aU n)))=r at C;by_cases z:r.1<n
 .rw[if_pos z]
  have:max r.1 1=r.1:=by have:=C.pos;lia
  rw[this];exact aa2 hA hT (by simp) (n -r.1) r.2 r.1 (by lia) C.perm C.size C.up
 .rw[if_neg z]
  have:r.1=n:=by have:=C.le;lia
  exact⟨C.perm,this▸C.up⟩
end
def Asks {α:Type} (n:Nat) (R:α->Prop):KasT α->Prop
 | .ret a=>R a| .ask i j k=>i<n/\j<n/\∀ b,Asks n R (k b)
theorem Asks.bind:∀ {t:KasT α},Asks n R t->(∀ a,R a->Asks n R' (f a))->Asks n R' (t.bind f)
 | .ret a,h,k=>k a h| .ask i j t,h,k=>⟨h.1,h.2.1,fun b=>Asks.bind (h.2.2 b) k⟩
def Vz (n:Nat) (p:Array Nat):Prop:=0<n/\∀ x∈p,x<n
theorem Vz.at (h:Vz n p) (k:Nat):at' p k<n:=by
 rw[BZ];cases e:p[k]? with
 |none=>exact h.1|some x=>exact h.2 x (Array.mem_of_getElem? e)
theorem Vz.perm (h:Vz n p) (k:q.Perm p):Vz n q:=⟨h.1,fun x hx=>h.2 x (k.mem_iff.mp hx)⟩
theorem K3 (h:Vz n p):∀ (f m:Nat),Asks n (fun _=>True) (gY p f m)
 |0,m=>trivial|f+1,m=>⟨h.at _,h.at _,fun b=>by
  cases b with
  |true=>exact trivial|false=>exact K3 h f (m+1)⟩
theorem vX:∀ (f:Nat) (p:Array Nat) (m q:Nat),Vz n p->Asks n (fun r=>Vz n r.1) (nW f p m q)
 |0,p,m,q,h=>h|f+1,p,m,q,h=>⟨h.at _,h.at _,fun b=>by
  cases b with
  |true=>
   show Asks n _ (if q>0 then nW f (jr p (m -(q+1)) m) (m+1) 0 else nW f p (m+1) 0);split
   .exact vX f _ _ _ (h.perm (jE _ _ _))
   .exact vX f _ _ _ h
  | false=>exact⟨h.at _,h.at _,fun d=>by
    cases d with
    |true=>exact h|false=>exact vX f p (m+1) (q+1) h⟩⟩
theorem HW (h:Vz n p):Asks n (fun r=>Vz n r.2) (WL m nrem p):=
 Asks.bind (K3 (h.perm (jE p 0 m)) _ _) fun _ _=>h.perm (jE p 0 m)
theorem xR (h:Vz n p):Asks n (fun r=>Vz n r.2) (Xg m nrem p):=
 Asks.bind (vX _ p _ 0 h) fun r hr=>by
  split
  .exact HW (hr.perm (jE _ _ _))
  .exact HW hr
theorem KJ (h:Vz n p):Asks n (fun r=>Vz n r.2) (uG nrem p):=
 Asks.bind (K3 h _ _) fun m _=>by
  split
  .exact h
  .split
   .refine⟨h.at _,h.at _,fun b=>?_⟩
    cases b with
    |true=>exact h|false=>exact xR (h.perm (jE _ _ _))
   .exact xR h
theorem yP (h:Vz n p):∀ (f l r:Nat),Asks n (fun _=>True) (mQ p k f l r)
 |0,l,r=>trivial|f+1,l,r=>by
  unfold mQ;split
  .trivial
  .refine⟨h.at _,h.at _,fun b=>?_⟩
   cases b with
   |true=>exact yP h f _ _|false=>exact yP h f _ _
theorem Vs:∀ (f:Nat) (p:Array Nat) (k:Nat),Vz n p->Asks n (fun _=>True) (IK f p k)
 |0,p,k,_=>trivial|f+1,p,k,h=>Asks.bind (yP h _ _ _) fun l _=>Vs f _ _ (h.perm (bubble_perm _ _ _))
theorem abo (hn:0<n):Asks n (fun _=>True) (uF n):=
 Asks.bind (KJ ⟨hn,fun x hx=>by simpa using hx⟩) fun r hr=>by
  split
  .exact Vs _ _ _ hr
  .trivial
open PySem.Calls
theorem Ef (hc:∀ i j (C:Bool->aj->Prop),i<n->j<n->C (lt i j) s->cmp i j C s):
  ∀ (t:KasT α),Asks n R t->Q (cI lt t) s->t.kasWp cmp Q s
 | .ret a,_,h=>h| .ask i j k,a,h=>hc i j _ a.1 a.2.1 (Ef hc (k (lt i j)) (a.2.2 _) h)
section
variable {prog:aZ} {w:aQ} {A:aL} {E:Value->aj->Prop} {s:aj} {vs:List Value} {lt:Nat->Nat->Bool}
def Comp (prog:aZ) (w:aQ) (A:aL) (h:Heap) (vs:List Value) (lt:Nat->Nat->Bool):Prop:=
 2<=vs.length->∀ s':aj,(∀ b o,h.get? b=some o->s'.heap.get? b=some o)->∃ κ,(∀ R:uE->aj->Prop,R κ s'->ak (aH prog w) A (keyKind' vs.toArray) R (fun _ _=>False) s')/\
  ∀ i j (C:Bool->aj->Prop),i<vs.length->j<vs.length->C (lt i j) s'->Iz prog w A κ vs i j C s'
def xq (vs:List Value) (p:Array Nat):List Value:=p.toList.map fun i=>vs.getD i fY
theorem abw (vs:List Value):xq vs (d8 (aU vs.length))=vs:=by
 apply Jp;intro i;unfold xq;by_cases h:i<vs.length
 .simp[h]
 .simp[Jk h,h]
def ahj (lt:Nat->Nat->Bool) (n:Nat):Prop:=n<64∨(n<300/\(cI lt (uG n (d8 (aU n)))).1=n)
theorem abG:∀ n,n<300->64<=n->minRun' n n 0<=n:=by
 have h:∀ n,n<300->(decide (64<=n)&& !decide (minRun' n n 0<=n))=false:=by decide+kernel
 intro n h1 h2;have:=h n h1;rw[decide_eq_true h2,mR]at this;simpa using this
theorem amD {κ:uE} {it:Array Keyed} {n:Nat} {Q:Unit->cZ->aj->Prop} {G:Array Nat->aj->Prop} (h2:2<=n) (h3:n<300) (h64:64<=n)
  (hG:∀ p' st' s',p'.size=n->arrOf st'=p'.map (Df it)->Oz st'=none->G p' s'->Q () st' s') (h:(uG n (d8 (aU n))).kasWp (kas_cmp prog w A κ it) (fun r s'=>r.1=n/\G r.2 s') s):
  kasC (aH prog w) A E WK Q (CZ κ it (d8 (aU n))) s:=by
 obtain⟨r,rfl⟩:∃ r,n=r+2:=⟨n -2,by lia⟩;have hrs:(d8 (aU (r+2))).size=r+2:=by simp
 rw[sortRuns'_eq];refine yj (kasC_get ?_);dsimp only;have hsz:(arrOf (CZ κ it (d8 (aU (r+2))))).size=r+2:=by show((d8 (aU (r+2))).map (Df it)).size=_;rw[Array.size_map,hrs]
 have hmr:=abG (r+2) h3 h64;simp only[hsz];refine yj (kasC_range ?_);show kasC _ _ _ (forIn (0::1::fZ 2 r) _ _) _ _ _;refine WD ?_;dsimp only;rw[if_neg (by lia)];simp only[Xf,Xe];refine yj (kas_count_ (by lia) (by rw[hrs];exact aA _) (fun m p' s' hm1 hm2 hp hg=>?_) h);have hps:p'.size=r+2:=hp.trans hrs;dsimp only;obtain⟨hm,hg'⟩:=hg;have hm:m=r+2:=hm;subst hm;rw[if_neg (by lia)];refine yj (kasC_get ?_);rw[show(Wz (CZ κ it p')).back?=none from rfl];dsimp only;refine yj (kasC_modify (O4 ?_));show kasC _ _ _ (forIn (1::fZ 2 r) _ _) _ _ _;refine WD ?_;dsimp only;rw[if_pos (aA _)];refine O4 ?_;dsimp only;refine yj (kasC_range ?_);show kasC _ _ _ (forIn (0::1::fZ 2 r) _ _) _ _ _;refine WD ?_;refine yj (kasC_get ?_);rw[if_pos (show(Wz (setPending (CZ κ it p') ((Wz (CZ κ it p')).push (0,r+2,0)))).size<=1 from aA 1)];refine O4 ?_;dsimp only;exact O4 (hG p' _ _ hps rfl rfl hg')
theorem aiE {κ:uE} {Q:cZ->aj->Prop} {G:Array Nat->aj->Prop} (h2:2<=vs.length) (h64:ahj lt vs.length)
  (hG:∀ p st' s',p.size=vs.length->arrOf st'=p.map (Df (vs.toArray.zip vs.toArray))->Oz st'=none->G p s'->Q st' s')
  (hc:∀ i j (C:Bool->aj->Prop),i<vs.length->j<vs.length->C (lt i j) s->Iz prog w A κ vs i j C s) (g:G (cI lt (uF vs.length)) s):
  ak (aH prog w) A ((WK).run (Di κ (vs.toArray.zip vs.toArray) #[] 7 none)) (fun r s'=>Q r.2 s') E s:=by
 by_cases h:vs.length<64
 .exact kat_run (ks:=vs) rfl h2 h hG (Ef hc _ (abo (by lia)) g)
 .obtain⟨h3,h4⟩:vs.length<300/\(cI lt (uG vs.length (d8 (aU vs.length)))).1=vs.length:=by
   rcases h64 with h' |h'
   .exact absurd h' h
   .exact h'
  have eg:cI lt (uF vs.length)=(cI lt (uG vs.length (d8 (aU vs.length)))).2:=by unfold uF;rw[lu,h4,if_neg (jg _)];rfl
  rw[eg]at g;have bel:Vz vs.length (d8 (aU vs.length)):=⟨by lia,fun x hx=>by simpa using hx⟩;have hd:=Ef (Q:=fun r s'=>r.1=vs.length/\G r.2 s') hc _ (KJ (nrem:=vs.length) bel) ⟨h4,g⟩;rw[kat_ask_eq (ks:=vs) rfl]at hd;have run:=amD (E:=E) (Q:=fun _ st' s'=>Q st' s') h2 h3 (by lia) hG hd;have est:Di κ (vs.toArray.zip vs.toArray) #[] 7 none=CZ κ (vs.toArray.zip vs.toArray) (d8 (aU vs.length)):=by have e:=kas_range (vs.toArray.zip vs.toArray);rw[show(vs.toArray.zip vs.toArray).size=vs.length by simp]at e;show Di κ (vs.toArray.zip vs.toArray) #[] 7 none=Di κ ((d8 (aU vs.length)).map (Df (vs.toArray.zip vs.toArray))) #[] 7 none;rw[e]
  rw[est];exact run
def K6 (vs:List Value) (lt:Nat->Nat->Bool):Prop:=∀ (prog:aZ) (w:aQ) (A:aL) (E:Value->aj->Prop) (s:aj) (κ:uE),(∀ i j (C:Bool->aj->Prop),i<vs.length->j<vs.length->C (lt i j) s->Iz prog w A κ vs i j C s)->
 ∀ Q:cZ->aj->Prop,(∀ (p:Array Nat) (st':cZ),p.Perm (d8 (aU vs.length))->Up lt p vs.length->arrOf st'=p.map (Df (vs.toArray.zip vs.toArray))->Oz st'=none->Q st' s)->
 ak (aH prog w) A ((WK).run (Di κ (vs.toArray.zip vs.toArray) #[] 7 none)) (fun r s'=>Q r.2 s') E s
theorem Td (h64:ahj lt vs.length) (hA:∀ a b,lt a b=true->lt b a=false) (hT:∀ a b c,lt b a=false->lt c b=false->lt c a=false) (h2:2<=vs.length):K6 vs lt:=by intro prog w A E s κ hc Q h;obtain⟨r1,r2⟩:=ac5 hA hT (n:=vs.length) (by lia);exact aiE (vs:=vs) (lt:=lt) (Q:=Q) (G:=fun p s'=>s'=s/\p=cI lt (uF vs.length)) h2 h64 (fun p st' s' a1 a2 a3 a4=>by obtain⟨rfl,rfl⟩:=a4;exact h _ _ r1 r2 a2 a3) hc ⟨rfl,rfl⟩
theorem Lj (ob:s.heap.get? a=some (eH "list" vs.toArray n)) (aiR:vs.length<300) (ho:2<=vs.length->K6 vs lt)
  (hc:2<=vs.length->∀ s':aj,(∀ b o,b≠a->s.heap.get? b=some o->s'.heap.get? b=some o)->∃ κ,(∀ R:uE->aj->Prop,R κ s'->ak (aH prog w) A (keyKind' vs.toArray) R (fun _ _=>False) s')/\
   ∀ i j (C:Bool->aj->Prop),i<vs.length->j<vs.length->C (lt i j) s'->Iz prog w A κ vs i j C s')
  (h:∀ p:Array Nat,p.Perm (d8 (aU vs.length))->Up lt p vs.length->P (.done (.ret .none)) {s with heap:=sortedHeap s.heap a vs (d8 (xq vs p))}):
  ak (aH prog w) A (rJ.«list.sort» ⟨[.ref a],[]⟩) P E s:=by
 have sz:vs.toArray.size=vs.length:=by simp
 have lz:∀ {p:Array Nat},p.size=vs.length->(d8 (xq vs p)).size<=sizeLine+1:=fun hp=>by unfold xq;rw[cB,aR,tu,hp,cY];lia
 rw[list_sort_plain];refine aq (listItems_at ob rfl ?_);refine aq (Xm ob rfl ?_ (by rw[cB,cY];lia) (jG _));obtain⟨ep,ob1⟩:∃ ep,(s.heap.update a (ig fun _=>(#[]:Array Value))).get? a=some (eH "list" #[] ep):=⟨_,get?_update_seq ob fun _=>#[]⟩;refine aq (W7 ob1 rfl ?_);refine aq (wpAny_newTuple ?_ (by show vs.length<=_;rw[cY];lia));refine aq (wpAny_newList ?_ (jG _));refine kZ ?_;have ob6:(((s.heap.update a (ig fun _=>(#[]:Array Value))).push (eH "tuple" vs.toArray 0)).push (eH "list" #[] 0)).get? a=some (eH "list" #[] ep):=eV _ (eV _ ob1);have kp:∀ b o,b≠a->s.heap.get? b=some o->(((s.heap.update a (ig fun _=>(#[]:Array Value))).push (eH "tuple" vs.toArray 0)).push (eH "list" #[] 0)).get? b=some o:=fun b o nb e=>eV _ (eV _ (by rw[aeJ _ _ _ _ nb];exact e))
 show ak (aH prog w) A _ P E {s with heap:=((s.heap.update a (ig fun _=>(#[]:Array Value))).push (eH "tuple" vs.toArray 0)).push (eH "list" #[] 0)};dsimp only;by_cases z:vs.toArray.size<2
 .rw[if_pos z,if_pos z]
  refine aq (aG ?_);rw[StateT.run_pure];refine aq (aG ?_);dsimp only;have eo:(arrOf (Di general' (vs.toArray.zip vs.toArray) #[] 7 none)).map (·.2)=d8 (xq vs (d8 (aU vs.length))):=by
   rw[abw];show(vs.toArray.zip vs.toArray).map (·.2)=vs.toArray
   apply yI.mp;simp[Qi]
  rw[eo];refine aq (W7 ob6 rfl ?_);refine aq (Xm ob6 rfl ?_ (jG _) (lz (by simp)));simp only[if_false,bne_self_eq_false,cg];refine aG (h _ (.refl _) fun i hi=>?_);rw[sz]at z;lia
 .rw[if_neg z,if_neg z]
  rw[sz]at z;obtain⟨κ,k1,k2⟩:=hc (by lia) {s with heap:=((s.heap.update a (ig fun _=>(#[]:Array Value))).push (eH "tuple" vs.toArray 0)).push (eH "list" #[] 0)} kp;refine aq (iu (k1 (fun κ' s'=>κ'=κ/\s'=_) ⟨rfl,rfl⟩) (fun κ' s0 e0=>?_) fun _ _ x=>x.elim);obtain⟨rfl,rfl⟩:=e0;refine aq (iu (ho (by lia) _ _ _ _ _ _ k2 (fun st' s'=>s'={s with heap:=((s.heap.update a (ig fun _=>(#[]:Array Value))).push (eH "tuple" vs.toArray 0)).push (eH "list" #[] 0)}/\∃ p:Array Nat,p.Perm (d8 (aU vs.length))/\Up lt p vs.length/\arrOf st'=p.map (Df (vs.toArray.zip vs.toArray))/\Oz st'=none) fun p st' q1 q2 har hf=>⟨rfl,p,q1,q2,har,hf⟩) ?_ fun _ _ e=>e);rintro⟨⟨⟩,st'⟩ s' ⟨rfl,p,q1,q2,har,hf⟩;have hp:p.size=vs.length:=by have:=q1.size_eq;simpa using this
  dsimp only;have hs:=kat_snds (vs:=vs) rfl har;rw[hs];refine aq (W7 ob6 rfl ?_);refine aq (Xm ob6 rfl ?_ (jG _) (lz hp));rw[hf];simp only[if_false,bne_self_eq_false,cg];exact aG (h _ q1 q2)
theorem Wm (hl:s.heap.IsList l vs.toArray) (aiR:vs.length<300) (ho:2<=vs.length->K6 vs lt)
  (hc:Comp prog w A.in1.in1 s.heap vs lt)
  (h:∀ p:Array Nat,p.Perm (d8 (aU vs.length))->Up lt p vs.length->Q (.ref (s.heap.objs.size+1)) {s with heap:=sortedAll s.heap vs (d8 (xq vs p))}):
  ak (aH prog w) A (call (.builtin "sorted") [.ref l]) Q E s:=by
 refine adL kind_sorted plain_sorted entry_sorted (args_sorted1 _) ?_;unfold rJ.«sorted»;refine aq (m:=checkCount "sorted" 1 1 _) (aG ?_);refine aq (collect_list hl ?_ (by rw[cY];lia));refine aq (wpAny_newList ?_ (by show vs.length<=_;rw[cY];lia));have zs:((s.heap.push (eH "list" #[] 0)).update s.heap.objs.size (ig (·++vs.toArray))).objs.size=s.heap.objs.size+1:=by rw[Heap.size_update,size_push']
 have obL:(((s.heap.push (eH "list" #[] 0)).update s.heap.objs.size (ig (·++vs.toArray))).push (eH "list" vs.toArray 0)).get? (s.heap.objs.size+1)=some (eH "list" vs.toArray 0):=by rw[<-zs];exact gU _ rfl
 have kp:∀ b o,s.heap.get? b=some o->(((s.heap.push (eH "list" #[] 0)).update s.heap.objs.size (ig (·++vs.toArray))).push (eH "list" vs.toArray 0)).get? b=some o:=fun b o q=>by have hb:b<s.heap.objs.size:=bW q;rw[aei _ _ _ (by rw[zs];exact jf (Dy hb)),aeJ _ _ _ _ (jf hb),aei _ _ _ (jf hb)];exact q
 show ak _ _ _ _ _ {s with heap:=((s.heap.push (eH "list" #[] 0)).update s.heap.objs.size (ig (·++vs.toArray))).push (eH "list" vs.toArray 0)}
 rw[zs];refine aq (kZ (yK slot_list_sort ⟨_,obL,rfl⟩ entry_list_sort (Lj (lt:=lt) obL aiR ho (fun h2 s' k=>hc h2 s' fun b o e=>k b o ?_ (kp b o e)) fun p q1 q2=>⟨_,rfl,?_⟩) (args_list_sort _)))
 .exact jf (Dy (bW e))
 .exact aG ⟨_,rfl,h p q1 q2⟩
end
theorem G7:∀ (x y:List Nat),dO x y=decide (x<y)
 |[],[]=>by simp[dO]|[],_::_=>by simp[dO]|_::_,[]=>by simp[dO]|a::x,b::y=>by
  unfold dO;by_cases h:a=b
  .subst h
   rw[if_pos rfl,G7 x y];simp[Qy]
  .rw[if_neg h]
   simp[Qy,h]
def IsItem (h:Heap) (v:Value) (x:Itm):Prop:=∃ (a:Addr) (o:Obj) (t u:Tok) (n:Nat),v= .ref a/\h.get? a=some o/\o.cls= .type "tuple"/\o.data= .seq #[.int x.1 t,.str ⟨x.2.toArray⟩ u] n
def ltAt (r:List Itm) (i j:Nat):Bool:=gM (r[i]?.getD (0,[])) (r[j]?.getD (0,[]))
section
variable {prog:aZ} {w:aQ} {A:aL} {E:Value->aj->Prop}
theorem ahf (hv:IsItem s.heap v x) (hu:IsItem s.heap u y) (h:C (gM x y) s):ak (aH prog w) A (keyLt' (tuples' true) v u) C E s:=by
 obtain⟨a,oa,t1,t2,n,rfl,ga,_,da⟩:=hv;obtain⟨b,ob,t3,t4,m,rfl,gb,_,db⟩:=hu;refine kat_lt ga da gb db ?_;refine kat_cons (ad9 ?_);unfold gM at h;by_cases e:x.1=y.1
 .rw[if_pos e]at h
  have e':(x.1==y.1)=true:=by simp[e]
  rw[e'];refine kat_yes (kat_cons (ad8 ?_));by_cases e2:x.2=y.2
  .have q:dO x.2 y.2=false:=by rw[e2,G7];simp
   rw[q]at h;rw[e2,decide_eq_true rfl];exact kat_yes (kat_nil h)
  .have ne:¬(⟨x.2.toArray⟩:Str)=⟨y.2.toArray⟩:=fun z=>e2 (by have:=congrArg (fun q:Str=>q.cps.toList) z;simpa using this)
   rw[decide_eq_false ne];refine kat_no (kat_one _ _ (lt_str ?_));rw[G7]at h;exact h
 .rw[if_neg e]at h
  have e':(x.1==y.1)=false:=by simp[e]
  rw[e'];exact kat_no (oneLt_int h)
theorem ZL (hl:vs.length=r.length) (hi:∀ (i:Nat) (v:Value) (x:Itm),vs[i]?=some v->r[i]?=some x->IsItem h v x):Comp prog w A h vs (ltAt r):=by
 intro h2 s' keep;have hi':∀ (i:Nat) (v:Value) (x:Itm),vs[i]?=some v->r[i]?=some x->IsItem s'.heap v x:=fun i v x e1 e2=>by obtain⟨a,o,t,u,n,q1,q2,q3⟩:=hi i v x e1 e2;exact⟨a,o,t,u,n,q1,keep _ _ q2,q3⟩
 refine⟨tuples' true,fun R hR=>?_,fun i j C hi1 hj1 hC=>?_⟩
 .have tups:∀ (vs:List Value) (r:List Itm),vs.length=r.length->(∀ (i:Nat) (v:Value) (x:Itm),vs[i]?=some v->r[i]?=some x->IsItem s'.heap v x)->∃ fs:List Value,KatTups s'.heap vs fs/\fs.length=vs.length/\∀ f∈fs,∃ i t,f=pR i t:=by
   intro vs;induction vs with
   |nil=>intro r _ _;exact⟨[],.nil,rfl,by simp⟩|cons v vs ih=>
    intro r hl hi;cases r with
    |nil=>simp at hl|cons x r=>
     obtain⟨fs,k1,k2,k3⟩:=ih r (by simpa using hl) fun i v' x' e1 e2=>hi (i+1) v' x' (by simpa using e1) (by simpa using e2);obtain⟨a,o,t,u,n,rfl,q2,q3,q4⟩:=hi 0 v x rfl rfl;refine⟨.int x.1 t::fs,.cons q2 q3 q4 rfl k1,by simp[k2],fun f hf=>?_⟩;rcases bC.mp hf with rfl|hf
     .exact⟨_,_,rfl⟩
     .exact k3 f hf
  obtain⟨fs,k1,k2,k3⟩:=tups vs r hl hi';refine kat_kind (T:=.type "int") k1 (by lia) (fun v hv=>?_) rfl hR;obtain⟨i,t,rfl⟩:=k3 v hv;exact Looks.of_pure rfl
 .have hir:i<r.length:=by lia
  have hjr:j<r.length:=by lia
  have ei:vs.getD i fY=vs[i]:=by simp[hi1]
  have ej:vs.getD j fY=vs[j]:=by simp[hj1]
  have el:ltAt r i j=gM r[i] r[j]:=by simp[ltAt,hir,hjr]
  unfold Iz;rw[ei,ej];rw[el]at hC;exact ahf (hi' i _ _ (dw hi1) (dw hir)) (hi' j _ _ (dw hj1) (dw hjr)) hC
end
end DW
namespace DW
theorem JR:∀ x:List Nat,dO x x=false
 |[]=>rfl|a::x=>by simp[dO,JR x]
theorem M9:∀ x y:List Nat,dO x y=true->dO y x=false
 |[],[],h=>by simp[dO]at h|[],_::_,_=>rfl|_::_,[],h=>by simp[dO]at h|a::x,b::y,h=>by
  unfold dO at h ⊢;by_cases e:a=b
  .rw[if_pos e]at h
   rw[if_pos e.symm];exact M9 x y h
  .rw[if_neg e]at h
   rw[if_neg (fun z=>e z.symm)];simp at h ⊢;lia
theorem T6:∀ x y:List Nat,dO x y=false->dO y x=false->x=y
 |[],[],_,_=>rfl|[],_::_,h,_=>by simp[dO]at h|_::_,[],_,h=>by simp[dO]at h|a::x,b::y,h,k=>by
  unfold dO at h k;by_cases e:a=b
  .rw[if_pos e]at h
   rw[if_pos e.symm]at k;rw[e,T6 x y h k]
  .rw[if_neg e]at h
   rw[if_neg (fun z=>e z.symm)]at k;simp at h k;lia
theorem JQ:∀ x y z:List Nat,dO y x=false->dO z y=false->dO z x=false
 |x,y,[],h,k=>by
  cases x with
  |nil=>rfl|cons a x=>
   cases y with
   |nil=>simp[dO]at h|cons b y=>simp[dO]at k
 |[],y,c::z,h,k=>by simp[dO]|a::x,[],c::z,h,k=>by simp[dO]at h|a::x,b::y,c::z,h,k=>by
  unfold dO at h k ⊢;by_cases e:b=a
  .by_cases f:c=b
   .rw[if_pos e]at h;rw[if_pos f]at k;rw[if_pos (f.trans e)]
    exact JQ x y z h k
   .rw[if_neg f]at k;subst e;rw[if_neg f];exact k
  .rw[if_neg e]at h
   by_cases f:c=b
   .subst f;rw[if_neg e];exact h
   .rw[if_neg f]at k
    simp at h k;rw[if_neg (by lia)];simp;lia
theorem qI (x y:Itm) (h:gM x y=true):gM y x=false:=by
 unfold gM at h ⊢;by_cases e:x.1=y.1
 .rw[if_pos e]at h;rw[if_pos e.symm];exact M9 _ _ h
 .rw[if_neg e]at h;rw[if_neg (fun z=>e z.symm)];simp at h ⊢;lia
theorem aaB (x y:Itm) (h:gM x y=false) (k:gM y x=false):x=y:=by
 unfold gM at h k;by_cases e:x.1=y.1
 .rw[if_pos e]at h;rw[if_pos e.symm]at k
  exact O1 e (T6 _ _ h k)
 .rw[if_neg e]at h;rw[if_neg (fun z=>e z.symm)]at k;simp at h k;lia
theorem jz (x y z:Itm) (h:gM y x=false) (k:gM z y=false):gM z x=false:=by
 unfold gM at h k ⊢;by_cases e:y.1=x.1
 .by_cases f:z.1=y.1
  .rw[if_pos e]at h;rw[if_pos f]at k;rw[if_pos (f.trans e)];exact JQ _ _ _ h k
  .rw[if_neg f]at k;rw[<-e,if_neg f];exact k
 .rw[if_neg e]at h
  by_cases f:z.1=y.1
  .rw[f,if_neg e];exact h
  .rw[if_neg f]at k
   simp at h k;rw[if_neg (by lia)];simp;lia
theorem Bg (x:Itm):gM x x=false:=by simp[gM,JR]
theorem Fp:∀ {a b:List Itm},a.Perm b->j5 a->j5 b->a=b
 |[],b,p,_,_=>(List.nil_perm.mp p).symm|x::a,[],p,_,_=>by have:=p.length_eq;simp at this|x::a,y::b,p,h,k=>by
  have hx:=yM.mp h;have hy:=yM.mp k;have e:x=y:=by
   have m1:x∈y::b:=p.subset (by simp);have m2:y∈x::a:=p.symm.subset (by simp);simp at m1 m2;rcases m1 with e|m1
   .exact e
   .rcases m2 with e|m2
    .exact e.symm
    .exact aaB x y (hy.1 x m1) (hx.1 y m2)
  subst e;rw[Fp ((List.perm_cons x).mp p) hx.2 hy.2]
open PySem PySem.W PyProof.Rows
theorem Nb (r:List Itm):∀ a b,ltAt r a b=true->ltAt r b a=false:=fun a b h=>qI _ _ h
theorem yW (r:List Itm):∀ a b c,ltAt r b a=false->ltAt r c b=false->ltAt r c a=false:=fun a b c h k=>jz _ _ _ h k
def outI (r:List Itm) (p:Array Nat):List Itm:=p.toList.map fun i=>r[i]?.getD (0,[])
theorem abx (h:p.Perm (d8 (aU r.length))):(outI r p).Perm r:=by
 have h1:p.toList.Perm (aU r.length):=by simpa using afn.mp h
 refine(h1.map fun i=>r[i]?.getD (0,[])).trans (List.Perm.of_eq ?_);apply Jp;intro i;by_cases q:i<r.length
 .simp[q]
 .simp[q,Jk q]
theorem Tw (hn:p.size=n) (h:Up (ltAt r) p n):j5 (outI r p):=by
 refine YJ.mpr fun i j h1 h2 hij=>?_;have le:=Up.le (yW r) h (fun a=>Bg _) (j -i) i (by simp[outI]at h2;lia);rw[show i+(j -i)=j by lia]at le;have e1:i<p.size:=by simpa[outI]using h1
 have e2:j<p.size:=by simpa[outI]using h2
 have f1:at' p i=p[i]:=by simp[BZ,e1]
 have f2:at' p j=p[j]:=by simp[BZ,e2]
 rw[f1,f2]at le;simpa[outI,ltAt]using le
open PySem.Calls
end DW
namespace DW.TS
open PySem PySem.W PySem.Calls PyProof.Rows
def Hj:Bool->Keyed->Array Keyed->Nat->Nat->Nat->StateT cZ Sem (Option Nat):=sortPriv%PySem.Builtin.gallop
def aak:Nat->StateT cZ Sem Unit:=sortPriv%PySem.Builtin.setMinGallop
def kc (prog:aZ) (w:aQ) (A:aL) (E:Value->aj->Prop) (s:aj) {α:Type} (m:StateT cZ Sem α) (Q:α->cZ->Prop) (st:cZ):Prop:=kasC (aH prog w) A E m (fun a st' s'=>s'=s/\Q a st') st s
noncomputable abbrev GS:=Option (Array Keyed)×Array Keyed×Nat×Nat×Nat×Nat×Nat
noncomputable abbrev PS:=Option (Array Keyed)×Array Keyed×Nat×Nat×Nat×Nat
noncomputable abbrev OS:=Option (Array Keyed)×Array Keyed×Nat×Nat×Nat
section
variable (a b:Array Keyed)
def T7 (out:Array Keyed) (ia ib:Nat):Array Keyed:=out++a.extract ia a.size++b.extract ib b.size
def aiy (out:Array Keyed) (ia ib:Nat):Array Keyed:=out++b.extract ib b.size++a.extract ia a.size
def loD (out:Array Keyed) (ia ib mg ac bc:Nat):StateT cZ Sem (ForInStep GS):=do
 let x<-gj a ia
 if(ia+1+1==a.size)=true then pure (.done (some (aiy a b (out.push x) (ia+1) ib),out.push x,ia+1,ib,mg,ac,bc))
 else if(decide (ac<7)&&decide (bc<7))=true then pure (.done (none,out.push x,ia+1,ib,mg,ac,bc))else pure (.yield (none,out.push x,ia+1,ib,mg,ac,bc))
def loC (out:Array Keyed) (ia ib mg ac bc:Nat):StateT cZ Sem (ForInStep GS):=do
 let y<-gj b ib
 if(ib+1==b.size)=true then pure (.done (some (T7 a b (out.push y) ia (ib+1)),out.push y,ia,ib+1,mg,ac,bc))
 else do
  let x<-gj a ia;let k<-Hj true x b (ib+1) (b.size -(ib+1)) 0
  match k with
  |some k=>if k>0 then(if(ib+1+k==b.size)=true then pure (.done (some (T7 a b (out.push y++b.extract (ib+1) (ib+1+k)) ia (ib+1+k)),out.push y++b.extract (ib+1) (ib+1+k),ia,ib+1+k,mg,ac,k))else loD a b (out.push y++b.extract (ib+1) (ib+1+k)) ia (ib+1+k) mg ac k)else loD a b (out.push y) ia (ib+1) mg ac k|_=>pure (.done (some (T7 a b (out.push y) ia (ib+1)),out.push y,ia,ib+1,mg,ac,bc))
def loG (out:Array Keyed) (ia ib mg ac bc:Nat):StateT cZ Sem (ForInStep GS):=do
 aak mg
 let y<-gj b ib;let k<-Hj false y a ia (a.size -ia) 0
 match k with
 |some k=>if k>0 then(if(ia+k+1==a.size)=true then pure (.done (some (aiy a b (out++a.extract ia (ia+k)) (ia+k) ib),out++a.extract ia (ia+k),ia+k,ib,mg,k,bc))else if(ia+k==a.size)=true then pure (.done (some (T7 a b (out++a.extract ia (ia+k)) (ia+k) ib),out++a.extract ia (ia+k),ia+k,ib,mg,k,bc))else loC a b (out++a.extract ia (ia+k)) (ia+k) ib mg k bc)else loC a b out ia ib mg k bc|_=>pure (.done (some (T7 a b out ia ib),out,ia,ib,mg,ac,bc))
def loP (mg:Nat) (r:PS):StateT cZ Sem (ForInStep PS):=do
 let y<-gj b r.2.2.2.1;let x<-gj a r.2.2.1;let z<-lt' y x
 match z with
 |some bWins=>
  if bWins=true then do
   let y<-gj b r.2.2.2.1
   if(r.2.2.2.1+1==b.size)=true then pure (.done (some (T7 a b (r.2.1.push y) r.2.2.1 (r.2.2.2.1+1)),r.2.1.push y,r.2.2.1,r.2.2.2.1+1,0,r.2.2.2.2.2+1))
   else if r.2.2.2.2.2+1≥mg then pure (.done (none,r.2.1.push y,r.2.2.1,r.2.2.2.1+1,0,r.2.2.2.2.2+1))else pure (.yield (none,r.2.1.push y,r.2.2.1,r.2.2.2.1+1,0,r.2.2.2.2.2+1))
  else do
   let x<-gj a r.2.2.1
   if(r.2.2.1+1+1==a.size)=true then pure (.done (some (aiy a b (r.2.1.push x) (r.2.2.1+1) r.2.2.2.1),r.2.1.push x,r.2.2.1+1,r.2.2.2.1,r.2.2.2.2.1+1,0))
   else if r.2.2.2.2.1+1≥mg then pure (.done (none,r.2.1.push x,r.2.2.1+1,r.2.2.2.1,r.2.2.2.2.1+1,0))else pure (.yield (none,r.2.1.push x,r.2.2.1+1,r.2.2.2.1,r.2.2.2.2.1+1,0))
 |_=>pure (.done (some (T7 a b r.2.1 r.2.2.1 r.2.2.2.1),r.2.1,r.2.2.1,r.2.2.2.1,r.2.2.2.2.1,r.2.2.2.2.2))
def loO (r:OS):StateT cZ Sem (ForInStep OS):=do
 let q<-forIn [0:a.size+b.size] ((none,r.2.1,r.2.2.1,r.2.2.2.1,0,0):PS) fun _ q=>loP a b r.2.2.2.2 q
 match q.1 with
 |some z=>pure (.done (some z,q.2.1,q.2.2.1,q.2.2.2.1,r.2.2.2.2))|none=>do
  liftM (rule "list.sort.gallop")
  let t<-forIn [0:a.size+b.size] ((none,q.2.1,q.2.2.1,q.2.2.2.1,r.2.2.2.2+1,q.2.2.2.2.1,q.2.2.2.2.2):GS) fun _ t=>if t.2.2.2.2.1>1 then loG a b t.2.1 t.2.2.1 t.2.2.2.1 (t.2.2.2.2.1 -1) t.2.2.2.2.2.1 t.2.2.2.2.2.2 else loG a b t.2.1 t.2.2.1 t.2.2.2.1 t.2.2.2.2.1 t.2.2.2.2.2.1 t.2.2.2.2.2.2
  match t.1 with
  |some z=>pure (.done (some z,t.2.1,t.2.2.1,t.2.2.2.1,t.2.2.2.2.1))|none=>do
   aak (t.2.2.2.2.1+1)
   pure (.yield (none,t.2.1,t.2.2.1,t.2.2.2.1,t.2.2.2.2.1+1))
def lo:StateT cZ Sem (Array Keyed):=do
 liftM (rule "list.sort.merge-lo")
 let y<-gj b 0
 if(1==b.size)=true then pure (T7 a b #[y] 0 1)
 else if(0+1==a.size)=true then pure (aiy a b #[y] 0 1)
 else do
  let s<-get;let r<-forIn [0:a.size+b.size] ((none,#[y],0,1,gallopOf s):OS) fun _ r=>loO a b r
  match r.1 with
  |some z=>pure z|none=>liftM (unsupported "internal:list.sort.merge-bound":Sem (Array Keyed))
end
noncomputable abbrev Srt (c:Keyed->Keyed->Bool) (l:List Keyed):Prop:=l.Pairwise fun x y=>c y x=false
structure MI (c:Keyed->Keyed->Bool) (la lb out:List Keyed) (ia ib:Nat):Prop where
 p1:Srt c (out++la.drop ia)
 p2:Srt c (out++lb.drop ib)
 pm:(out++(la.drop ia++lb.drop ib)).Perm (la++lb)
 i1:ia<=la.length
 i2:ib<=lb.length
 sz:out.length=ia+ib
theorem MI.swap (h:MI c la lb out ia ib):MI c lb la out ib ia:=
 ⟨h.p2,h.p1,((ae1.append_left out).trans h.pm).trans ae1,h.i2,h.i1,by rw[h.sz];lia⟩
noncomputable abbrev GH:=Option (Array Keyed)×Nat×Nat×Array Keyed×Nat×Nat×Nat
noncomputable abbrev PH:=Option (Array Keyed)×Nat×Nat×Array Keyed×Nat×Nat
noncomputable abbrev OH:=Option (Array Keyed)×Nat×Nat×Array Keyed×Nat
section
variable (a b:Array Keyed)
def UJ (out:Array Keyed) (na nb:Nat):Array Keyed:=a.extract 0 na++b.extract 0 nb++out.reverse
def aiO (out:Array Keyed) (na nb:Nat):Array Keyed:=b.extract 0 nb++a.extract 0 na++out.reverse
def hiD (out:Array Keyed) (na nb mg ac bc:Nat):StateT cZ Sem (ForInStep GH):=do
 let x<-gj a (na -1)
 if(na -1==0)=true then pure (.done (some (UJ a b (out.push x) (na -1) nb),na -1,nb,out.push x,mg,ac,bc))
 else if(decide (ac<7)&&decide (bc<7))=true then pure (.done (none,na -1,nb,out.push x,mg,ac,bc))else pure (.yield (none,na -1,nb,out.push x,mg,ac,bc))
def hiC (out:Array Keyed) (na nb mg ac bc:Nat):StateT cZ Sem (ForInStep GH):=do
 let y<-gj b (nb -1)
 if(nb -1==1)=true then pure (.done (some (aiO a b (out.push y) na (nb -1)),na,nb -1,out.push y,mg,ac,bc))
 else do
  let x<-gj a (na -1);let k<-Hj true x b 0 (nb -1) (nb -1 -1)
  match k with
  |some k=>if nb -1 -k>0 then(if(k==1)=true then pure (.done (some (aiO a b (out.push y++(b.extract k (nb -1)).reverse) na k),na,k,out.push y++(b.extract k (nb -1)).reverse,mg,ac,nb -1 -k))else if(k==0)=true then pure (.done (some (UJ a b (out.push y++(b.extract k (nb -1)).reverse) na k),na,k,out.push y++(b.extract k (nb -1)).reverse,mg,ac,nb -1 -k))else hiD a b (out.push y++(b.extract k (nb -1)).reverse) na k mg ac (nb -1 -k))else hiD a b (out.push y) na (nb -1) mg ac (nb -1 -k)|_=>pure (.done (some (UJ a b (out.push y) na (nb -1)),na,nb -1,out.push y,mg,ac,bc))
def hiG (out:Array Keyed) (na nb mg ac bc:Nat):StateT cZ Sem (ForInStep GH):=do
 aak mg
 let y<-gj b (nb -1);let k<-Hj false y a 0 na (na -1)
 match k with
 |some k=>if na -k>0 then(if(k==0)=true then pure (.done (some (UJ a b (out++(a.extract k na).reverse) k nb),k,nb,out++(a.extract k na).reverse,mg,na -k,bc))else hiC a b (out++(a.extract k na).reverse) k nb mg (na -k) bc)else hiC a b out na nb mg (na -k) bc|_=>pure (.done (some (UJ a b out na nb),na,nb,out,mg,ac,bc))
def hiP (mg:Nat) (r:PH):StateT cZ Sem (ForInStep PH):=do
 let y<-gj b (r.2.2.1 -1);let x<-gj a (r.2.1 -1);let z<-lt' y x
 match z with
 |some aWins=>
  if aWins=true then do
   let x<-gj a (r.2.1 -1)
   if(r.2.1 -1==0)=true then pure (.done (some (UJ a b (r.2.2.2.1.push x) (r.2.1 -1) r.2.2.1),r.2.1 -1,r.2.2.1,r.2.2.2.1.push x,r.2.2.2.2.1+1,0))
   else if r.2.2.2.2.1+1≥mg then pure (.done (none,r.2.1 -1,r.2.2.1,r.2.2.2.1.push x,r.2.2.2.2.1+1,0))else pure (.yield (none,r.2.1 -1,r.2.2.1,r.2.2.2.1.push x,r.2.2.2.2.1+1,0))
  else do
   let y<-gj b (r.2.2.1 -1)
   if(r.2.2.1 -1==1)=true then pure (.done (some (aiO a b (r.2.2.2.1.push y) r.2.1 (r.2.2.1 -1)),r.2.1,r.2.2.1 -1,r.2.2.2.1.push y,0,r.2.2.2.2.2+1))
   else if r.2.2.2.2.2+1≥mg then pure (.done (none,r.2.1,r.2.2.1 -1,r.2.2.2.1.push y,0,r.2.2.2.2.2+1))else pure (.yield (none,r.2.1,r.2.2.1 -1,r.2.2.2.1.push y,0,r.2.2.2.2.2+1))
 |_=>pure (.done (some (UJ a b r.2.2.2.1 r.2.1 r.2.2.1),r.2.1,r.2.2.1,r.2.2.2.1,r.2.2.2.2.1,r.2.2.2.2.2))
def hiO (r:OH):StateT cZ Sem (ForInStep OH):=do
 let q<-forIn [0:a.size+b.size] ((none,r.2.1,r.2.2.1,r.2.2.2.1,0,0):PH) fun _ q=>hiP a b r.2.2.2.2 q
 match q.1 with
 |some z=>pure (.done (some z,q.2.1,q.2.2.1,q.2.2.2.1,r.2.2.2.2))|none=>do
  liftM (rule "list.sort.gallop")
  let t<-forIn [0:a.size+b.size] ((none,q.2.1,q.2.2.1,q.2.2.2.1,r.2.2.2.2+1,q.2.2.2.2.1,q.2.2.2.2.2):GH) fun _ t=>if t.2.2.2.2.1>1 then hiG a b t.2.2.2.1 t.2.1 t.2.2.1 (t.2.2.2.2.1 -1) t.2.2.2.2.2.1 t.2.2.2.2.2.2 else hiG a b t.2.2.2.1 t.2.1 t.2.2.1 t.2.2.2.2.1 t.2.2.2.2.2.1 t.2.2.2.2.2.2
  match t.1 with
  |some z=>pure (.done (some z,t.2.1,t.2.2.1,t.2.2.2.1,t.2.2.2.2.1))|none=>do
   aak (t.2.2.2.2.1+1)
   pure (.yield (none,t.2.1,t.2.2.1,t.2.2.2.1,t.2.2.2.2.1+1))
def hi:StateT cZ Sem (Array Keyed):=do
 liftM (rule "list.sort.merge-hi")
 let x<-gj a (a.size -1)
 if(a.size -1==0)=true then pure (UJ a b #[x] (a.size -1) b.size)
 else if(b.size==1)=true then pure (aiO a b #[x] (a.size -1) b.size)
 else do
  let s<-get;let r<-forIn [0:a.size+b.size] ((none,a.size -1,b.size,#[x],gallopOf s):OH) fun _ r=>hiO a b r
  match r.1 with
  |some z=>pure z|none=>liftM (unsupported "internal:list.sort.merge-bound":Sem (Array Keyed))
end
noncomputable abbrev rv (c:Keyed->Keyed->Bool):Keyed->Keyed->Bool:=fun x y=>c y x
def MR (c:Keyed->Keyed->Bool) (a b out:Array Keyed) (na nb:Nat):Prop:=MI (rv c) a.toList.reverse b.toList.reverse out.toList (a.toList.length -na) (b.toList.length -nb)/\na<=a.toList.length/\nb<=b.toList.length
theorem MR.sz (h:MR c a b out na nb):out.size+na+nb=a.size+b.size:=by have:=h.1.sz;have h1:=h.2.1;have h2:=h.2.2;rw[tu]at this h1 h2;rw[tu,tu]at this;lia
noncomputable abbrev AS:=Option (Option Nat)×Nat
section
variable (lo nrem:Nat)
def aoJ (r:AS):StateT cZ Sem (ForInStep AS):=do
 let x<-ltAt' (lo+r.2) (lo+r.2 -1)
 match x with
 |some smaller=>if smaller=true then pure (.done (none,r.2))else pure (.yield (none,r.2+1))|_=>pure (.done (some none,r.2))
def t3 (n:Nat):StateT cZ Sem (Option Nat):=do
 reverseSlice' lo (lo+n)
 let r<-forIn [n:nrem] ((none,n):AS) fun _ r=>aoJ lo r
 match r.1 with
 |some z=>pure z|none=>pure (some r.2)
end
def bsI (lo k:Nat) (r:Option Bool×Nat×Nat):StateT cZ Sem (ForInStep (Option Bool×Nat×Nat)):=
 if r.2.1≥r.2.2 then pure (.done (none,r.2.1,r.2.2))
 else do
  let x<-ltAt' (lo+k) (lo+(r.2.1+r.2.2)/2)
  match x with
  |some less=>if less=true then pure (.yield (none,r.2.1,(r.2.1+r.2.2)/2))else pure (.yield (none,(r.2.1+r.2.2)/2+1,r.2.2))|_=>pure (.done (some false,r.2.1,r.2.2))
def bsO (lo k:Nat) (r:Option Bool×PUnit):StateT cZ Sem (ForInStep (Option Bool×PUnit)):=do
 let q<-forIn [0:k] ((none,0,k):Option Bool×Nat×Nat) fun _ q=>bsI lo k q
 match q.1 with
 |some z=>pure (.done (some z,⟨⟩))|none=>do
  moveDown' (lo+k) (lo+q.2.1)
  pure (.yield (none,⟨⟩))
def bs (lo n ok:Nat):StateT cZ Sem Bool:=do
 let r<-forIn [max ok 1:n] ((none,⟨⟩):Option Bool×PUnit) fun k r=>bsO lo k r
 match r.1 with
 |some z=>pure z|none=>pure true
def ka (arr:Array Keyed) (k:Nat):Keyed:=(arr[k]?).getD (fY,fY)
section
variable {prog:aZ} {w:aQ} {A:aL} {E:Value->aj->Prop} {s:aj} {κ:uE} {c:Keyed->Keyed->Bool} {M:Keyed->Prop} {arr Mf:Array Keyed} {p:Array (Nat×Nat×Nat)} {g lo nrem:Nat}
structure Rq (Mf:Array Keyed) (lo:Nat) (arr:Array Keyed):Prop where
 perm:arr.Perm Mf
 same:∀ k,k<lo->ka arr k=ka Mf k
theorem Rq.size (h:Rq Mf lo arr):arr.size=Mf.size:=h.perm.size_eq
theorem Rq.mem (h:Rq Mf lo arr) (hM:∀ x∈Mf,M x):∀ x∈arr,M x:=fun x hx=>hM x (h.perm.mem_iff.mp hx)
def UpS (c:Keyed->Keyed->Bool) (arr:Array Keyed) (lo m:Nat):Prop:=∀ i,i+1<m->c (ka arr (lo+i+1)) (ka arr (lo+i))=false
def DnS (c:Keyed->Keyed->Bool) (arr:Array Keyed) (lo m:Nat):Prop:=∀ i,i+1<m->c (ka arr (lo+i)) (ka arr (lo+i+1))=false
def Ti (c:Keyed->Keyed->Bool) (a b:Keyed):Prop:=c a b=false/\c b a=false
structure Ord (c:Keyed->Keyed->Bool):Prop where
 hA:∀ x y,c x y=true->c y x=false
 hT:∀ x y z,c y x=false->c z y=false->c z x=false
theorem Ord.irr (O:Ord c) (x:Keyed):c x x=false:=by
 cases h:c x x with
 |false=>rfl|true=>have:=O.hA _ _ h;rw[h]at this;cases this
theorem Ti.trans (O:Ord c) (h:Ti c x y) (k:Ti c y z):Ti c x z:=⟨O.hT _ _ _ k.1 h.1,O.hT _ _ _ h.2 k.2⟩
theorem Ti.symm (h:Ti c x y):Ti c y x:=⟨h.2,h.1⟩
theorem Ti.refl (O:Ord c) (x:Keyed):Ti c x x:=⟨O.irr x,O.irr x⟩
theorem UpS.le (O:Ord c) (h:UpS c arr lo m):∀ (d i:Nat),i+d<m->c (ka arr (lo+(i+d))) (ka arr (lo+i))=false
 |0,i,_=>O.irr _|d+1,i,hd=>O.hT _ _ _ (UpS.le O h d i (by lia)) (h (i+d) (by lia))
theorem DnS.like (O:Ord c) (h:DnS c arr lo n) (k:∀ i,i<n->Ti c (ka arr' (lo+i)) (ka arr (lo+i))):DnS c arr' lo n:=fun i hi=>O.hT _ _ _ (O.hT _ _ _ (k (i+1) hi).2 (h i hi)) (k i (by lia)).1
end
section
variable {prog:aZ} {w:aQ} {A:aL} {E:Value->aj->Prop} {s:aj} {κ:uE} {c:Keyed->Keyed->Bool} {M:Keyed->Prop} {arr Mf:Array Keyed} {p:Array (Nat×Nat×Nat)} {g lo nrem:Nat}
end
noncomputable abbrev seg (l:List Keyed) (s n:Nat):List Keyed:=(l.drop s).take n
theorem acZ (l:List Keyed) (s a:Nat):l.take (s+a)=l.take s++seg l s a:=List.take_add
theorem ahT (l:List Keyed) (s a:Nat):l=l.take s++seg l s a++l.drop (s+a):=by rw[<-acZ,Jw]
theorem ahS {arr:Array Keyed} {s n:Nat} (hz:s+n<=arr.size):(seg arr.toList s n).length=n:=by rw[qw,Dv,tu];lia
section
variable {c:Keyed->Keyed->Bool} {arr Mf:Array Keyed} {g lo nrem:Nat}
def Mg (c:Keyed->Keyed->Bool) (arr:Array Keyed) (s n:Nat) (arr':Array Keyed):Prop:=∃ Z,arr'.toList=arr.toList.take s++Z++arr.toList.drop (s+n)/\Srt c Z/\Z.Perm (seg arr.toList s n)
end
def ps (p:Array (Nat×Nat×Nat)):List (Nat×Nat):=p.toList.map fun t=>(t.1,t.2.1)
section
variable {prog:aZ} {w:aQ} {A:aL} {E:Value->aj->Prop} {s:aj} {κ:uE} {c:Keyed->Keyed->Bool} {M:Keyed->Prop} {arr Mf:Array Keyed} {p:Array (Nat×Nat×Nat)} {g lo nrem:Nat}
theorem Mg.at (h:Mg c arr sa n arr') (hz:sa+n<=arr.size) (hk:k<sa∨sa+n<=k):arr'.toList[k]?=arr.toList[k]?:=by
 obtain⟨Z,e,_,h3⟩:=h;have l1:(arr.toList.take sa).length=sa:=by rw[qw,tu];lia
 have l2:Z.length=n:=by rw[h3.length_eq,ahS hz]
 rw[e];rcases hk with hk|hk
 .rw[dU (by rw[eO];lia),dU (by lia),YH hk]
 .rw[nQ (by rw[eO];lia),eO,l1,l2,List.getElem?_drop,show sa+n+(k -(sa+n))=k by lia]
theorem Mg.perm (h:Mg c arr sa n arr'):arr'.Perm arr:=by
 obtain⟨Z,e,_,h3⟩:=h;refine afn.mpr ?_;rw[e];conv=>rhs;rw[ahT arr.toList sa n]
 exact(h3.append_left _).append_right _
end
end DW.TS
namespace DW
open PySem PySem.W PySem.Calls PyProof.Rows DW.TS
end DW
namespace DW
open PySem PySem.Spec PyProof.Rows L2
section
variable {prog:aZ} {w:aQ} {A:aL} {E:Value->aj->Prop} {s:aj} {d it:Addr} {od:Obj} {es:Array O5} {ep i:Nat}
theorem aiA (hs:(d==kW)=false) (ho:s.heap.get? d=some od) (hc:od.ExactDict) (hd:od.data= .dict es ep) (hfit:(es.size:Int)<2 ^ 63)
  (h:Q (.int es.size (s.toks+1)) {s with toks:=s.toks+1+1}):ak (aH prog w) A (call (.builtin "len") [.ref d]) Q E s:=by
 have T0:s.TypeIs (.ref d) "dict":=⟨od,ho,hc.1⟩;refine adL kind_len plain_len entry_len (args_len1 _) ?_;unfold rJ.«len»;refine aq (m:=oneArg "len" _) (aG ?_);refine aq (m:=callSpecial? (.ref d) (aD "__len__")) (Jy (name:=aD "__len__") T0 ae0
  (yK ae0 T0 PySem.F.entry_dict_len ?_ (PySem.F.args_dict_len_1 _)))
 show ak _ _ (dictSize d>>=_) _ _ s;unfold dictSize;refine aq (aq (aem ho hd (aG ?_)));show ak _ _ (akN d>>=_) _ _ s;refine aq (wpAny_pendingCount_other hs (wpAny_ret_mkInt ?_));have e0:((es.size:Nat):Int)+((0:Nat):Int)=es.size:=by simp
 rw[e0];refine aq (kZ (aG (aq (rP ?_))));show ak _ _ (if((es.size:Nat):Int)<0 then _ else _) _ _ _;rw[if_neg (by lia)];show ak _ _ (if((es.size:Nat):Int)≥2 ^ 63 then _ else _) _ _ _;rw[if_neg (by lia)];exact aq (wpAny_mkInt (aG ⟨_,rfl,h⟩))
end
section
variable {prog:aZ} {w:aQ} {K:Type} [DecidableEq K] {knd:HeapKind prog w K} {A:aL} {E:Value->aj->Prop} {s:aj}
end
section
variable {X:Cx} {pins:List (Addr×Obj)} {σ:L2.St} {H:Hp} {s:aj} {a:Addr} {A:aL} {E:Value->aj->Prop} {kvs:List (List Key×V)}
end
end DW
namespace DW
open PySem PySem.Spec PyProof.Rows
open L2 (aP Key frs wz Loc Look Mod tL cG)
theorem kept_iter {h h':Heap} {o:Obj} (hk:∀ b ob,b∉[h.objs.size]->(h.push o).get? b=some ob->h'.get? b=some ob):∀ b ob,h.get? b=some ob->h'.get? b=some ob:=fun b ob e=>hk b ob (fun hm=>by have:=cH.mp hm;subst this;exact jg _ (bW e)) (eV _ e)
theorem aiv (xs:Array (Int×Tok)) (n:Int) (ns:List Int) (h:xs.toList.map (·.1)=n::ns):dX xs (cL (fun i j=>decide (dX xs i<dX xs j)) (xs.size -1))=ns.foldl min n:=by
 have key:∀ k,k<(n::ns).length->dX xs (cL (fun i j=>decide (dX xs i<dX xs j)) k)=(ns.take k).foldl min n:=by
  intro k;have at_:∀ i,dX xs i=((n::ns)[i]?).getD 0:=fun i=>by rw[<-h];simp[dX]
  induction k with
  |zero=>intro _;simp[cL,at_]|succ k ih=>
   intro hk;have ih':=ih (by lia);(have hk':k<ns.length:=by simpa using hk);(have e:ns.take (k+1)=ns.take k++[ns[k]]:=by rw[afA hk']);rw[e,Jo];simp only[qu,PB];rw[<-ih'];simp only[cL];(have a1:dX xs (k+1)=ns[k]:=by rw[at_];simp[hk']);split
   .rename_i hgt
    have hgt:=of_decide_eq_true hgt;rw[a1]at hgt ⊢;lia
   .rename_i hgt
    have hgt:¬(dX xs (k+1)<_):=fun z=>hgt (decide_eq_true z);rw[a1]at hgt;lia
 have hs:xs.size=(n::ns).length:=by rw[<-h];simp
 have:=key (xs.size -1) (by rw[hs];simp);rw[this,hs,uw (by simp)]
theorem aaA (xs:Array (Int×Tok)) (n:Int) (ns:List Int) (h:xs.toList.map (·.1)=n::ns):dX xs (cL (fun i j=>decide (dX xs i>dX xs j)) (xs.size -1))=ns.foldl max n:=by
 have key:∀ k,k<(n::ns).length->dX xs (cL (fun i j=>decide (dX xs i>dX xs j)) k)=(ns.take k).foldl max n:=by
  intro k;have at_:∀ i,dX xs i=((n::ns)[i]?).getD 0:=fun i=>by rw[<-h];simp[dX]
  induction k with
  |zero=>intro _;simp[cL,at_]|succ k ih=>
   intro hk;have ih':=ih (by lia);(have hk':k<ns.length:=by simpa using hk);(have e:ns.take (k+1)=ns.take k++[ns[k]]:=by rw[afA hk']);rw[e,Jo];simp only[qu,PB];rw[<-ih'];simp only[cL];(have a1:dX xs (k+1)=ns[k]:=by rw[at_];simp[hk']);split
   .rename_i hgt
    have hgt:=of_decide_eq_true hgt;rw[a1]at hgt ⊢;lia
   .rename_i hgt
    have hgt:¬(dX xs (k+1)>_):=fun z=>hgt (decide_eq_true z);rw[a1]at hgt;lia
 have hs:xs.size=(n::ns).length:=by rw[<-h];simp
 have:=key (xs.size -1) (by rw[hs];simp);rw[this,hs,uw (by simp)]
section
variable {X:Cx} {ρ:dH} {θ:Th} {μ:Mem} {s:aj} {d e x y:D} {u v w:Value} {ds es:List D} {us vs:List Value} {Qd:QD} {Q:Value->aj->Prop} {E:Value->aj->Prop} {a:Addr} {n k j:Nat} {ws:WA}
theorem jT (w:pL X.T θ μ s.heap) (r:Rp s.heap θ μ d u) (e:cC μ d=some ds):∃ a us,u= .ref a/\Iu s.heap a us.toArray/\us.length<=sizeLine/\dh s.heap θ μ ds us:=by
 have h:aB μ d=some ds/\Wi d≠0:=by cases d<;>first|(cases e;done)|exact⟨e,fun z=>by cases z⟩
 obtain⟨a,us,q,z,r⟩:=wR w r h.1;exact⟨a,us,q,gB z h.2,z.fix.1,r⟩
theorem Vq {h:Heap} {z:Bool->Bool->Bool} {t0:Bool} {g:List D->Option Bool} (h0:g []=some t0) (h1:∀ c ds,g (.bl c::ds)=(g ds).map (z c ·)) (h2:∀ d ds b,g (d::ds)=some b->∃ c,d= .bl c):∀ {ds:List D} {us:List Value} {b:Bool},dh h θ μ ds us->g ds=some b->
  ∃ bs:List Bool,us=bs.map jF/\bs.foldr z t0=b
 |[],_,_,r,e=>by cases(show _=[]from r);rw[h0]at e;cases e;exact⟨[],rfl,rfl⟩
 |d::ds,_,b,⟨u,r,q,x,y⟩,e=>by obtain⟨c,rfl⟩:=h2 d ds b e;rw[h1]at e;obtain⟨b',e',rfl⟩:=Am.mp e;obtain⟨bs,rfl,rfl⟩:=Vq h0 h1 h2 y e';cases(show u=jF c from x);exact⟨c::bs,q,rfl⟩
theorem ints_of {h:Heap}:∀ {ds:List D} {us:List Value} {ns:List Int},dh h θ μ ds us->lX ds=some ns->∃ xs:Array (Int×Tok),us.toArray=mL xs/\xs.toList.map (·.1)=ns
 |[],_,_,r,e=>by cases(show _=[]from r);cases e;exact⟨#[],by simp[mL],rfl⟩
 |d::ds,_,ns,⟨u,r,q,x,y⟩,e=>by
  cases d with
  |int i=>obtain⟨t,rfl⟩:=x;subst q;simp only[lX,Am]at e;obtain⟨ms,e,rfl⟩:=e;obtain⟨xs,e1,e2⟩:=ints_of y e;refine⟨((i,t)::xs.toList).toArray,?_,by simp[e2]⟩;have e1':=congrArg Jd e1;simp only[mL,ad0]at e1';apply yI.mp;simp only[mL,ad0];simpa using e1'|_=>cases e
theorem ints_map:∀ {ds:List D} {ns:List Int},lX ds=some ns->ds=ns.map D.int
 |[],ns,h=>by cases h;rfl
 | .int i::ds,ns,h=>by simp only[lX,Am]at h;obtain⟨r,e,rfl⟩:=h;rw[ints_map e];rfl
theorem bind_some {α β:Type} {o:Option α} {f:α->Option β} {b:β} (h:o.bind f=some b):∃ a,o=some a/\f a=some b:=QG.mp h
theorem Ma {c:Value} {b:String} (hb:b≠"min3")
  (h1:∀ {s:aj} {ρ:dH} {θ:Th} {μ:Mem} {d:D} {u:Value} {Qd:QD} {Q:Value->aj->Prop} {E:Value->aj->Prop},Iv X ρ θ μ s->Rp s.heap θ μ d u->bQ b [d] μ Qd->Fin X ρ θ μ s Qd Q->ak X.M X.A (call c [u]) Q E s)
  (h2:∀ {s:aj} {ρ:dH} {θ:Th} {μ:Mem} {d e:D} {u v:Value} {Qd:QD} {Q:Value->aj->Prop} {E:Value->aj->Prop},Iv X ρ θ μ s->Rp s.heap θ μ d u->Rp s.heap θ μ e v->bQ b [d,e] μ Qd->Fin X ρ θ μ s Qd Q->ak X.M X.A (call c [u,v]) Q E s):OpA X (fun us=>call c us) (bQ b):=fun {s ρ θ μ ds us Qd Q E} i r hw f=>by
 match ds,hw with
 |[d],hw=>obtain⟨u,rfl,x⟩:=r.jl;exact h1 i x hw f|[d,e],hw=>obtain⟨u,v,rfl,x,y⟩:=r.zU;exact h2 i x y hw f|[d,e,g],hw=>exact(ajZ hb hw).elim
theorem ajb:OpA X (fun us=>call (.builtin "len") us) (bQ "len"):=Ma (by decide) (fun {s ρ θ μ d u Qd Q E} i r hw f=>by
 have hs:sizeLine=16777216:=cY;simp only[bQ]at hw;split at hw
 .rename_i n hn
  have seq:∀ {ds:List D},aB μ d=some ds->n=ds.length->ak X.M X.A (call (.builtin "len") [u]) Q E s:=fun {ds} hq hl=>by
   obtain⟨a,us,rfl,z,r'⟩:=wR i.dJ r hq;have l:=z.fix.1;rw[hl,<-r'.length]at hw;by_cases hk:Wi d=0
   .rw[hk]at z
    exact len_tuple (gA z) (by simp only[cB];lia) (f.tok i (m9 (by simp only[cB])) hw)
   .exact Calls.call_len_list (gB z hk).isList (by simp only[cB];lia) (f.tok i (m9 (by simp only[cB])) hw)
  cases d with
  |str x=>obtain⟨⟨t,rfl⟩,l⟩:=r;cases hn;exact len_str (by simp only[eN,cB];lia) (f.tok i (m9 (by simp[eN])) hw)
  |tup l=>cases hn;exact seq rfl rfl
  |lst l=>cases hn;exact seq rfl rfl
  |ro l=>cases hn;exact seq rfl rfl
  |loc m=>simp only[lenOf]at hn;obtain⟨ds,q,rfl⟩:=Am.mp hn;exact seq q rfl|_=>cases hn
 .unfold ajo at hw
  split at hw
  .rename_i m _
   obtain⟨p,rfl,hp⟩:=r;have len:∀ {o:Obj} {es:Array O5} {ep n:Nat},s.heap.get? p.1=some o->o.ExactDict->o.data= .dict es ep->es.size=n->(p.1==kW)=false->n<=sizeLine->Qd (.int n) μ->ak X.M X.A (call (.builtin "len") [.ref p.1]) Q E s:=fun ho hx hd hz hs' hl q=>aiA hs' ho hx hd (by rw[hz];lia) (f.tok i (m9 (by rw[hz])) q)
   split at hw
   .rename_i ks es hn
    obtain⟨⟨kvs,⟨o,es',ep,ho,hx,hd,_,pr,_⟩,l,hs',hk,_⟩,_⟩:=i.dJ.cell m _ p hn hp;(have e1:kvs.length=ks.length:=by have:=congrArg dR hk;simpa using this);rw[<-e1]at hw;exact len ho hx hd (by rw[<-tu];exact pr.length) hs' l hw
   .rename_i ks es hn
    obtain⟨⟨xs,⟨o,es',ep,ho,hx,hd,he,_⟩,l,hs',_,hk,_⟩,_⟩:=i.dJ.cell m _ p hn hp;(have e1:xs.length=ks.length:=by have:=congrArg dR hk;simpa using this);rw[<-e1]at hw;exact len ho hx hd (by rw[<-tu,he,aR]) hs' l hw
   .exact hw.elim
  .exact hw.elim) fun i x y hw f=>by simp[bQ]at hw
end
end DW
namespace DW
open PySem PySem.Spec PyProof.Rows
open L2 (aP Key frs wz Loc Look Mod tL cG)
section
variable {X:Cx} {ρ:dH} {θ:Th} {μ:Mem} {s:aj} {d e x y:D} {u v w:Value} {ds es:List D} {us vs:List Value} {Qd:QD} {Q:Value->aj->Prop} {E:Value->aj->Prop} {a:Addr} {n k j:Nat} {ws:WA}
theorem bit {bs:List Bool} {v:Value} (i:Nat) (e:((bs.map jF).toArray)[i]?=some v):v= .bool (bs.getD i true):=by simp only[List.getElem?_toArray,jy]at e;obtain⟨b,h1,rfl⟩:=Am.mp e;simp[h1]
theorem Ws (bs:List Bool):(aU bs.length).map (fun i=>bs.getD i true)=bs:=by
 apply Jp;intro i;by_cases hi:i<bs.length
 .simp[hi]
 .simp[Jk hi,hi]
theorem ahh (bs:List Bool):((aU bs.length).all fun i=>bs.getD i true)=bs.foldr and true:=by
 have e:∀ l:List Bool,l.all id=l.foldr and true:=fun l=>by induction l with|nil=>rfl|cons b l ih=>simp only[adF,adU,ih];rfl
 have:=congrArg (fun l:List Bool=>l.all id) (Ws bs);rw[List.all_map]at this;rw[<-e,<-this];rfl
theorem ajd (hc:X.calm=true):OpA X (fun us=>call (.builtin "all") us) (bQ "all"):=Ma (by decide) (fun {s ρ θ μ d u Qd Q E} i r hw f=>by
 simp only[bQ]at hw;split at hw
 .rename_i b hb
  obtain⟨ds,h1,h2⟩:=bind_some hb;obtain⟨a,us,rfl,pl,l,rs⟩:=jT i.dJ r h1;obtain⟨bs,rfl,rfl⟩:=Vq (z:=and) (t0:=true) (g:=allB) rfl (fun _ _=>rfl) (fun d ds b h=>by cases d<;>first|exact⟨_,rfl⟩|cases h) rs h2;refine call_all_walk (Qn pl.isList ?_);refine⟨s.heap.objs.size,_,_,_,_,_,fun i=>bs.getD i true,rfl,WX (A:=X.A.in1) (i.ok.hd hc) _ a (jf pl.lt) _,⟨⟨_,gU _ rfl,rfl,rfl⟩,pl.isList.push _⟩,fun i v s' Q' E' hP hQ=>?_,fun h' tk hk=>?_⟩
  .rw[bit i hP];exact nO hQ
  .refine f.hp i (kept_iter hk) ?_ hw
   show jF _=jF _;rw[cB,aR,ahh]
 .exact hw.elim) fun i x y hw f=>by simp[bQ]at hw
theorem aja (hc:X.calm=true):OpA X (fun us=>call (.builtin "max") us) (bQ "max"):=Ma (by decide) (fun {s ρ θ μ d u Qd Q E} i r hw f=>by
 simp only[bQ]at hw;split at hw
 .rename_i n ns hb
  obtain⟨ds,h1,h2⟩:=bind_some hb;obtain⟨a,us,rfl,pl,l,rs⟩:=jT i.dJ r h1;obtain⟨zs,e1,e2⟩:=ints_of rs h2;have hl:=pl.isList;rw[e1]at hl;refine max_intList (i.ok.hd hc) hl (by rw[show zs.size=(n::ns).length by rw[<-e2];simp];simp) fun v h' tk hv hk=>?_;obtain⟨t,rfl⟩:=W6 hv;exact f.hp i hk (m9 (aaA zs n ns e2).symm) hw
 .exact hw.elim) fun {s ρ θ μ d e u v Qd Q E} i x y hw f=>by
 match d,e,hw with
 | .int a,.int b,hw=>
  obtain⟨t,rfl⟩:=x;obtain⟨t',rfl⟩:=y;refine max_two_ints (i.ok.hd hc) fun h' tk k=>f.hp i k ?_ hw;by_cases hj:b>a
  .rw[if_pos hj,if_pos hj];exact jc
  .rw[if_neg hj,if_neg hj];exact jc
theorem ai9 (hc:X.calm=true):OpA X (fun us=>call (.builtin "min") us) (bQ "min"):=Ma (by decide) (fun {s ρ θ μ d u Qd Q E} i r hw f=>by
 simp only[bQ]at hw;split at hw
 .rename_i n ns hb
  obtain⟨ds,h1,h2⟩:=bind_some hb;obtain⟨a,us,rfl,pl,l,rs⟩:=jT i.dJ r h1;obtain⟨zs,e1,e2⟩:=ints_of rs h2;have hl:=pl.isList;rw[e1]at hl;refine min_intList (i.ok.hd hc) hl (by rw[show zs.size=(n::ns).length by rw[<-e2];simp];simp) fun v h' tk hv hk=>?_;obtain⟨t,rfl⟩:=W6 hv;exact f.hp i hk (m9 (aiv zs n ns e2).symm) hw
 .exact hw.elim) fun {s ρ θ μ d e u v Qd Q E} i x y hw f=>by
 match d,e,hw with
 | .int a,.int b,hw=>
  obtain⟨t,rfl⟩:=x;obtain⟨t',rfl⟩:=y;refine min_two_ints (i.ok.hd hc) fun h' tk k=>f.hp i k ?_ hw;by_cases hj:b<a
  .rw[if_pos hj,if_pos hj];exact jc
  .rw[if_neg hj,if_neg hj];exact jc
theorem T8 {m:Bool} (i:Iv X ρ θ μ s) (r:Rp s.heap θ μ d u) (h:aB μ d=some ds) (hw:newL m ds μ Qd) (f:Fin X ρ θ μ s Qd Q):ak X.M X.A (call (.type "list") [u]) Q E s:=by
 obtain⟨a,us,rfl,z,rs⟩:=wR i.dJ r h;have l:=z.fix.1;have fin:∀ (h':Heap) (c':Nat),(∀ b o',s.heap.get? b=some o'->h'.get? b=some o')->h'.get? s.heap.objs.size=some {cls:=.type "list",dict:=none,data:=.seq us.toArray c',slots:=#[]}->Q (.ref s.heap.objs.size) {s with heap:=h' }:=fun h' c' kp e=>f.newL i kp (aA _) ⟨l,c',e⟩ rs hw
 by_cases hk:Wi d=0
 .rw[hk]at z
  obtain⟨o,ho,hc,n,hd⟩:=gA z;exact call_list_seq a (.inr rfl) ho hc hd fin (by simp only[cB]<;>lia)
 .obtain⟨o,ho,hc,n,hd⟩:=(gB z hk).isList
  exact call_list_seq a (.inl rfl) ho hc hd fin (by simp only[cB]<;>lia)
theorem aci:OpA X (fun us=>call (.type "list") us) (bQ "mlist"):=Ma (by decide) (fun {s ρ θ μ d u Qd Q E} i r hw f=>by
 simp only[bQ]at hw;split at hw
 .rename_i ds hq;exact T8 i r hq hw f
 .exact hw.elim) fun i x y hw f=>by simp[bQ]at hw
theorem ZP:OpA X (fun us=>call (.builtin "divmod") us) (bQ "divmod"):=Ma (by decide) (fun i x hw f=>by simp[bQ]at hw) fun {s ρ θ μ d e u v Qd Q E} i x y hw f=>by
 match d,e,hw with
 | .int a,.int b,hw=>obtain⟨t,rfl⟩:=x;obtain⟨t',rfl⟩:=y;have hw:Nz b/\Qd (.tup [.int (a/b),.int (a%b)]) μ:=hw;obtain⟨⟨h1,h2⟩,hq⟩:=hw;have h5:=(W9 (show b.natAbs≠0 by lia)).mpr (show b.natAbs<2 ^ 500 by lia);refine divmod_int (by lia) ?_ (.inl (afj (by lia)));rw[YM a (by lia),afq a (by lia)];exact f.sq i (j:=0) (us:=[.int (a/b) s.toks,.int (a%b) (s.toks+1)]) c7 (aA _) ⟨by simp only[bh,aN];rw[cY];decide,_,_,gU s.heap rfl,rfl,rfl,rfl⟩ (.cons jc (.one jc)) hq
theorem Hh {h:Heap} {x:Itm} (r:Rp h θ μ (aK x) u):IsItem h u x:=by obtain⟨a,us,rfl,⟨_,o,n,e,c,dd,_⟩,_,rs⟩:=r;obtain⟨v,w,rfl,⟨t,rfl⟩,⟨⟨t',rfl⟩,_⟩⟩:=rs.zU;exact⟨a,o,t,t',n,rfl,e,c,dd⟩
theorem Mz {h:Heap} {α:Type} {g:α->D} {r:List α} {a0:α} (rs:dh h θ μ (r.map g) us):∀ l:List Nat,(∀ i∈l,i<r.length)->dh h θ μ ((l.map fun i=>r[i]?.getD a0).map g) (l.map fun i=>us.getD i fY)
 |[],_=>.nil|i::l,q=>by have hi:i<r.length:=q i (by simp);obtain⟨u,e1,e2⟩:=rs.get (i:=i) (d:=g r[i]) (by simp[hi]);simp only[aX,show us.getD i fY=u by simp[e1],show r[i]?.getD a0=r[i] by simp[hi]];exact .cons e2 (Mz rs l fun j hj=>q j (by simp[hj]))
theorem ac6 {α:Type} {g:α->D} {r:List α} {a0:α} {p:Array Nat} {m:Bool} (i:Iv X ρ θ μ s) (f:Fin X ρ θ μ s Qd Q) (rs:dh s.heap θ μ (r.map g) us) (l:us.length<=sizeLine) (q1:p.Perm (d8 (aU us.length)))
  (hw:newL m ((p.toList.map fun i=>r[i]?.getD a0).map g) μ Qd):Q (.ref (s.heap.objs.size+1)) {s with heap:=sortedAll s.heap us (d8 (xq us p))}:=by
 have len:us.length=r.length:=by have:=rs.length;simpa using this
 have hs:p.size=us.length:=by have:=q1.size_eq;simpa using this
 obtain⟨ep,hat⟩:=sortedAll_at s.heap us (d8 (xq us p));exact f.newL i (tk:=s.toks) (fun b o e=>sortedAll_old e) (yq _) ⟨by unfold xq;rw[aR,tu,hs];exact l,ep,hat⟩ (Mz rs p.toList fun i hi=>by have:=q1.mem_iff.mp (aeV.mp hi);rw[<-len];simpa using this) hw
theorem Wn {m:Bool} {r:List Itm} (i:Iv X ρ θ μ s) (rd:Rp s.heap θ μ d u) (h:cC μ d=some (r.map aK)) (aiR:r.length<300) (ho:∀ its:List Value,its.length=r.length->(∀ (i:Nat) (v:Value) (x:Itm),its[i]?=some v->r[i]?=some x->IsItem s.heap v x)->2<=its.length->K6 its (ltAt r))
  (hw:∀ r':List Itm,r'.Perm r->j5 r'->newL m (r'.map aK) μ Qd) (f:Fin X ρ θ μ s Qd Q):ak X.M X.A (call (.builtin "sorted") [u]) Q E s:=by
 obtain⟨a,us,rfl,pl,l,rs⟩:=jT i.dJ rd h;have len:us.length=r.length:=by have:=rs.length;simpa using this
 have amX:∀ (i:Nat) (v:Value) (x:Itm),us[i]?=some v->r[i]?=some x->IsItem s.heap v x:=fun i v x e1 e2=>by obtain⟨u,g1,g2⟩:=rs.get (i:=i) (d:=aK x) (by rw[jy,e2];rfl);rw[e1]at g1;cases g1;exact Hh g2
 exact Wm (lt:=ltAt r) pl.isList (by rw[len];exact aiR) (ho us len amX) (ZL len amX) fun p q1 q2=>ac6 i f rs l q1 (hw _ (abx (by rw[<-len];exact q1)) (Tw (n:=us.length) (by have:=q1.size_eq;simpa using this) q2))
theorem aiU {r:List Itm} (hl:r.length<64) (its:List Value) (e:its.length=r.length) (_:∀ (i:Nat) (v:Value) (x:Itm),its[i]?=some v->r[i]?=some x->IsItem s.heap v x) (h2:2<=its.length):K6 its (ltAt r):=Td (.inl (by lia)) (Nb r) (yW r) h2
theorem Vr:OpA X (fun us=>call (.builtin "sorted") us) (bQ "msorted"):=Ma (by decide) (fun {s ρ θ μ d u Qd Q E} i r hw f=>by
 simp only[bQ]at hw;split at hw
 .rename_i ds hq
  obtain⟨it,rfl,hl,hw⟩:=hw;exact Wn (m:=true) i r hq (by lia) (aiU hl) hw f
 .exact hw.elim) fun i x y hw f=>by simp[bQ]at hw
theorem ai8:OpA X (fun us=>call (.type "str") us) (bQ "str"):=Ma (by decide) (fun {s ρ θ μ d u Qd Q E} i r hw f=>by
 simp only[bQ]at hw;cases d with
 |int k=>
  obtain⟨t,rfl⟩:=r;refine PySem.P.str_of_int hw.1 ?_;have hl:(jB k).length<=sizeLine:=by have:=int_text_fits hw.1;simpa[jB,eN]using this
  have:=f.tok i (tk:=s.toks+1) (xY (t:=s.toks) hl) hw.2;rwa[show(⟨(jB k).toArray⟩:Str)=aD (toString k) by simp[jB]]at this
 |_=>exact hw.elim) fun i x y hw f=>by simp[bQ]at hw
theorem ajc:OpA X (fun us=>call (.type "int") us) (bQ "int"):=Ma (by decide) (fun {s ρ θ μ d u Qd Q E} i r hw f=>by
 simp only[bQ]at hw;cases d with
 |int k=>obtain⟨t,rfl⟩:=r;exact call_int_int (f.at i jc hw)|bl b=>cases(show u=jF b from r);exact call_int_bool (f.tok i jc hw)
 |str x=>obtain⟨n,⟨hl,hn⟩,hq⟩:=hw;obtain⟨⟨t,rfl⟩,_⟩:=r;exact akL hn (by simpa[eN]using hl) (f.tok i jc hq)|_=>exact hw.elim) fun i x y hw f=>by simp[bQ]at hw
end
end DW
namespace DW
open PySem PySem.Spec PyProof.Rows
open L2 (aP Key frs wz Loc Look Mod tL cG)
section
variable {X:Cx} {ρ:dH} {θ θ':Th} {μ μ':Mem} {s s1 s':aj} {k n:Nat} {ds:List D} {Qd:QD} {Q XE:Value->aj->Prop} {x:Str} {p pos apos:Pos} {a b c e o t:Expr} {as es rest:List Expr} {wa wb wc wo:WE} {ta tb:WT} {ws:WA} {d:D} {u v:Value} {R:D->D->Mem->QD->Prop} {R':D->D->Mem->QD->Prop} {Kb:Bool->Mem->Prop}
def PW (X:Cx) (e:Expr) (w:WT):Prop:=∀ whole,Jg X Alike (rI e X.env whole) w
theorem PW.pt (h:PW X e ta):PT X e ta:=h _
theorem Gi (r:Rp s.heap θ μ d u) (h:fV d μ Kb):∃ b,u= .bool b/\d= .bl b/\Kb b μ:=by
 cases d with
 |bl b=>exact⟨b,r,rfl,h⟩|_=>exact h.elim
theorem ak9 (ha:PE X a wa):PE X (.UnaryOp .USub a pos) (fun ρ μ Q=>wa ρ μ fun x μ1=>match x with| .int i=>Q (.int (-i)) μ1|_=>False):=fun i h f=>
 UnaryOp_ (ha i h fun {d u s1 θ1 μ1} i1 g1 r1 h1=>by
  cases d with
  |int j=>obtain⟨t,rfl⟩:=r1;exact neg_int (f (d:=.int (-j)) i1.tok (g1.trans (cW fun _ _ e=>e)) ⟨_,rfl⟩ h1)|_=>exact h1.elim)
theorem ak8 (ha:PE X a wa):PE X (.UnaryOp .Not a pos) (fun ρ μ Q=>wa ρ μ fun x μ1=>fV x μ1 fun b μ2=>Q (.bl (!b)) μ2):=fun i h f=>UnaryOp_ (ha i h fun {d u s1 θ1 μ1} i1 g1 r1 h1=>by obtain⟨b,rfl,rfl,q⟩:=Gi r1 h1;exact not_of (nO (f (d:=.bl (!b)) i1 g1 rfl q)))
theorem akV (ha:PT X a ta):PT X (.UnaryOp .Not a pos) (fun ρ μ Q=>ta ρ μ fun b μ1=>Q (!b) μ1):=fun i h f=>isTrue_not (ha i h fun i1 g1 r1 h1=>by cases r1;exact f i1 g1 rfl h1)
theorem aoI {α:Type} {Q:α->aj->Prop} {f:Value->Value->Sem α} (ha:PE X a wa) (hb:PE X b wb) (i:Iv X ρ θ μ s) (h:wa ρ μ fun x μ1=>wb ρ μ1 fun y μ2=>R x y μ2 Qd)
  (hf:∀ {x y v u s2 θ2 μ2},Iv X ρ θ2 μ2 s2->G0 X θ μ s θ2 μ2 s2->Rp s2.heap θ2 μ2 x v->Rp s2.heap θ2 μ2 y u->R x y μ2 Qd->ak X.M X.A (f v u) Q XE s2):
  ak X.M X.A (eval a X.env) (fun v s₁=>ak X.M X.A (eval b X.env) (fun u s₂=>ak X.M X.A (f v u) Q XE s₂) XE s₁) XE s:=
 ha i h fun i1 g1 r1 h1=>hb i1 h1 fun i2 g2 r2 h2=>hf i2 (g1.trans g2) ((i1.kp g2).rp r1) r2 h2
theorem afO {op:jd} (ho:Op2 X (jM op) R) (ha:PE X a wa) (hb:PE X b wb) (hm:Pr op b=false):PE X (.Compare a [op] [b] pos) (fun ρ μ Q=>wa ρ μ fun x μ1=>wb ρ μ1 fun y μ2=>R x y μ2 Q):=fun i h f=>wpAny_Compare1 (aoI ha hb i h fun i2 g2 r2 r2' h2=>ho i2 r2 r2' h2 (f.mono g2)) hm
theorem afC {op:jd} (ho:Op2 X (jM op) R) (ha:PE X a wa) (hb:PE X b wb) (hm:Pr op b=false):PT X (.Compare a [op] [b] pos) (fun ρ μ Q=>wa ρ μ fun x μ1=>wb ρ μ1 fun y μ2=>R x y μ2 fun r μ3=>fV r μ3 Q):=fun i h f=>aeZ (ha i h fun i1 g1 r1 h1=>hb i1 h1 fun i2 g2 r2 h2=>ho i2 ((i1.kp g2).rp r1) r2 h2 fun i3 g3 r3 h3=>by obtain⟨b,rfl,rfl,q⟩:=Gi r3 h3;exact nO (f i3 ((g1.trans g2).trans g3) rfl q)) hm
theorem afP {op op':jd} (ho:Op2 X (jM op) R) (ho':Op2 X (jM op') R') (ha:PE X a wa) (hb:PE X b wb) (hc:PE X c wc) (hm:Wy [op,op'] [b,c]=false):
  PE X (.Compare a [op,op'] [b,c] pos) (fun ρ μ Q=>wa ρ μ fun x μ1=>wb ρ μ1 fun y μ2=>R x y μ2 fun r μ3=>fV r μ3 fun t μ3=>if t=true then wc ρ μ3 fun z μ4=>R' y z μ4 Q else Q (.bl false) μ3):=fun i h f=>
 Compare_chain (ha i h fun i1 g1 r1 h1=>chain_link (hb i1 h1 fun i2 g2 r2 h2=>ho i2 ((i1.kp g2).rp r1) r2 h2 fun i3 g3 r3 h3=>by
  obtain⟨t,rfl,rfl,q⟩:=Gi r3 h3;refine nO ?_;cases t with
  |false=>exact ite_ff (f (d:=.bl false) i3 ((g1.trans g2).trans g3) rfl q)|true=>exact ite_tt (chain_last (hc i3 q fun i4 g4 r4 h4=>ho' i4 (((i2.kp (g3.trans g4))).rp r2) r4 h4 (f.mono (((g1.trans g2).trans g3).trans g4)))))) hm
theorem afD {op op':jd} (ho:Op2 X (jM op) R) (ho':Op2 X (jM op') R') (ha:PE X a wa) (hb:PE X b wb) (hc:PE X c wc) (hm:Wy [op,op'] [b,c]=false):
  PT X (.Compare a [op,op'] [b,c] pos) (fun ρ μ Q=>wa ρ μ fun x μ1=>wb ρ μ1 fun y μ2=>R x y μ2 fun r μ3=>fV r μ3 fun t μ3=>if t=true then wc ρ μ3 fun z μ4=>R' y z μ4 fun r μ5=>fV r μ5 Q else Q false μ3):=fun i h f=>
 isTrue_chain (ha i h fun i1 g1 r1 h1=>test_link (hb i1 h1 fun i2 g2 r2 h2=>ho i2 ((i1.kp g2).rp r1) r2 h2 fun i3 g3 r3 h3=>by
  obtain⟨t,rfl,rfl,q⟩:=Gi r3 h3;refine nO ?_;cases t with
  |false=>exact ite_ff (f i3 ((g1.trans g2).trans g3) rfl q)|true=>exact ite_tt (test_last (hc i3 q fun i4 g4 r4 h4=>ho' i4 (((i2.kp (g3.trans g4))).rp r2) r4 h4 fun i5 g5 r5 h5=>by obtain⟨t,rfl,rfl,q⟩:=Gi r5 h5;exact nO (f i5 ((((g1.trans g2).trans g3).trans g4).trans g5) rfl q))))) hm
theorem pw_and1 (ha:PT X a ta):PW X (.BoolOp .And [a] pos) ta:=fun _=>fun i h f=>isTrue_and (ha i h fun {d u s1 θ1 μ1} i1 g1 r1 h1=>by
 cases r1;cases d with
 |true=>exact isTrue_and_nil (f i1 g1 rfl h1)|false=>exact f i1 g1 rfl h1)
theorem pw_or1 (ha:PT X a ta):PW X (.BoolOp .Or [a] pos) ta:=fun _=>fun i h f=>isTrue_or (ha i h fun {d u s1 θ1 μ1} i1 g1 r1 h1=>by
 cases r1;cases d with
 |false=>exact isTrue_or_nil (f i1 g1 rfl h1)|true=>exact f i1 g1 rfl h1)
theorem pw_and (ha:PT X a ta) (hb:PW X (.BoolOp .And (b::rest) pos) tb):PW X (.BoolOp .And (a::b::rest) pos) (fun ρ μ Q=>ta ρ μ fun t μ1=>if t=true then tb ρ μ1 Q else Q false μ1):=fun wh=>fun i h f=>isTrue_and (ha i h fun {d u s1 θ1 μ1} i1 g1 r1 h1=>by
 cases r1;cases d with
 |true=>exact hb wh i1 h1 (f.mono g1)|false=>exact f i1 g1 rfl h1)
theorem pw_or (ha:PT X a ta) (hb:PW X (.BoolOp .Or (b::rest) pos) tb):PW X (.BoolOp .Or (a::b::rest) pos) (fun ρ μ Q=>ta ρ μ fun t μ1=>if t=true then Q true μ1 else tb ρ μ1 Q):=fun wh=>fun i h f=>isTrue_or (ha i h fun {d u s1 θ1 μ1} i1 g1 r1 h1=>by
 cases r1;cases d with
 |true=>exact f i1 g1 rfl h1|false=>exact hb wh i1 h1 (f.mono g1))
theorem afM {op} (h:PE X a wa):PE X (.BoolOp op [a] pos) wa:=fun i q f=>BoolOp_one (h i q f)
theorem afQ (ha:PE X a wa) (hb:PE X (.BoolOp .And (b::rest) pos) wb):PE X (.BoolOp .And (a::b::rest) pos) (fun ρ μ Q=>wa ρ μ fun x μ1=>fV x μ1 fun t μ2=>if t=true then wb ρ μ2 Q else Q (.bl false) μ2):=fun i h f=>
 BoolOp_and (ha i h fun {d u s1 θ1 μ1} i1 g1 r1 h1=>by
  obtain⟨t,rfl,rfl,q⟩:=Gi r1 h1;refine nO ?_;cases t with
  |true=>exact hb i1 q (f.mono g1)|false=>exact f (d:=.bl false) i1 g1 rfl q)
theorem ajs (ha:PE X a wa) (hb:PE X (.BoolOp .Or (b::rest) pos) wb):PE X (.BoolOp .Or (a::b::rest) pos) (fun ρ μ Q=>wa ρ μ fun x μ1=>fV x μ1 fun t μ2=>if t=true then Q (.bl true) μ2 else wb ρ μ2 Q):=fun i h f=>
 BoolOp_or (ha i h fun {d u s1 θ1 μ1} i1 g1 r1 h1=>by
  obtain⟨t,rfl,rfl,q⟩:=Gi r1 h1;refine nO ?_;cases t with
  |true=>exact f (d:=.bl true) i1 g1 rfl q|false=>exact hb i1 q (f.mono g1))
theorem afN (ht:PT X t ta) (ha:PE X a wa) (hb:PE X b wb):PE X (.IfExp t a b pos) (fun ρ μ Q=>ta ρ μ fun t μ1=>if t=true then wa ρ μ1 Q else wb ρ μ1 Q):=fun i h f=>
 wpAny_IfExp (ht i h fun {d u s1 θ1 μ1} i1 g1 r1 h1=>by
  cases r1;cases d with
  |true=>exact ha i1 h1 (f.mono g1)|false=>exact hb i1 h1 (f.mono g1))
theorem alh {q:Const} {j} (h:mC q d=true):PE X (.Constant q j pos) (wE (.cst d)):=fun {s ρ θ μ Qd Q E} i w f=>by
 have w:Qd d μ:=by simpa only[wE]using w
 cases q<;>cases d<;>simp only[mC,cg,bM,beq_iff_eq]at h
 .exact Constant_none (f.at i CK w)
 .subst h;exact Constant_bool (f.at i Tv w)
 .subst h;exact wpAny_Constant_int (f.tok i jc w)
 .rename_i x y
  obtain⟨h1,h2⟩:=h;have h1:=of_decide_eq_true h1;have h2:=of_decide_eq_true h2;subst h1;exact aex (f.tok i (show Rp _ _ _ (.str _) _ from⟨⟨_,rfl⟩,by rw[cY];exact h2⟩) w)
theorem ak6 {k} (h:Ar X as ws):PE X (.Tuple as k pos) (fun ρ μ Q=>ws ρ μ fun ds μ1=>ds.length<=lim/\Q (.tup ds) μ1):=fun i q f=>by
 refine wpAny_Tuple_spliced (h.pa pos i q fun {d u s1 θ1 μ1} i1 g1 r1 h1=>?_);have l:u.length<=sizeLine:=by rw[r1.length,cY];exact h1.1
 exact⟨l,Fn.sq (j:=0) (f.mono g1) i1 c7 (aA _) (rA _ l).2 r1 h1.2⟩
theorem ala {m:Bool} (h:Ar X as ws):PE X (.List as pos) (fun ρ μ Q=>ws ρ μ fun ds μ1=>ds.length<=lim/\newL m ds μ1 Q):=fun i q f=>by
 refine wpAny_List_spliced (h.pa pos i q fun {d u s1 θ1 μ1} i1 g1 r1 h1=>?_);have l:u.length<=sizeLine:=by rw[r1.length,cY];exact h1.1
 exact⟨l,Fn.newL (f.mono g1) i1 c7 (aA _) (rA _ l).1 r1 h1.2⟩
end
end DW
namespace DW
open PySem PySem.Spec PyProof.Rows
open L2 (aP Key frs wz Loc Look Mod tL cG)
section
variable {X:Cx} {ρ:dH} {θ θ':Th} {μ μ':Mem} {s s1 s':aj} {k n:Nat} {ds:List D} {Qd:QD} {Q XE:Value->aj->Prop} {x y z:Str} {p p2 pos apos:Pos} {a b c e o t:Expr} {as es rest:List Expr} {wa wb wc wo:WE} {ta tb:WT} {ws:WA} {d:D} {u v:Value} {id T m:String} {w:List D->Mem->QD->Prop}
theorem aif (hg:Gl X x) (hm:X.T.mg x=some u) (r:∀ h θ μ,Rp h θ μ d u) (hdb:(x==("__debug__":Str))=false):PE X (.Name x pos) (wE (.gbl x d)):=fun {s ρ θ μ Qd Q E} i q f=>vV i hg hm hdb (f.at i (r _ _ _) (by simpa only[wE]using q))
theorem n7 (hv:yt x=some (.builtin id)) (hn:x≠"__name__") (hdb:(x==("__debug__":Str))=false) (ho:OpA X (fun us=>call (.builtin id) us) w) (hg:Gl X x) (hm:X.T.mg x=none) (ha:Ar X as ws):
  PE X (.Call (.Name x p) as [] pos) (fun ρ μ Q=>ws ρ μ fun ds μ1=>w ds μ1 Q):=fun i h f=>
 Dz (u0 i hg hm hv hn hdb (ajM (first:=[]) ha i h fun i1 g1 r1 h1=>ho i1 r1 h1 (f.mono g1)))
theorem Aq (hv:yt x=some (.type T)) (hn:x≠"__name__") (hdb:(x==("__debug__":Str))=false) (ho:OpA X (fun us=>call (.type T) us) w) (hg:Gl X x) (hm:X.T.mg x=none) (ha:Ar X (e::es) ws):
  PE X (.Call (.Name x p) (e::es) [] pos) (fun ρ μ Q=>ws ρ μ fun ds μ1=>w ds μ1 Q):=fun i h f=>
 Dz (u0 i hg hm hv hn hdb (QT (ha.pa pos i h fun i1 g1 r1 h1=>ho i1 r1 h1 (f.mono g1)) (ha.st rfl) ha.ame))
theorem aiD (K:aV):∀ a∈["NoneType","bool","int","str","tuple","list","dict"],∀ b∈["int","bool","str","tuple","list","dict"],adK K (.type a) (.type b)=some (Ls a b):=by intro a ha b hb;simp only[bC,ur,or_false]at ha hb;rcases ha with rfl|rfl|rfl|rfl|rfl|rfl|rfl<;>rcases hb with rfl|rfl|rfl|rfl|rfl|rfl<;>first|rfl|decide
theorem ag9:∀ b∈["int","bool","str","tuple","list","dict"],yt (aD b)=some (.type b)/\aD b≠"__name__"/\(aD b==("__debug__":Str))=false:=by intro b hb;simp only[bC,ur,or_false]at hb;rcases hb with rfl|rfl|rfl|rfl|rfl|rfl<;>exact⟨by decide+kernel,by decide+kernel,by decide+kernel⟩
theorem agp {c:Value} {r:Bool} {A:aL} (i:Iv X ρ θ μ s) (rd:Rp s.heap θ μ d u) (e:tyOf μ d=some T) (hk:adK X.T.K (.type T) c=some r) (h:∀ tk,Q (.bool r) {s with toks:=tk}):ak X.M A (call (.builtin "isinstance") [u,c]) Q XE s:=by
 cases d with
 |non=>cases(show u=fY from rd);cases e;exact rT PySem.W.kitx_none i.Cp yp hk (fun z=>nomatch z) h
 |bl y=>cases(show u=jF y from rd);cases e;exact rT PySem.W.kitx_bool i.Cp yp hk (fun z=>nomatch z) h
 |int j=>obtain⟨t,q⟩:=rd;cases q;cases e;exact rT PySem.W.kitx_int i.Cp yp hk (fun z=>nomatch z) h
 |str y=>obtain⟨⟨t,q⟩,_⟩:=rd;cases q;cases e;exact rT PySem.W.kitx_str i.Cp yp hk (fun z=>nomatch z) h
 |tup ds=>obtain⟨a,us,rfl,⟨_,o,n,h1,h2,_⟩,_⟩:=rd;cases e;exact rT PySem.W.kitx_tuple i.Cp ⟨o,h1,h2⟩ hk (fun z=>nomatch z) h
 |lst ds=>obtain⟨a,us,rfl,⟨_,n,h1⟩,_⟩:=rd;cases e;exact rT aeh i.Cp ⟨_,h1,rfl⟩ hk (fun z=>nomatch z) h
 |loc n=>
  obtain⟨p,rfl,hp⟩:=rd;simp only[tyOf]at e;split at e
  .rename_i es hn
   obtain⟨us,⟨_,n,h1⟩,_⟩:=i.dJ.cell _ _ p hn hp;cases e;exact rT aeh i.Cp ⟨_,h1,rfl⟩ hk (fun z=>nomatch z) h
  .rename_i ks es hn
   obtain⟨⟨_,⟨o,_,_,h1,x,_⟩,_⟩,_⟩:=i.dJ.cell _ _ p hn hp;cases e;exact rT aeg i.Cp ⟨o,h1,x.1⟩ hk (fun z=>nomatch z) h
  .rename_i ks es hn
   obtain⟨⟨_,⟨o,_,_,h1,x,_⟩,_⟩,_⟩:=i.dJ.cell _ _ p hn hp;cases e;exact rT aeg i.Cp ⟨o,h1,x.1⟩ hk (fun z=>nomatch z) h
  .cases e
 |ro _=>cases e
 |_=>exact rd.elim
theorem aie (ha:PE X a wa) (ht:T∈["int","bool","str","tuple","list","dict"]) (g1:Gl X (aD "isinstance")) (g2:Gl X (aD T)) (m1:X.T.mg (aD "isinstance")=none) (m2:X.T.mg (aD T)=none)
  (hs:fu [a,.Name (aD T) p2] X.env=(false,eval a X.env)::fu [.Name (aD T) p2] X.env):PE X (.Call (.Name (aD "isinstance") p) [a,.Name (aD T) p2] [] pos) (fun ρ μ Q=>wa ρ μ fun d μ1=>tM T d μ1 Q):=fun {s ρ θ μ Qd Q E} i h f=>by
 obtain⟨b1,b2,b3⟩:=ag9 T ht;refine Dz (u0 (u:=.builtin "isinstance") i g1 m1 (by decide+kernel) (by decide+kernel) (by decide+kernel) (akR ?_ hs rfl));rw[hs];refine DG (ha i h fun {d u s1 θ1 μ1} i1 g1 r1 h1=>?_);refine DG (u0 i1 g2 m2 b1 b2 b3 (Jq ?_));unfold tM at h1;split at h1
 .rename_i ty e
  have hty:ty∈["NoneType","bool","int","str","tuple","list","dict"]:=(ajp i1.dJ r1 e).1;exact agp i1 r1 e (aiD _ _ hty _ ht) fun tk=>f (d:=.bl (Ls ty T)) (Iv.tok i1) (g1.trans (cW fun _ _ e=>e)) rfl h1
 .exact h1.elim
theorem ale {dc:Addr} (hg:Gl X x) (hm:X.T.mg x=some (.ref dc)) (hd:Kq X.T.K dc=true) (ha:PE X a wa) (hdb:(x==("__debug__":Str))=false):
  PE X (.Compare a [.In] [.Name x p] pos) (fun ρ μ Q=>wa ρ μ fun d μ1=>VG ((qT X.T.K dc).map fun p=>p.1.cps.toList) d μ1 Q)/\PT X (.Compare a [.In] [.Name x p] pos) (fun ρ μ Q=>wa ρ μ fun d μ1=>VG ((qT X.T.K dc).map fun p=>p.1.cps.toList) d μ1 fun r μ2=>fV r μ2 Q):=by
 refine⟨fun i h f=>wpAny_Compare1 (ha i h fun {d u s1 θ1 μ1} i1 g1 r1 h1=>vV i1 hg hm hdb ?_) rfl,fun i h f=>aeZ (ha i h fun {d u s1 θ1 μ1} i1 g1 r1 h1=>vV i1 hg hm hdb ?_) rfl⟩
 .unfold VG at h1
  split at h1
  .obtain⟨⟨tk,rfl⟩,_⟩:=r1
   refine ac1 (Hl hd i1.Cp) ?_;rw[sy];exact f (d:=.bl _) (Iv.tok i1) (g1.trans (cW fun _ _ e=>e)) rfl h1
  .exact h1.elim
 .unfold VG at h1
  split at h1
  .obtain⟨⟨tk,rfl⟩,_⟩:=r1
   refine ac1 (Hl hd i1.Cp) ?_;rw[sy];exact nO (f (Iv.tok i1) (g1.trans (cW fun _ _ e=>e)) rfl h1)
  .exact h1.elim
theorem xg {wm:D->List D->Mem->QD->Prop} {W:Mem->D->Prop} (pa:PlainAttrs T) (slot:Slot T (aD m) id) (hty:typeOf (.builtin id)=pure (.type "method_descriptor")) (hm:Mt X id wm) (hW:∀ {μ d},W μ d->tyOf μ d=some T)
  (ho:PE X o wo) (hbs:m8 o=true) (ha:Ar X as ws) (hline:(apos.endLine==pos.line)=true) (h30:as.length<30):
  PE X (.Call (.Attribute o (aD m) apos) as [] pos) (fun ρ μ Q=>wo ρ μ fun x μ1=>W μ1 x/\ws ρ μ1 fun ds μ2=>wm x ds μ2 Q):=fun i h f=>by
 refine wpAny_Call_method_late (RX hbs) (ha.few h30) hline rfl (ho i h fun {d u s1 θ1 μ1} i1 g1 r1 h1=>?_);obtain⟨_,k1,k2⟩:=ajp i1.dJ r1 (hW h1.1);exact⟨T,id,pa,slot,hty,k1,k2,ajM (first:=[u]) ha i1 h1.2 fun i2 g2 r2 h2=>hm i2 ((i1.kp g2).rp r1) r2 h2 (f.mono (g1.trans g2))⟩
theorem ty_cell (h:isCell μ d=true):tyOf μ d=some "list":=by
 cases d with
 |loc n=>
  simp only[isCell]at h;split at h
  .rename_i e;simp only[tyOf,e]
  .cases h
 |_=>cases h
theorem ajq (h:Uq μ d=true):tyOf μ d=some "list":=by
 cases d with
 |lst _=>rfl|loc n=>
  simp only[Uq]at h;split at h
  .rename_i e;simp only[tyOf,e]
  .cases h
 |_=>cases h
theorem Z9 (h:amZ d=true):tyOf μ d=some "str":=by
 cases d with
 |str _=>rfl|_=>cases h
theorem aic (hmm:m="append"∨m="insert"∨m="extend"∨m="pop") (ho:PE X o wo) (hbs:m8 o=true) (ha:Ar X as ws) (hline:(apos.endLine==pos.line)=true) (h30:as.length<30):
  PE X (.Call (.Attribute o (aD m) apos) as [] pos) (fun ρ μ Q=>wo ρ μ fun x μ1=>isCell μ1 x=true/\ws ρ μ1 fun ds μ2=>dB m x ds μ2 Q):=by
 rcases hmm with rfl|rfl|rfl|rfl
 .exact xg DQ Xo PySem.F.type_list_append abD ty_cell ho hbs ha hline h30
 .exact xg DQ adH PySem.F.type_list_insert abB ty_cell ho hbs ha hline h30
 .exact xg DQ Xn PySem.F.type_list_extend abC ty_cell ho hbs ha hline h30
 .exact xg DQ W8 PySem.F.type_list_pop alp ty_cell ho hbs ha hline h30
end
end DW
namespace DW
open PySem PySem.Spec PyProof.Rows
open L2 (aP Key frs wz Loc Look Mod tL cG)
section
variable {h:Heap} {θ:Th} {μ:Mem} {d:D} {ds:List D} {v:Value}
theorem aam {β κ κ':Type} [DecidableEq κ] [DecidableEq κ'] {f:κ->κ'} (inj:∀ a b,f a=f b->a=b) {key:β->κ'} {val:β->Value} {k:κ} {up:β->β} {new:β} (hk:∀ x,key (up x)=key x) (hv:∀ x,val (up x)=if key x=f k then v else val x) (nk:key new=f k) (nv:val new=v) (rv:Rp h θ μ d v):
  ∀ {ks:List κ} {ds:List D} {l:List β},l.map key=ks.map f->dh h θ μ ds (l.map val)->(if k∈ks then l.map up else l++[new]).map key=(iZ ks k).map f/\dh h θ μ (lY ks ds k d) ((if k∈ks then l.map up else l++[new]).map val):=by
 intro ks ds l e r;unfold iZ lY;by_cases c:k∈ks
 .rw[if_pos c,if_pos c,if_pos c]
  refine⟨by rw[<-e,jN];exact Jt fun x _=>hk x,?_⟩;clear c;induction l generalizing ks ds with
  |nil=>cases(show ks=[] by simpa using e);rw[aW,aW,List.zipWith_nil_left];exact .nil
  |cons x l ih=>
   cases ks with
   |nil=>simp at e|cons c ks=>
    simp only[aX,m6]at e;cases ds with
    |nil=>simp[dh]at r|cons d' ds=>
     obtain⟨u,us,q,r1,r2⟩:=r;simp only[aX,m6]at q;obtain⟨rfl,rfl⟩:=q;rw[aX,aX,ae9];refine .cons ?_ (ih e.2 r2);rw[hv];by_cases z:c=k
     .rw[if_pos z,if_pos (by rw[e.1,z])];exact rv
     .rw[if_neg z,if_neg fun y=>z (inj _ _ (e.1.symm.trans y))];exact r1
 .rw[if_neg c,if_neg c,if_neg c]
  refine⟨by rw[m5,m5,e,aew,aew,nk],?_⟩;rw[m5];exact r.append (.one (by rw[nv];exact rv))
theorem RW {β κ κ':Type} [DecidableEq κ] [DecidableEq κ'] {f:κ->κ'} (inj:∀ a b,f a=f b->a=b) {key:β->κ'} {k:κ}:∀ {ks:List κ} {l:List β},l.map key=ks.map f->((l.any fun x=>decide (key x=f k))=true<->k∈ks):=by
 intro ks l e;rw[X6];have:(∃ x∈l,key x=f k)<->f k∈l.map key:=by rw[j9]
 simp only[decide_eq_true_eq];rw[this,e,j9];exact⟨fun⟨a,h1,h2⟩=>inj _ _ h2▸h1,fun z=>⟨k,z,rfl⟩⟩
end
section
variable {κ κ':Type} [DecidableEq κ] [DecidableEq κ'] {f:κ->κ'} {ks:List κ} {k:κ} {w:Value} {b:Addr}
theorem abk (inj:∀ a b,f a=f b->a=b) {kvs:List (κ'×Value)} (hk:kvs.map (·.1)=ks.map f):ux kvs (f k) w=if k∈ks then kvs.map (fun kv=>if kv.1=f k then(kv.1,w)else kv)else kvs++[(f k,w)]:=by
 unfold ux;by_cases c:k∈ks
 .rw[if_pos c,if_pos ((RW inj hk).mpr c)]
 .rw[if_neg c,if_neg fun y=>c ((RW inj hk).mp y)]
theorem Wg (inj:∀ a b,f a=f b->a=b) {xs:List (κ'×Addr×Value)} (hk:xs.map (·.1)=ks.map f):Ou xs (f k) b w=if k∈ks then xs.map (rF (f k) w)else xs++[(f k,b,w)]:=by
 have c2:(jH xs (f k)).isSome=true<->k∈ks:=by rw[<-RW inj hk];unfold jH;rw[Qo,List.find?_isSome,X6]
 unfold Ou;by_cases c:k∈ks
 .rw[if_pos c,if_pos (c2.mpr c)]
 .rw[if_neg c,if_neg fun y=>c (c2.mp y)]
theorem ahW {h:Heap} {θ:Th} {μ:Mem} {g:κ->D} {xs:List (κ'×Addr×Value)} (ht:dh h θ μ (ks.map g) (xs.map fun x=>.ref x.2.1)) (hb:Rp h θ μ (g k) (.ref b)):dh h θ μ ((iZ ks k).map g) ((if k∈ks then xs.map (rF (f k) w)else xs++[(f k,b,w)]).map fun x=>.ref x.2.1):=by
 unfold iZ;by_cases c:k∈ks
 .rw[if_pos c,if_pos c,jN,show((fun x:κ'×Addr×Value=>nY x.2.1) ∘ rF (f k) w)=fun x=>nY x.2.1 from funext fun x=>by simp only[Function.comp];unfold rF;split<;>rfl]
  exact ht
 .rw[if_neg c,if_neg c,m5,m5]
  exact ht.append (.one hb)
theorem T9:(iZ ks k).length<=ks.length+1:=by unfold iZ;split<;>simp
end
section
variable {X:Cx} {ρ:dH} {θ θ':Th} {μ μ':Mem} {s s1 s':aj} {n:Nat} {ds:List D} {Qd:QD} {Q XE:Value->aj->Prop} {p p2 pos:Pos} {a b o:Expr} {wa wb we wo wi:WE} {d x y z:D} {u v w:Value} {A:aL} {K:Mem->Prop}
theorem Iv.big (i:Iv X ρ θ μ s):kW<s.heap.objs.size:=Dp (by decide) (show aM<s.heap.objs.size from(i.e.mod.glob.keeps i.e.bk).lt)
theorem aaX {t:Bool} (i:Iv X ρ θ μ s):Iv X ρ (θ.snoc (s.heap.objs.size,s.heap.objs.size)) (μ++[if t=true then .GC [] []else .jZ [] []]) {s with heap:=s.heap.push {cls:=.type "dict",data:=.dict #[]}}/\
  G0 X θ μ s (θ.snoc (s.heap.objs.size,s.heap.objs.size)) (μ++[if t=true then .GC [] []else .jZ [] []]) {s with heap:=s.heap.push {cls:=.type "dict",data:=.dict #[]}}:=by
 have e:=gU s.heap (o:={cls:=.type "dict",data:=.dict #[]}) rfl;have hb:(s.heap.objs.size==kW)=false:=beq_eq_false_iff_ne.mpr (bL (jf i.big));refine i.new (p:=(s.heap.objs.size,s.heap.objs.size)) (tk:=s.toks) c7 (aA _) (aA _) (fun a z=>⟨_,by rcases z with rfl|rfl<;>exact e⟩) ?_;cases t with
 |true=>exact⟨⟨[],⟨_,#[],0,e,⟨rfl,rfl,rfl⟩,rfl,rfl,XD⟩,jG _,hb,.nil,rfl,.nil⟩,rfl⟩|false=>exact⟨⟨[],akC s.heap,jG _,hb,rfl,.nil⟩,rfl⟩
theorem aii {t:Bool}:PE X (.Dict [] [] pos) (wE (.ab5 t)):=fun {s ρ θ μ Qd Q E} i h f=>by obtain⟨i',g⟩:=aaX (t:=t) i;simp only[wE]at h;exact wpAny_Dict_empty (f (d:=.loc μ.length) i' g ⟨(s.heap.objs.size,s.heap.objs.size),rfl,by rw[<-i.dJ.len];simp[Th.snoc]⟩ h)
theorem agW (hu:A.units+1<cLine) (i:Iv X ρ θ μ s) (rx:Rp s.heap θ μ x u) (ry:Rp s.heap θ μ y v) (h:Mi x y μ Qd) (f:Fin X ρ θ μ s Qd Q):s.TypeIs u "dict"/\ak X.M A (gk u v) Q XE s:=by
 have kk:∀ {p ks ds k d},Vy X.T s.heap θ μ p ks ds->za y=some k->eX ks ds k=some d->Qd d μ->s.TypeIs (.ref p) "dict"/\ak X.M A (gk (.ref p) v) Q XE s:=fun {p ks ds k d} c ek el q=>by
  obtain⟨kvs,hd,_,_,hk,r⟩:=c;obtain⟨x,e,rd⟩:=(BJ keyOf (fun _ _=>nA) (·.1) (·.2) ks ds kvs k hk r).1 _ el
  exact⟨hd.typeIs,wpAny_getItem_of (key_is ek ry) hd.mapOf (show pP kvs (keyOf k)=some x.2 by unfold pP;rw[e];rfl) (f.tok i rd q)⟩
 have tt:∀ {p ks ds es k d},K9 X.T s.heap θ μ p ks ds->y= .tup es->jV es=some k->eX ks ds k=some d->Qd d μ->s.TypeIs (.ref p) "dict"/\ak X.M A (gk (.ref p) v) Q XE s:=fun {p ks ds es k d} c ey ek el q=>by
  subst ey;obtain⟨b,us,rfl,_⟩:=id ry;obtain⟨xs,hd,_,_,_,hk,r⟩:=c.of;obtain⟨x,e,rd⟩:=(BJ (fun k:List iH=>k.map keyOf) (fun _ _=>rY) (·.1) (·.2.2) ks ds xs k hk r).1 _ el
  exact⟨hd.typeIs,wpAny_getItem_heap (p:=x.2) (Qt hu) (zV ek ry) hd (show jH xs (k.map keyOf)=some x.2 by unfold jH;rw[e];rfl) (f.tok i rd q)⟩
 unfold Mi at h;split at h
 .rename_i n
  obtain⟨p,rfl,hp⟩:=rx;split at h
  .rename_i ks ds hn
   split at h
   .rename_i k ek
    split at h
    .rename_i d el;exact kk (i.dJ.cell n _ p hn hp).1 ek el h
    .exact h.elim
   .exact h.elim
  .rename_i ks ds hn
   split at h
   .split at h
    .rename_i k ek
     split at h
     .rename_i d el;exact tt (i.dJ.cell n _ p hn hp).1 rfl ek el h
     .exact h.elim
    .exact h.elim
   .exact h.elim
  .exact h.elim
 .exact h.elim
theorem aij (hu:X.A.units+1<cLine) (ho:PE X o wo) (hi:PE X b wi) (hs:Cg b):PE X (.Subscript o b pos) (fun ρ μ Q=>wo ρ μ fun x μ1=>wi ρ μ1 fun y μ2=>Mi x y μ2 Q):=fun i h f=>L2.aae Pz.lookup hs (ho i h fun i1 g1 r1 h1=>hi i1 h1 fun i2 g2 r2 h2=>agW hu i2 ((i1.kp g2).rp r1) r2 h2 (f.mono (g1.trans g2)))
theorem agS {R:Unit->aj->Prop} (hu:A.units+1<cLine) (i:Iv X ρ θ μ s) (rx:Rp s.heap θ μ x u) (ry:Rp s.heap θ μ y v) (rz:Rp s.heap θ μ z w) (h:Hw x y z μ K)
  (f:∀ {s' μ'},Iv X ρ θ μ' s'->G0 X θ μ s θ μ' s'->K μ'->R () s'):ak X.M A (IV u v w) R XE s:=by
 unfold Hw at h;split at h
 .rename_i n
  obtain⟨p,rfl,hp⟩:=rx;split at h
  .rename_i ks ds hn
   obtain⟨⟨kvs,hd,l,hs,hk,r⟩,h2⟩:=i.dJ.cell n _ p hn hp;split at h
   .rename_i k ek
    (have hl:kvs.length=ks.length:=by simpa using congrArg dR hk);refine wpAny_setItem_pairs (hsz:=l) (key_is ek ry) hd fun h' dd' sb=>?_;have k':∀ b o,¬(b=p.1∨b=p.2)->s.heap.get? b=some o->h'.get? b=some o:=fun b o z q=>(sb.2 b fun y=>z (.inl y)).trans q;have kp:Kp θ μ s.heap θ (μ.set n (.jZ (iZ ks k) (lY ks ds k z))) h':=yZ hn hp (by simp) k';obtain⟨q1,q2⟩:=aam (f:=keyOf) (fun _ _=>nA) (key:=fun kv:Key×Value=>kv.1) (val:=fun kv=>kv.2) (k:=k) (v:=w) (up:=fun kv=>if kv.1=keyOf k then(kv.1,w)else kv) (new:=(keyOf k,w)) (fun x=>by split<;>rfl) (fun x=>by split<;>rfl) rfl rfl (kp.rp rz) hk (kp.Gr r);rw[<-abk (fun _ _=>nA) hk]at q1 q2;obtain⟨o',_,_,eo,_⟩:=id dd';obtain⟨i',g⟩:=i.set (c':=.jZ (iZ ks k) (lY ks ds k z)) (tk:=s.toks+1) hn hp (by simp) rfl k' (fun a z=>⟨o',by rcases z with rfl|rfl<;>first|exact eo|(rw[h2];exact eo)⟩)
     ⟨⟨_,dd',by have e:=congrArg dR q1;simp only[aR]at e;rw[e,cY];exact gD T9 h.1,hs,q1,q2⟩,h2⟩
    exact f i' g h.2
   .exact h.elim
  .rename_i ks ds hn
   obtain⟨hx,h2⟩:=i.dJ.cell n _ p hn hp;obtain⟨xs,hd,l,hs,ht,hk,r⟩:=hx.of;split at h
   .rename_i es
    split at h
    .rename_i k ek
     obtain⟨b,us,rfl,_⟩:=id ry;(have hl:xs.length=ks.length:=by simpa using congrArg dR hk);refine wpAny_setItem_heap (hsz:=l) (Qt hu) (zV ek ry) hd fun h' dd' sb=>?_;have k':∀ b o,¬(b=p.1∨b=p.2)->s.heap.get? b=some o->h'.get? b=some o:=fun b o z q=>(sb.2 b fun y=>z (.inl y)).trans q;have kp:Kp θ μ s.heap θ (μ.set n (.GC (iZ ks k) (lY ks ds k z))) h':=yZ hn hp (by simp) k';obtain⟨q1,q2⟩:=aam (f:=fun k:List iH=>k.map keyOf) (fun _ _=>rY) (key:=fun x:List Key×Addr×Value=>x.1) (val:=fun x=>x.2.2) (k:=k) (v:=w) (up:=rF (k.map keyOf) w) (new:=(k.map keyOf,b,w)) (fun x=>by unfold rF;split<;>rfl) (fun x=>by unfold rF;split<;>rfl) rfl rfl (kp.rp rz) hk (kp.Gr r);have q3:=ahW (k:=k) (w:=w) (f:=fun k:List iH=>k.map keyOf) (kp.Gr ht) (b:=b) (by rw[ajw ek]at ry;exact kp.rp ry);rw[<-Wg (fun _ _=>rY) hk]at q1 q2 q3;obtain⟨o',es2,ep,eo,e1,e2,e3,_,e5⟩:=dd';obtain⟨i',g⟩:=i.set (c':=.GC (iZ ks k) (lY ks ds k z)) (tk:=s.toks+(I6 (aP X.T.P X.T.w)).draws (k.map keyOf)) hn hp (by simp) rfl k' (fun a z=>⟨o',by rcases z with rfl|rfl<;>first|exact eo|(rw[h2];exact eo)⟩)
      ⟨⟨_,⟨o',es2,ep,eo,e1,e2,e3,e5⟩,by have e:=congrArg dR q1;simp only[aR]at e;rw[e,cY];exact gD T9 h.1,hs,q3,q1,q2⟩,h2⟩
     exact f i' g h.2
    .exact h.elim
   .exact h.elim
  .exact h.elim
 .exact h.elim
end
end DW
namespace DW
open PySem PySem.Spec PyProof.Rows
open L2 (aP Key frs wz Loc Look Mod tL cG)
section
variable {X:Cx} {ρ:dH} {θ θ':Th} {μ μ':Mem} {s s1 s':aj} {n:Nat} {ds:List D} {Qd:QD} {Q XE:Value->aj->Prop} {p p1 p2 p3 pos:Pos} {a b o x y z k:Expr} {wa wb we:WE} {d:D} {u v w:Value} {ks:List iH} {keys:List (Option Expr)} {values:List Expr} {ws:WA}
def Ky (P:aZ) (w:aQ):List iH->List Value->Prop
 |[],vs=>vs=[]|k::ks,vs=>∃ v r,vs=v::r/\(aP P w).is (keyOf k) v=true/\Ky P w ks r
def PPs (X:Cx) (pos:Pos) (keys:List (Option Expr)) (values:List Expr) (ks:List iH) (ws:WA):Prop:=
 ∀ {s:aj} {ρ:dH} {θ:Th} {μ:Mem} {Qa:List D->Mem->Prop} {Q:List (Value×Value)->aj->Prop} {E:Value->aj->Prop},Iv X ρ θ μ s->ws ρ μ Qa->
  (∀ {ds vs s' θ' μ'},Iv X ρ θ' μ' s'->G0 X θ μ s θ' μ' s'->Ky X.T.P X.T.w ks (vs.map (·.1))->dh s'.heap θ' μ' ds (vs.map (·.2))->Qa ds μ'->Q vs s')->ak X.M X.A (evalPairs (pairTrees keys values X.env pos)) Q E s
theorem aao:PPs X pos [] [] [] (fun _ μ Q=>Q [] μ):=fun i h f=>pairTrees_nil_walk (f i .refl rfl .nil h)
theorem uM {t:Str} {q:List Nat} {j} (e:t.cps.toList=q) (hv:PE X a wa) (hr:PPs X pos keys values ks ws):PPs X pos (some (.Constant (.str t) j p)::keys) (a::values) (.inr q::ks) (fun ρ μ Q=>wa ρ μ fun d μ1=>ws ρ μ1 fun ds μ2=>Q (d::ds) μ2):=fun i h f=>pairTrees_cons_walk (aex (hv (Iv.tok i) h fun i2 g2 r2 h2=>hr i2 h2 fun i3 g3 r3 r4 h3=>f i3 ((cW fun _ _ e=>e).trans (g2.trans g3)) ⟨_,_,rfl,by subst e;exact L2.FQ _ _ _ _,r3⟩ (.cons ((i2.kp g3).rp r2) r4) h3))
theorem KR {P:aZ} {w:aQ}:∀ {ks:List iH} {vs:List (Value×Value)},Ky P w ks (vs.map (·.1))->∃ rs:List (Key×Value),Carries (aP P w) vs rs/\rs.map (·.1)=ks.map keyOf/\rs.map (·.2)=vs.map (·.2)
 |[],[],_=>⟨[],trivial,rfl,rfl⟩|[],v::vs,h=>by cases(show _::_=[]from h)
 |k::ks,[],⟨_,_,e,_⟩=>by cases e
 |k::ks,v::vs,⟨u,r,e,h1,h2⟩=>by simp only[aX,m6]at e;obtain⟨rfl,rfl⟩:=e;obtain⟨rs,c,q1,q2⟩:=KR h2;exact⟨(keyOf k,v.2)::rs,⟨h1,rfl,c⟩,by simp[q1],by simp[q2]⟩
theorem Bd {κ:Type} [DecidableEq κ]:∀ {rs acc:List (κ×Value)},((acc++rs).map (·.1)).Nodup->Ir acc rs=acc++rs
 |[],acc,_=>by simp[Ir]|r::rs,acc,h=>by
  have e:ux acc r.1 r.2=acc++[r]:=by unfold ux;rw[if_neg];intro z;obtain⟨x,hx,hk⟩:=X6.mp z;rw[m5,Ye]at h;exact h.2.2 x.1 (List.mem_map_of_mem hx) r.1 (by simp) (of_decide_eq_true hk)
  have:=Bd (rs:=rs) (acc:=acc++[r]) (by simpa using h);show Ir (ux acc r.1 r.2) rs=_;rw[e,this];simp
theorem aaq (hp:PPs X pos keys values ks ws) (hnd:ks.Nodup) (hall:keys.all (·.isSome)=true) (hl:keys.length=values.length) (h0:keys≠[]) (h15:keys.length<=15) (hk:ks.length<=15):
  PE X (.Dict keys values pos) (fun ρ μ Q=>ws ρ (μ++[.jZ [] []]) fun ds μ1=>μ1[μ.length]?=some (.jZ [] [])/\Q (.loc μ.length) (μ1.set μ.length (.jZ ks ds))):=fun {s ρ θ μ Qd Q E} i h f=>by
 obtain⟨i0,g0⟩:=aaX (t:=false) i;refine wpAny_Dict_walk (knd:=aP X.T.P X.T.w) hall hl h0 h15 (hp i0 h fun {ds vs s' θ' μ'} i1 g1 r1 r2 h1=>?_);obtain⟨hc,hq⟩:=h1;have hp':(θ.snoc (s.heap.objs.size,s.heap.objs.size)).cs[μ.length]?=some (s.heap.objs.size,s.heap.objs.size):=by rw[<-i.dJ.len];simp[Th.snoc]
 have ha:=g1.pre _ _ hp';obtain⟨⟨kvs,dd,_,hs,hk0,_⟩,_⟩:=i1.dJ.cell _ _ _ hc ha;cases(show kvs=[] by simpa using hk0);obtain⟨rs,c,q1,q2⟩:=KR r1;have em:Ir [] rs=rs:=Bd (acc:=[]) (by rw[aO,q1];rw[List.nodup_iff_pairwise_ne]at hnd ⊢;exact hnd.map keyOf fun a b n e=>n (nA e))
 refine⟨rs,c,dd,fun h' dd' sb=>?_⟩;rw[em]at dd';have k':∀ b o,¬(b=s.heap.objs.size∨b=s.heap.objs.size)->s'.heap.get? b=some o->h'.get? b=some o:=fun b o z q=>(sb.2 b fun y=>z (.inl y)).trans q;have kp:Kp θ' μ' s'.heap θ' (μ'.set μ.length (.jZ ks ds)) h':=yZ hc ha (by simp) k';obtain⟨o',_,_,eo,_⟩:=id dd';have hlen:rs.length=ks.length:=by simpa using congrArg dR q1
 obtain⟨i2,g2⟩:=i1.set (c':=.jZ ks ds) (tk:=s'.toks+vs.length) hc ha (by simp) rfl k' (fun a z=>⟨o',by rcases z with rfl|rfl<;>exact eo⟩) ⟨⟨rs,dd',by rw[hlen,cY];lia,hs,q1,by rw[q2];exact kp.Gr r2⟩,rfl⟩;exact f (d:=.loc μ.length) i2 ((g0.trans g1).trans g2) ⟨_,rfl,ha⟩ hq
theorem alf {s1 s2 s3:Str} {k1 k2 k3:List Nat} {j1 j2 j3} (e1:s1.cps.toList=k1) (e2:s2.cps.toList=k2) (e3:s3.cps.toList=k3) (n1:k1≠k2) (n2:k1≠k3) (n3:k2≠k3) (hx:PE X x wa) (hy:PE X y wb) (hz:PE X z we):
  PE X (.Dict [some (.Constant (.str s1) j1 p1),some (.Constant (.str s2) j2 p2),some (.Constant (.str s3) j3 p3)] [x,y,z] pos)
   (fun ρ μ Q=>wa ρ (μ++[.jZ [] []]) fun x μ1=>wb ρ μ1 fun y μ2=>we ρ μ2 fun z μ3=>μ3[μ.length]?=some (.jZ [] [])/\Q (.loc μ.length) (μ3.set μ.length (.jZ [.inr k1,.inr k2,.inr k3] [x,y,z]))):=
 aaq (uM e1 hx (uM e2 hy (uM e3 hz aao))) (by simp[n1,n2,n3]) rfl rfl (by simp) (by simp) (by simp)
theorem alg {s1 s2:Str} {k1 k2:List Nat} {j1 j2} (e1:s1.cps.toList=k1) (e2:s2.cps.toList=k2) (n1:k1≠k2) (hx:PE X x wa) (hy:PE X y wb):
  PE X (.Dict [some (.Constant (.str s1) j1 p1),some (.Constant (.str s2) j2 p2)] [x,y] pos)
   (fun ρ μ Q=>wa ρ (μ++[.jZ [] []]) fun x μ1=>wb ρ μ1 fun y μ2=>μ2[μ.length]?=some (.jZ [] [])/\Q (.loc μ.length) (μ2.set μ.length (.jZ [.inr k1,.inr k2] [x,y]))):=
 aaq (uM e1 hx (uM e2 hy aao)) (by simp[n1]) rfl rfl (by simp) (by simp) (by simp)
theorem alc (ha:PE X a wa):PE X a (fun ρ μ Q=>wa ρ μ fun d μ1=>R8 d μ1 Q):=fun {s ρ θ μ Qd Q E} i h f=>ha i h fun {d u s1 θ1 μ1} i1 g1 r1 h1=>by
 cases d with
 |loc n=>
  obtain⟨p,rfl,hp⟩:=id r1;simp only[R8]at h1;split at h1
  .rename_i ds hn
   obtain⟨us,x,r,e2⟩:=i1.dJ.cell n _ p hn hp;obtain⟨_,o,eo,_⟩:=x.fix;have kp:Kp θ1 μ1 s1.heap θ1 (μ1.set n .gone) s1.heap:=yZ hn hp (by simp) fun _ _ _ q=>q;obtain⟨i2,g2⟩:=i1.set (c':=.gone) (h':=s1.heap) (tk:=s1.toks) hn hp (by simp) rfl (fun _ _ _ q=>q) (fun a z=>⟨o,by rcases z with rfl|rfl<;>first|exact eo|(rw[e2];exact eo)⟩) trivial;exact f (d:=.lst ds) i2 (g1.trans g2) ⟨p.1,us,rfl,x,abZ i1.dJ hn (by simp) hp (.inl rfl),kp.Gr r⟩ h1
  .exact h1.elim
 |_=>exact f i1 g1 r1 h1
end
end DW
namespace DW
open PySem PySem.Spec PyProof.Rows PySem.SeqAt
open L2 (aP Key frs wz Loc Look Mod tL cG)
open PySem.AutoSeq1 (wpAny_loadPart')
theorem J9 (a:IsItem h v x) (b:IsItem h v y):x=y:=by
 obtain⟨p,o,t,u,n,rfl,g,_,d⟩:=a;obtain⟨p',o',t',u',n',e,g',_,d'⟩:=b;cases e;rw[g]at g';cases g';rw[d]at d';injection d' with e1 e2;have e3:=congrArg Jd e1;simp only[m6,Value.int.injEq,Value.str.injEq,adz,and_true]at e3;obtain⟨⟨h1,_⟩,h2,_⟩:=e3;have h2':x.2=y.2:=by simpa using congrArg Jd h2
 exact O1 h1 h2'
theorem IsItem.keep (k:∀ b o,h.get? b=some o->h'.get? b=some o) (i:IsItem h v x):IsItem h' v x:=by obtain⟨p,o,t,u,n,e,g,r⟩:=i;exact⟨p,o,t,u,n,e,k _ _ g,r⟩
theorem aaF {x:Itm} {t u:Tok}:SVs [pR x.1 t,uH ⟨x.2.toArray⟩ u] [.int x.1,.str x.2]:=.cons (.inl ⟨_,_,rfl,rfl⟩) (.cons (.inr ⟨_,_,rfl,rfl⟩) .nil)
theorem agb (x y:Itm):wJ [.int x.1,.str x.2] [.int y.1,.str y.2]=some (gM x y):=by
 unfold gM;by_cases e:x.1=y.1
 .rw[if_pos e]
  by_cases e2:x.2=y.2
  .have:dO x.2 y.2=false:=by rw[e2,G7];simp
   rw[<-e2]at this;simp[wJ,mq,e,<-e2,this]
  .simp[wJ,mq,e,e2,M8]
 .rw[if_neg e]
  simp[wJ,mq,e,M8]
section
variable {prog:aZ} {w:aQ} {A:aL} {E:Value->aj->Prop}
theorem abr (hv:IsItem s.heap v x) (hu:IsItem s.heap u y) (hun:A.units<cLine) (h:Q (.bool (gM x y)) s):ak (aH prog w) A (O8 .Lt v u) Q E s:=by obtain⟨a,oa,t1,t2,n,rfl,ga,ca,da⟩:=hv;obtain⟨b,ob,t3,t4,m,rfl,gb,cb,db⟩:=hu;exact T5 (l:=a) (b:=b) ⟨oa,ga,ca,n,da⟩ ⟨ob,gb,cb,m,db⟩ aaF aaF (agb x y) hun h
theorem ab4 (hv:IsItem s.heap v x) (hu:IsItem s.heap u y) (hun:A.units<cLine):CW A s v u (decide (x=y)):=by
 obtain⟨a,oa,t1,t2,n,rfl,ga,ca,da⟩:=id hv;obtain⟨b,ob,t3,t4,m,rfl,gb,cb,db⟩:=id hu;by_cases e:a=b
 .subst e
  have:=J9 hv hu;rw[decide_eq_true this];exact EqAt.same _
 .have rc:=RcAt.tuples (A:=A) (s:=s) (l:=a) (b:=b) (e:=fun j=>match j with|0=>x.1==y.1|_=>decide (x.2=y.2)) ⟨oa,ga,ca,n,da⟩ ⟨ob,gb,cb,m,db⟩ hun (fun j h1 h2=>by
   match j,h1,h2 with
   |0,_,_=>exact aez x.1 t1 y.1 t3|1,_,_=>
    have:=aey (A:=A.in1) (s:=s) ⟨x.2.toArray⟩ t2 ⟨y.2.toArray⟩ t4;have q:((⟨x.2.toArray⟩:Str)==⟨y.2.toArray⟩)=decide (x.2=y.2):=by rw[HY];by_cases z:x.2=y.2<;>simp[z]
    rw[q]at this;exact this)
  have eb:((aU (min (#[pR x.1 t1,uH ⟨x.2.toArray⟩ t2]:Array Value).size (#[pR y.1 t3,uH ⟨y.2.toArray⟩ t4]:Array Value).size)).all (fun j=>match j with|0=>x.1==y.1|_=>decide (x.2=y.2))&&(#[pR x.1 t1,uH ⟨x.2.toArray⟩ t2]:Array Value).size==(#[pR y.1 t3,uH ⟨y.2.toArray⟩ t4]:Array Value).size)=decide (x=y):=by have:x=y<->x.1=y.1/\x.2=y.2:=⟨fun z=>by rw[z];exact⟨rfl,rfl⟩,fun z=>O1 z.1 z.2⟩;by_cases z1:x.1=y.1<;>by_cases z2:x.2=y.2<;>simp[this,z1,z2,aU,List.range.loop]
  rw[eb]at rc;exact EqAt.of_refs e rc
theorem af6 {I S:Addr} {fp wr:List Addr} {n:Nat} {St:Nat->Heap->Prop} {R:uy->aj->Prop} {h0:Heap} {vs:List Value} {r:List Itm} (W:Walks prog w A.in1 I fp wr n (fun i v=>vs[i]?=some v) St) (hvr:∀ (i:Nat) (v:Value),vs[i]?=some v->∃ x,r[i]?=some x/\IsItem h0 v x)
  (hun:A.in1.units<cLine) (nS:S∉fp) (old:∀ b o,h0.get? b=some o->b∉wr/\b≠S):
  ∀ (k j:Nat) (s:aj) (best:Value) (c:Nat),j+1+k=n->St (j+1) s.heap->(∃ i,i<=j/\vs[i]?=some best/\i=cL (ltAt r) j)->
   s.heap.get? S=some {cls:=.type "list",dict:=none,data:=.seq #[best,best] c,slots:=#[]}->(∀ b o,h0.get? b=some o->s.heap.get? b=some o)->
   (∀ v h' tk,vs[cL (ltAt r) (n -1)]?=some v->(∀ b o,b∉wr->b≠S->s.heap.get? b=some o->h'.get? b=some o)->R (.ok (.ret v)) {s with heap:=h',toks:=tk})->
   jK (aH prog w) A (.builtin "min.loop" ⟨[.ref I,.none,.ref S],[]⟩) R s:=by
 have nSw:S∉wr:=fun z=>nS (W.sub _ z);have nm:(toString "min"++toString ".loop":String)="min.loop":=by decide
 intro k;induction k with
 |zero=>rintro j s best c hn st ⟨i,_,hi,ei⟩ gS _ hR;have ej:j+1=n:=hn;refine pY X5 (by rw[Al yH _];show ak _ A.in1 (yh (.ref S)>>=_) _ _ s;refine aq (yw gS rfl (?_:ak _ A.in1 (tryCatch (mH (.ref I)) _>>=_) _ _ s));refine aq (rR (W.done s _ _ (by rw[<-ej];exact st) fun h1 tk ke=>?_));have gS1:=ke S _ nSw gS;refine aq (m:=O2 S (fun _=>#[])) (uI gS1 rfl (aq (rP (aG ?_))));exact hR best _ tk (by rw[<-ej,Nat.add_sub_cancel,<-ei];exact hi) fun b o nb nbS e=>(nP _ _ (bL nbS)).trans (ke b o nb e))|succ k ih=>
  rintro j s best c hn st ⟨i,il,hi,ei⟩ gS kp hR;refine pY X5 (by
   rw[Al yH _];show ak _ A.in1 (yh (.ref S)>>=_) _ _ s;refine aq (yw gS rfl (?_:ak _ A.in1 (tryCatch (mH (.ref I)) _>>=_) _ _ s));refine aq (rR (W.item (j+1) s _ _ (by lia) st fun v h1 tk hv st1 ke=>?_));have gS1:=ke S _ nSw gS;have kp1:∀ b o,h0.get? b=some o->h1.get? b=some o:=fun b o e=>ke b o (old b o e).1 (kp b o e);obtain⟨x,hx,ix⟩:=hvr _ _ hv;obtain⟨y,hy,iy⟩:=hvr _ _ hi;(have lb:gM x y=ltAt r (j+1) (cL (ltAt r) j):=by rw[<-ei];simp[ltAt,hx,hy]);refine aq (m:=tryCatch (uz [v,v] (O8 .Lt v best>>=_)) _) (rR (kZ (aq (abr (ix.keep kp1) (iy.keep kp1) hun ?_))));refine aq (kZ (nO (aq (rP (aG ?_)))));rw[lb];cases hb:ltAt r (j+1) (cL (ltAt r) j) with
   |true=>
    simp only[if_true];refine aq (uI gS1 rfl (aq (rP ?_)));rw[nm];refine aG ⟨pW yH _,ih (j+1) _ v _ (by lia) (W.frame _ _ _ st1 fun b bf o e=>?_) ⟨j+1,aA _,hv,by simp only[cL,hb,if_true]⟩ (yN _ gS1 rfl) (fun b o e=>?_) fun v' h2 tk2 q ke2=>?_⟩
    .exact(nP _ _ (fun z:S=b=>nS (by rw[z];exact bf))).trans e
    .exact(nP _ _ (bL (old b o e).2)).trans (kp1 b o e)
    .exact hR v' h2 tk2 q fun b o nb nbS e=>ke2 b o nb nbS ((nP _ _ (bL nbS)).trans (ke b o nb e))
   |false=>simp only[cg,if_false];refine aq (rP ?_);rw[nm];refine aG ⟨pW yH _,ih (j+1) _ best c (by lia) st1 ⟨i,by lia,hi,by simp only[cL,hb,cg,if_false];exact ei⟩ gS1 kp1 fun v' h2 tk2 q ke2=>?_⟩;exact hR v' h2 tk2 q fun b o nb nbS e=>ke2 b o nb nbS (ke b o nb e))
theorem abF {I S:Addr} {fp wr:List Addr} {n:Nat} {St:Nat->Heap->Prop} {R:uy->aj->Prop} {h0:Heap} {vs:List Value} {r:List Itm} (W:Walks prog w A.in1 I fp wr n (fun i v=>vs[i]?=some v) St) (hvr:∀ (i:Nat) (v:Value),vs[i]?=some v->∃ x,r[i]?=some x/\IsItem h0 v x)
  (hun:A.in1.units<cLine) (nS:S∉fp) (old:∀ b o,h0.get? b=some o->b∉wr/\b≠S) (hn:0<n) {s:aj} {c:Nat} (st:St 0 s.heap) (gS:s.heap.get? S=some {cls:=.type "list",dict:=none,data:=.seq #[] c,slots:=#[]}) (kp:∀ b o,h0.get? b=some o->s.heap.get? b=some o)
  (hR:∀ v h' tk,vs[cL (ltAt r) (n -1)]?=some v->(∀ b o,b∉wr->b≠S->s.heap.get? b=some o->h'.get? b=some o)->R (.ok (.ret v)) {s with heap:=h',toks:=tk}):
  jK (aH prog w) A (.builtin "min.loop" ⟨[.ref I,.none,.ref S],[]⟩) R s:=by
 have nSw:S∉wr:=fun z=>nS (W.sub _ z);have nm:(toString "min"++toString ".loop":String)="min.loop":=by decide
 refine pY X5 (by
  rw[Al yH _];show ak _ A.in1 (yh (.ref S)>>=_) _ _ s;refine aq (yw gS rfl (?_:ak _ A.in1 (tryCatch (mH (.ref I)) _>>=_) _ _ s));refine aq (rR (W.item 0 s _ _ hn st fun v h1 tk hv st1 ke=>?_));have gS1:=ke S _ nSw gS;refine aq (m:=O2 S (fun _=>#[v,v])) (uI gS1 rfl ?_);rw[nm];refine aG ⟨pW yH _,af6 W hvr hun nS old (n -1) 0 _ v _ (by lia) (W.frame _ _ _ st1 fun b bf o e=>?_) ⟨0,aA _,hv,rfl⟩ (yN _ gS1 rfl) (fun b o e=>?_) fun v' h2 tk2 q ke2=>?_⟩
  .exact(nP _ _ (fun z:S=b=>nS (by rw[z];exact bf))).trans e
  .exact(nP _ _ (bL (old b o e).2)).trans (ke b o (old b o e).1 (kp b o e))
  .exact hR v' h2 tk2 q fun b o nb nbS e=>ke2 b o nb nbS ((nP _ _ (bL nbS)).trans (ke b o nb e)))
theorem abE {l:Addr} {vs:List Value} {r:List Itm} {s:aj} {Q:Value->aj->Prop} (hh:A.handled=none) (hl:s.heap.IsList l vs.toArray) (hvr:∀ (i:Nat) (v:Value),vs[i]?=some v->∃ x,r[i]?=some x/\IsItem s.heap v x) (hn:0<vs.length) (hun:A.in1.units<cLine)
  (h:∀ v h' tk,vs[cL (ltAt r) (vs.length -1)]?=some v->(∀ b o,s.heap.get? b=some o->h'.get? b=some o)->Q v {s with heap:=h',toks:=tk}):ak (aH prog w) A (call (.builtin "min") [.ref l]) Q E s:=by
 have nm:(toString "min"++toString ".loop":String)="min.loop":=by decide
 have hlt:l<s.heap.objs.size:=by obtain⟨o,e,_⟩:=hl;exact bW e
 refine call_function_tree F.kind_min F.plain_min F.entry_min (F.args_min1 _) ?_;refine aq (m:=QS "min" ["key","default"] 0 ⟨[],[]⟩) (Xb (show QS "min" ["key","default"] 0 ⟨[],[]⟩=pure [none,none]from rfl) (aq (aG ?_)));refine aq (Qn hl ?_);have W:=WX (prog:=prog) (w:=w) (A:=A.in1) hh s.heap.objs.size l (jf hlt) vs.toArray;refine aq (wZ ?_);rw[nm];have z1:(s.heap.push {cls:=.type "list_iterator",data:=.fields #[.ref l,.int 0 0]}).objs.size=s.heap.objs.size+1:=yx ..;have st0:(s.heap.push {cls:=.type "list_iterator",data:=.fields #[.ref l,.int 0 0]}).IsListIter s.heap.objs.size l 0/\(s.heap.push {cls:=.type "list_iterator",data:=.fields #[.ref l,.int 0 0]}).IsList l vs.toArray:=⟨⟨_,gU _ rfl,rfl,rfl⟩,hl.push _⟩;refine aG ⟨pW yH _,abF (h0:=s.heap) (vs:=vs) (r:=r) (n:=vs.length) (by simpa using W) hvr hun ?_ ?_ hn (by simpa using W.frame _ _ _ st0 fun b _ o e=>eV _ e) (gU _ rfl) ?_ fun v h' tk q ke=>?_⟩
 .intro z
  rw[z1]at z;rcases bC.mp z with z|z
  .exact absurd z (adZ _)
  .have z:=cH.mp z
   exact Nat.not_lt.mpr (yq s.heap.objs.size) (by rw[<-z]at hlt;exact hlt)
 .intro b o e
  have:=bW e;rw[z1];exact⟨fun z=>by rw[cH.mp z]at this;exact jg _ this,jf (Dy this)⟩
 .exact fun b o e=>eV _ (eV _ e)
 .refine h v h' tk q fun b o e=>ke b o ?_ ?_ (eV _ (eV _ e))
  .intro z;have q:=bW e;rw[cH.mp z]at q;exact jg _ q
  .rw[z1];exact jf (Dy (bW e))
end
theorem adf (l:Addr) (its:Array Value) (n:Nat) (x:Value) (p:Value->Bool) (j:Nat) (hj:j<its.size) (yes:p its[j]=true) (hz:its.size<=sizeLine):
  ∀ k i:Nat,i+k=j->(∀ m (hm:m<its.size),i<=m->m<j->p its[m]=false)->Oq (rJ.«list.remove.loop» ⟨[.ref l,x,mG i],[]⟩)
   (fun A R s=>s.heap.get? l=some {cls:=.type "list",dict:=none,data:=.seq its n,slots:=#[]}/\(∀ y,y∈its->CW A.in1 s y x (p y))/\R (.ok (.ret .none)) {s with heap:=s.heap.update l (ig fun xs=>xs.eraseIdxIfInBounds j)}):=by
 intro k;induction k with
 |zero=>
  intro i ij no prog w A R s hs;obtain⟨hq,g5,d5,t5,o5⟩:=s;obtain⟨gl,eq,hR⟩:=hs;obtain rfl:i=j:=by lia
  wp_walk using Fq gl
  have ai:its[((i:Nat):Int).toNat]?=some its[i]:=by simp[hj]
  rw[ai];refine aq (eq _ (aef hj) prog w _ _ ?_);rw[yes];have z2:(its.eraseIdxIfInBounds i).size<=sizeLine+1:=by have:=MeetsSeq.size_erased its i;lia
  wp_walk using(uI gl rfl (hz:=hz) (_hz':=z2)),Fq gl
  simpa using hR
 |succ k ih=>
  intro i ij no prog w A R s hs;obtain⟨hq,g5,d5,t5,o5⟩:=s;obtain⟨gl,eq,hR⟩:=hs;have li:i<its.size:=by lia
  wp_walk using Fq gl
  have ai:its[((i:Nat):Int).toNat]?=some its[i]:=by simp[li]
  have ci:((i:Int)+1)=((i+1:Nat):Int):=by lia
  rw[ai];refine aq (eq _ (aef li) prog w _ _ ?_);rw[no i li (aA _) (by lia)]
  wp_walk
  rw[ci];exact⟨pW QM _,pY afm (by rw[Al QM _];exact ih (i+1) (by lia) (fun m hm a b=>no m hm (by lia) b) prog w A R _ ⟨gl,eq,hR⟩)⟩
theorem adg (l:Addr) (its:Array Value) (n:Nat) (x:Value) (p:Value->Bool) (j:Nat) (hj:j<its.size) (yes:p its[j]=true) (no:∀ m (hm:m<its.size),m<j->p its[m]=false) (hz:its.size<=sizeLine):
  Oq (rJ.«list.remove» ⟨[.ref l,x],[]⟩)
   (fun A R s=>s.heap.get? l=some {cls:=.type "list",dict:=none,data:=.seq its n,slots:=#[]}/\(∀ y,y∈its->CW A.in1 s y x (p y))/\R (.ok (.ret .none)) {s with heap:=s.heap.update l (ig fun xs=>xs.eraseIdxIfInBounds j)}):=by
 intro prog w A R s hs;obtain⟨hq,g5,d5,t5,o5⟩:=s;obtain⟨gl,eq,hR⟩:=hs
 wp_walk using Fq gl
 exact⟨pW QM _,pY afm (by rw[Al QM _];exact adf l its n x p j hj yes hz j 0 (by lia) (fun m hm _ b=>no m hm b) prog w A R _ ⟨gl,eq,hR⟩)⟩
section
open PySem.SeqAt
theorem abV {prog:aZ} {w:aQ} {A:aL} {E:Value->aj->Prop} {s:aj} {l:Addr} {vs:List Value} {ns:List Int} {k:Int} {t:Tok} {Q:Value->aj->Prop} (hl:s.heap.IsList l vs.toArray) (hi:nU vs ns)
  (hb:ns.length<=sizeLine) (hk:k∈ns) (h:Q (.int (ns.idxOf k:Nat) s.toks) {s with toks:=s.toks+1}):
  ak (aH prog w) A (call (.builtin "list.index") [.ref l,.int k t]) Q E s:=by
 obtain⟨⟨cls,dd,data,sl⟩,ho,hc,n,hd⟩:=id hl;simp only at hc hd;subst hc hd;have hlen:=hi.length;have hj:ns.idxOf k<ns.length:=afh.mpr hk;rw[cY]at hb;refine jt YC ⟨_,ho,rfl⟩ afg (afl _ _)
  (list_indexAt l vs.toArray n dd sl (.int k t) (isInt k) (ns.idxOf k) (by simpa[hlen]using hj) (by lia) ?_ ?_) ⟨ho,fun y hy=>(eq_isInt k t hi y (by simpa using hy)).at _ _,h⟩
 .show isInt k vs[ns.idxOf k]=true
  rw[isInt_at k hi _ (by lia) hj];simpa using aev hj
 .intro j hjs hlt
  show isInt k vs[j]=false;rw[isInt_at k hi j (by simpa using hjs) (by lia)];exact ne_of_lt_idxOf hlt _
end
theorem argBest_lt (bt:Nat->Nat->Bool):∀ k,cL bt k<=k
 |0=>aA 0|k+1=>by have:=argBest_lt bt k;simp only[cL];split<;>lia
theorem p7 (r:List Itm):∀ k,∀ i,i<=k->ltAt r i (cL (ltAt r) k)=false
 |0,i,h=>by
  have:i=0:=by lia
  subst this;exact Bg _
 |k+1,i,h=>by
  simp only[cL];cases hb:ltAt r (k+1) (cL (ltAt r) k) with
  |true=>
   simp only[if_true];rcases Dn i (k+1)with q|q
   .have h1:=p7 r k i (by lia)
    have h2:=Nb r _ _ hb;exact yW r _ _ _ h2 h1
   .have:i=k+1:=by lia
    subst this;exact Bg _
  |false=>
   simp only[cg,if_false];rcases Dn i (k+1)with q|q
   .exact p7 r k i (by lia)
   .have:i=k+1:=by lia
    subst this;exact hb
theorem agO {r:List Itm} {y:Itm} (h:y∈r):∃ j:Nat,∃ hj:j<r.length,r[j]=y/\(∀ m (hm:m<r.length),m<j->r[m]≠y)/\r.erase y=r.eraseIdx j:=by
 refine⟨r.idxOf y,afh.mpr h,aev _,fun m hm hlt e=>?_,?_⟩
 .have:=List.not_of_lt_findIdx (p:=(·==y)) hlt
  simp[e]at this
 .rw[List.erase_eq_eraseIdx_of_idxOf rfl]
theorem M7 (f:α->β):∀ (l:List α) (j:Nat),(l.map f).eraseIdx j=(l.eraseIdx j).map f
 |[],j=>by simp|a::l,0=>by simp|a::l,j+1=>by simp[M7 f l j]
section
variable {X:Cx} {ρ:dH} {θ θ':Th} {μ μ':Mem} {s s1 s':aj} {k n:Nat} {ds:List D} {us:List Value} {Qd:QD} {Q XE:Value->aj->Prop} {d:D} {u v:Value} {m:String} {r:List Itm} {y:Itm} {h:Heap}
theorem J7 (rs:dh h θ μ (r.map aK) us) (i:Nat) (v:Value) (q:us[i]?=some v):∃ x,r[i]?=some x/\IsItem h v x:=by
 have hi:i<us.length:=(bT.mp q).1;have l1:=rs.length;have hr:i<r.length:=by simp at l1;lia
 obtain⟨u,e1,e2⟩:=rs.get (i:=i) (d:=aK r[i]) (by simp[hr]);rw[q]at e1;cases e1;exact⟨r[i],dw hr,Hh e2⟩
def isY (h:Heap) (y:Itm) (q:Value):Bool:=open Classical in decide (IsItem h q y)
theorem J8 (rs:dh h θ μ (r.map aK) us) (i:Nat) (hi:i<us.toArray.size):∃ hi':i<r.length,isY h y us.toArray[i]=decide (r[i]=y):=by
 have hi0:i<us.length:=by simpa using hi
 obtain⟨x,e1,e2⟩:=J7 rs i us[i] (dw hi0);have hi':i<r.length:=(bT.mp e1).1;rw[dw hi']at e1;cases e1;refine⟨hi',?_⟩;have e2:IsItem h us.toArray[i] r[i]:=by simpa using e2
 unfold isY;by_cases c:r[i]=y
 .rw[c]at e2
  rw[decide_eq_true c];exact @decide_eq_true _ (QH _) e2
 .rw[decide_eq_false c]
  exact @decide_eq_false _ (QH _) fun q=>c (J9 e2 q)
theorem agq {A:aL} (rs:dh s.heap θ μ (r.map aK) us) (iy:IsItem s.heap v y) (hun:A.units+1<cLine):∀ q∈us.toArray,CW A.in1 s q v (isY s.heap y q):=fun q hq=>by obtain⟨i,hi,rfl⟩:=Array.mem_iff_getElem.mp hq;obtain⟨hi',e⟩:=J8 (y:=y) rs i hi;obtain⟨x,e1,e2⟩:=J7 rs i us[i] (dw (by simpa using hi));rw[dw hi']at e1;cases e1;rw[e];exact ab4 (by simpa using e2) iy (by show A.units+1<cLine;lia)
theorem ahc (hc:X.calm=true) (hu:X.A.in1.units<cLine):OpA X (fun us=>call (.builtin "min") us) R7:=fun {s ρ θ μ ds us Qd Q E} i rr hw f=>by
 match ds,rr,hw with
 |[d],rr,hw=>
  obtain⟨u,rfl,rx⟩:=rr.jl;simp only[R7]at hw;split at hw
  .rename_i es hq
   obtain⟨it,rfl,hne,hw⟩:=hw;obtain⟨a,vs,rfl,pl,l,rs⟩:=jT i.dJ rx hq;have l1:=rs.length;simp only[aR]at l1;have hn:0<it.length:=Yn.mpr hne;refine abE (r:=it) (i.ok.hd hc) pl.isList (J7 rs) (by lia) hu fun w h' tk hw' ke=>?_;(have hk:cL (ltAt it) (vs.length -1)<it.length:=by have:=argBest_lt (ltAt it) (vs.length -1);lia);obtain⟨u,f1,f2⟩:=rs.get (i:=cL (ltAt it) (vs.length -1)) (d:=aK it[cL (ltAt it) (vs.length -1)]) (by simp[hk]);rw[hw']at f1;cases f1;refine f.hp i ke ((jU ke).rp f2) (hw _ (Qh hk) fun z hz'=>?_);obtain⟨i,hi,rfl⟩:=DN.mp hz';have:=p7 it (vs.length -1) i (by lia);simpa[ltAt,hi,hk]using this
  .exact hw.elim
theorem abA (hu:X.A.units+64<cLine):Mt X "list.remove" acB:=fun {s ρ θ μ x ds u us Qd Q E} i rd rs hw f=>by
 unfold acB at hw;split at hw
 .rename_i n
  split at hw
  .rename_i xs hn
   obtain⟨it,y,rfl,rfl,hy,hq⟩:=hw;obtain⟨p,vs,rfl,hp,h2,q,rr⟩:=Iv.lst i.dJ hn rd;obtain⟨w,rfl,rw'⟩:=rs.jl;have iy:=Hh rw';obtain⟨j,hj,ej,nj,ee⟩:=agO hy;have l1:=rr.length;simp only[aR]at l1;obtain⟨l,m,e⟩:=id q;obtain⟨q',kp⟩:=Wh q (g:=fun xs=>xs.eraseIdxIfInBounds j) (vs:=vs.eraseIdx j) (by rw[YT]) (by have:=List.length_eraseIdx_le vs j;lia);have r3:=rr.eraseIdx j;rw[M7,<-ee]at r3;obtain⟨i',g,_⟩:=i.akt (tk:=s.toks) hn hp h2 kp q' r3;refine jt afe ⟨_,e,rfl⟩ PySem.F.entry_list_remove (PySem.F.args_list_remove_2 _ _)
    (adg p.1 vs.toArray m w (isY s.heap y) j (by simp;lia) (by obtain⟨hi',e⟩:=J8 (y:=y) rr j (by simp;lia);rw[e];simp[ej]) (fun k hk lt=>by obtain⟨hi',e⟩:=J8 (y:=y) rr k hk;rw[e];simp[nj k hi' lt]) (by simpa using l)) ⟨e,agq rr iy (by lia),?_⟩
   exact f i' g CK hq
  .exact hw.elim
 .exact hw.elim
theorem Ut:∀ {ns:List Int} {us:List Value},dh h θ μ (ns.map D.int) us->nU us ns
 |[],_,r=>by cases r.nil_inv;exact .nil
 |n::ns,_,⟨u,r,e,⟨t,z⟩,y⟩=>by rw[e,z];exact .cons n t (Ut y)
theorem ahO {es:List D} (i:Iv X ρ θ μ s) (rd:Rp s.heap θ μ d u) (re:dh s.heap θ μ es us) (hw:acA m d es μ Qd):
  (∃ a vs ns k t,u= .ref a/\Iu s.heap a vs.toArray/\nU vs ns/\ns.length<=sizeLine/\us=[.int k t]/\ams m ns k μ Qd)∨(m="index"/\amt d es μ Qd):=by
 unfold acA at hw;split at hw
 .rename_i ns hb
  obtain⟨ds,q1,q2⟩:=bind_some hb
  match es,hw with
  |[.int k],hw=>obtain⟨w,rfl,⟨t,rfl⟩⟩:=re.jl;obtain⟨a,vs,rfl,pl,l,rs⟩:=jT i.dJ rd q1;have il:=rs.length;rw[ints_map q2,aR]at il;exact .inl ⟨a,vs,ns,k,t,rfl,pl,Ut (ints_map q2▸rs),by lia,rfl,hw⟩
 .exact .inr hw
theorem af5 (hu:X.A.units+64<cLine):Mt X "list.index" (wC "index"):=fun {s ρ θ μ x ds u us Qd Q E} i rd re hw f=>by
 rcases ahO (m:="index") i rd re hw with⟨a,vs,ns,k,t,rfl,pl,hi,hz,rfl,h1,h2⟩|⟨-,r,y,j,hl,rfl,ej,nj,hq⟩
 .exact abV pl.isList hi hz h1 (f.tok i jc h2)
 .obtain⟨a,vs,rfl,pl,l,rs⟩:=jT i.dJ rd hl
  obtain⟨w,rfl,rw'⟩:=re.jl;have iy:=Hh rw';obtain⟨⟨cls,dd,data,sl⟩,ho,hc,n,hd⟩:=id pl.isList;simp only at hc hd;subst hc hd;have l1:=rs.length;simp only[aR]at l1;have hj:j<r.length:=(bT.mp ej).1;rw[dw hj]at ej;cases ej;have hsl:=l;rw[cY]at hsl;refine jt YC ⟨_,ho,rfl⟩ afg (afl _ _)
   (list_indexAt a vs.toArray n dd sl w (isY s.heap r[j]) j (by simp;lia) (by lia) (by obtain⟨hi',e⟩:=J8 (y:=r[j]) rs j (by simp;lia);rw[e];simp) (fun k hk lt=>by obtain⟨hi',e⟩:=J8 (y:=r[j]) rs k hk;rw[e];have:=nj k lt;rw[dw hi']at this;exact decide_eq_false fun z=>this (by rw[z]))) ⟨ho,agq rs iy (by lia),f.tok i jc hq⟩
end
end DW
namespace DW
open PySem PySem.Spec PyProof.Rows PySem.SeqAt PySem.Builtin PySem.Builtin.Str
section
variable {X:Cx} {θ:Th} {μ:Mem} {us:List Value} {Qd:QD} {d:D} {u:Value} {m:String} {h:Heap}
theorem Hu {es:List D} (hm:m≠"join") (rd:Rp h θ μ d u) (re:dh h θ μ es us) (hw:Gp m d es μ Qd):
  ∃ t c t1 t2,u= .str ⟨d8 t⟩ t1/\t.length<=sizeLine/\us=[.str ⟨#[c]⟩ t2]/\acz m t c μ Qd:=by
 cases d with
 |str t=>
  obtain⟨⟨t1,rfl⟩,hl⟩:=rd;simp only[Gp]at hw;split at hw
  .rename_i c
   obtain⟨y1,rfl,⟨t2,rfl⟩,_⟩:=re.jl;exact⟨t,c,t1,t2,rfl,hl,rfl,hw⟩
  .split at hw
   .exact absurd hw.1 hm
   .exact hw.elim
  .exact hw.elim
 |_=>exact hw.elim
theorem Wd {a b:Str} (h:a.cps=b.cps):a=b:=by cases a;cases b;exact congrArg _ h
theorem Li:Mt X "str.startswith" (wC "startswith"):=fun {s ρ θ μ d e u us Qd Q E} i rd re hw f=>by
 obtain⟨t,c,t1,t2,rfl,hl,rfl,hq⟩:=Hu (by decide) rd re (show Gp "startswith" d e μ Qd from hw);refine call_gives adR (rN s _ t1) F.entry_str_startswith (F.args_str_startswith_2 _ _) (gives_str_startswith ⟨t.toArray⟩ ⟨#[c]⟩ t1 t2) ?_;have e:(decide (0+(⟨#[c]⟩:Str).length<=(⟨t.toArray⟩:Str).length)&&subAt ⟨t.toArray⟩ ⟨#[c]⟩ 0)=(t.head?==some c):=by have h1:=Jj ⟨t.toArray⟩ c 0;rw[PN];simp only[bM,decide_eq_true_eq,beq_iff_eq];rw[h1];simp[ae8]
 show Q (.bool _) s;rw[e];exact f.at i Tv hq
theorem CQ {h:Heap} {θ:Th} {μ:Mem}:∀ (ws:List Str) (t:Nat),(∀ w∈ws,w.length<=sizeLine)->dh h θ μ ((ws.map GK).map .str) (strsFrom t ws)
 |[],_,_=>.nil|w::ws,t,q=>.cons ⟨⟨t,rfl⟩,by simpa[GK,eN]using q w (by simp)⟩ (CQ ws (t+1) fun w hw=>q w (by simp[hw]))
theorem Ms (c:Nat):∀ (x:List Nat),∀ w∈cQ c x,w.length<=x.length
  |[],w,h=>by simp[cQ]at h;simp[h]| a::x,w,h=>by
    have ih:=Ms c x;unfold cQ at h;split at h
    . rcases bC.mp h with rfl|h
      . simp
      . have:=ih w h;simp;lia
    . cases q:cQ c x with
      | nil => rw[q]at h;have:w=[a]:=by simpa using h
               subst this;simp
      | cons p ps=>
        rw[q]at h ih;rcases bC.mp h with rfl|h
        . have:=ih p (by simp);simp;lia
        . have:=ih w (by simp[h]);simp;lia
theorem af4:Mt X "str.split" (wC "split"):=fun {s ρ θ μ d e u us Qd Q E} i rd re hw f=>by
 obtain⟨t,c,t1,t2,rfl,hl,rfl,⟨hc,hlt⟩,m,hq⟩:=Hu (by decide) rd re (show Gp "split" d e μ Qd from hw);have hlim:lim=sizeLine:=by rw[cY];rfl
 have self:c∉t->Q (.ref s.heap.objs.size) {s with heap:=s.heap.push {cls:=.type "list",data:=.seq [uH ⟨t.toArray⟩ t1].toArray}}:=fun hn=>by rw[vM hn]at hq;exact f.newL i c7 (aA _) (rA _ (by rw[cY];exact aeY rfl)).1 (.one (show Rp _ _ _ (.str t) _ from⟨⟨_,rfl⟩,hl⟩)) hq
 by_cases h1:(decide ((⟨t.toArray⟩:Str).length<(⟨#[c]⟩:Str).length)||decide (strKind ⟨t.toArray⟩<strKind ⟨#[c]⟩))=true
 .refine jt Pk (rN s _ t1) Yd (Yk _ _) (meets_str_split_cannot_occur ⟨t.toArray⟩ ⟨#[c]⟩ t1 t2 h1) ?_
  refine self ?_;have hk:strKind ⟨#[c]⟩=1:=by unfold aeI;rw[if_pos (by simp;exact hc)]
  have hk2:1<=strKind ⟨t.toArray⟩:=by unfold aeI;split<;>(try split)<;>decide
  have:t.length<1:=by
   rw[hk]at h1;simp only[yF,decide_eq_true_eq]at h1;rcases h1 with h1|h1
   .simpa[eN]using h1
   .lia
  have:t=[]:=Ao.mp (by lia);rw[this];simp
 .have h1':(decide ((⟨t.toArray⟩:Str).length<(⟨#[c]⟩:Str).length)||decide (strKind ⟨t.toArray⟩<strKind ⟨#[c]⟩))=false:=by simpa using h1
  by_cases hf:(Ja ⟨t.toArray⟩ ⟨#[c]⟩ 0 (⟨t.toArray⟩:Str).length ((⟨t.toArray⟩:Str).length+1)).isEmpty=true
  .refine jt Pk (rN s _ t1) Yd (Yk _ _) (meets_str_split_not_found ⟨t.toArray⟩ ⟨#[c]⟩ t1 t2 h1' rfl hf) ?_
   refine self ?_;intro hm;obtain⟨i,hi,e⟩:=aeH hm;rw[aas,List.isEmpty_iff]at hf;have:i∈R5 (⟨t.toArray⟩:Str).cps.toList c (fZ 0 ((⟨t.toArray⟩:Str).length+1)):=by unfold R5;rw[uJ];refine⟨by simp[adV,eN];lia,?_⟩;simp[e,hi]
   rw[hf]at this;cases this
  .have hf':(Ja ⟨t.toArray⟩ ⟨#[c]⟩ 0 (⟨t.toArray⟩:Str).length ((⟨t.toArray⟩:Str).length+1)).isEmpty=false:=by simpa using hf
   have hsp:=S7 ⟨t.toArray⟩ c;generalize hP:partsBetween ⟨t.toArray⟩ (Ja ⟨t.toArray⟩ ⟨#[c]⟩ 0 (⟨t.toArray⟩:Str).length ((⟨t.toArray⟩:Str).length+1)) (⟨#[c]⟩:Str).length=P at hsp;(have ht:GK (⟨t.toArray⟩:Str)=t:=by simp[GK]);rw[ht]at hsp;have hPl:P.length<=sizeLine:=by have h2:=congrArg dR hsp;have h3:=H8 c t;rw[aR]at h2;lia
   have hPw:∀ w∈P,w.length<=sizeLine:=fun w hw=>by (have:GK w∈cQ c t:=by rw[<-hsp];exact j9.mpr ⟨w,hw,rfl⟩);have:=Ms c t _ this;(have e2:(GK w).length=w.length:=by simp[GK,eN]);lia
   refine jt Pk (rN s _ t1) Yd (Yk _ _) (meets_str_split_sep ⟨t.toArray⟩ ⟨#[c]⟩ t1 t2 h1' rfl hf' (by simpa[eN]using hl) (by rw[hP];exact hPl)) ?_;rw[hP];rw[<-hsp]at hq;exact f.newL i c7 (aA _) (rA _ (by rw[(CQ (h:=s.heap) (θ:=θ) (μ:=μ) P s.toks hPw).length];simpa using hPl)).1 (CQ P s.toks hPw) hq
theorem Q5:Mt X "str.partition" (wC "partition"):=fun {s ρ θ μ d e u us Qd Q E} i rd re hw f=>by
 obtain⟨t,c,t1,t2,rfl,hl,rfl,hq⟩:=Hu (by decide) rd re (show Gp "partition" d e μ Qd from hw);refine jt adN (rN s _ t1) F.entry_str_partition (F.args_str_partition_2 _ _) (meets_str_partition ⟨t.toArray⟩ ⟨#[c]⟩ t1 t2 rfl (by simpa[eN]using hl)) ?_;have mk:∀ (a b z:List Nat) (t1 t2 t3 tk:Nat),a.length<=sizeLine->b.length<=sizeLine->z.length<=sizeLine->Qd (.tup [.str a,.str b,.str z]) μ->
   Q (.ref s.heap.objs.size) {s with toks:=tk,heap:=s.heap.push {cls:=.type "tuple",data:=.seq [.str ⟨a.toArray⟩ t1,.str ⟨b.toArray⟩ t2,.str ⟨z.toArray⟩ t3].toArray}}:=fun a b z t1 t2 t3 tk ha hb hz q=>
  f.sq (j:=0) i c7 (aA _) (rA _ (by rw[cY];exact aeY rfl)).2 (.cons (show Rp _ _ _ (.str a) _ from⟨⟨_,rfl⟩,ha⟩) (.cons (show Rp _ _ _ (.str b) _ from⟨⟨_,rfl⟩,hb⟩) (.one (show Rp _ _ _ (.str z) _ from⟨⟨_,rfl⟩,hz⟩)))) q
 have one:(1:Nat)<=sizeLine:=by rw[cY];decide
 unfold acz at hq;simp only at hq;rcases StrLaws.occ_head ⟨t.toArray⟩ ⟨#[c]⟩ 1 (aA _)with⟨e,hn⟩|⟨j,r,e,hi,hn⟩
 .rw[e]
  have hc:c∉t:=fun hm=>by obtain⟨j,hi,e⟩:=aeH hm;exact hn j ((Jj ⟨t.toArray⟩ c j).mpr (by simp[e,hi]))
  rw[if_neg hc]at hq;exact mk t [] [] _ _ _ _ hl (by simp) (by simp) hq
 .rw[e]
  have hci:=(Jj ⟨t.toArray⟩ c j).mp hi;have hcn:∀ k,k<j->t[k]?≠some c:=fun k hk z=>hn k hk ((Jj ⟨t.toArray⟩ c k).mpr (by simpa using z));have am3:t[j]?=some c:=by simpa using hci
  obtain⟨p1,p2⟩:=afI t j am3 hcn;have hc:c∈t:=pC am3;rw[if_pos hc,p1,p2]at hq;have e1:yd (⟨t.toArray⟩:Str) 0 j=⟨(t.take j).toArray⟩:=by apply Wd;apply yI.mp;rw[XJ];simp
  have e2:yd (⟨t.toArray⟩:Str) (j+(⟨#[c]⟩:Str).length) (⟨t.toArray⟩:Str).length=⟨(t.drop (j+1)).toArray⟩:=by apply Wd;apply yI.mp;rw[XJ];show(t.drop (j+1)).take (t.length -(j+1))=t.drop (j+1);rw[uw (by simp)]
  show Q (.ref s.heap.objs.size) {s with toks:=s.toks+1+1,heap:=s.heap.push {cls:=.type "tuple",data:=.seq [.str (yd ⟨t.toArray⟩ 0 j) s.toks,.str ⟨#[c]⟩ t2,.str (yd ⟨t.toArray⟩ (j+(⟨#[c]⟩:Str).length) (⟨t.toArray⟩:Str).length) (s.toks+1)].toArray}};rw[e1,e2];exact mk (t.take j) [c] (t.drop (j+1)) _ _ _ _ (by simp;lia) (by simpa using one) (by simp;lia) hq
theorem aaf {h:Heap} {θ:Th} {μ:Mem}:∀ {ds:List D} {us:List Value} {ws:List (List Nat)},dh h θ μ ds us->zY ds=some ws->(∀ w∈ws,w.length<=sizeLine)/\∃ l:List (Str×Tok),us=strValues l/\l.map (·.1)=ws.map (fun w=>(⟨w.toArray⟩:Str))
 |[],us,ws,r,q=>by simp[zY]at q;subst q;exact⟨by simp,[],r.nil_inv,rfl⟩|d::ds,us,ws,⟨u,r,e,x,y⟩,q=>by
  cases d with
  |str z=>
   simp only[zY]at q;cases k:zY ds with
   |none=>rw[k]at q;cases q
   |some ws' =>
    rw[k]at q;cases q;obtain⟨⟨t,rfl⟩,hl⟩:=x;obtain⟨h2,l,rfl,el⟩:=aaf y k;refine⟨fun w hw=>?_,(_,t)::l,e,by simp[el]⟩;rcases bC.mp hw with e|hw
    .rw[e];exact hl
    .exact h2 w hw
  |_=>cases q
theorem aiu:Mt X "str.join" (wC "join"):=fun {s ρ θ μ d e u us Qd Q E} i rd re hw f=>by
 have hw:Gp "join" d e μ Qd:=hw;cases d with
 |str t=>
  obtain⟨⟨t1,rfl⟩,hl⟩:=rd;simp only[Gp]at hw;split at hw
  .exact(show False from hw).elim
  .rename_i d2 hd2 _
   split at hw
   .rename_i ws hb
    obtain⟨-,hsz,hq⟩:=hw;obtain⟨u,rfl,ru⟩:=re.jl;cases q:cC μ d2 with
    |none=>rw[q]at hb;cases hb
    |some ds=>
     rw[q]at hb;obtain⟨a,us,rfl,pl,hz,rs⟩:=jT i.dJ ru q;obtain⟨hws,l,rfl,el⟩:=aaf rs hb;(have hlim:lim=sizeLine:=by rw[cY];rfl);have htot:((l.map (·.1)).map (·.length)).sum=(ws.map dR).sum:=by rw[el,jN];congr 1
     (have hln:l.length=ws.length:=by have:=congrArg dR el;simpa using this);have hfit:Wx ((l.map (·.1)).toArray.foldl (·+·.length+(⟨t.toArray⟩:Str).length) 0)=false:=by rw[StrLaws.joinTotal,htot,aR,hln];unfold Wx;(have:(⟨t.toArray⟩:Str).length=t.length:=by simp[eN]);rw[this];exact decide_eq_false (by have:=cY;lia)
     refine jt ady (rN s _ t1) F.entry_str_join (F.args_str_join_2 _ _) (meets_str_join_list ⟨t.toArray⟩ t1 a l hfit) ⟨pl.isList,?_⟩;have hcp:∀ ws:List (List Nat),(ws.map (fun w=>(⟨w.toArray⟩:Str))).map GK=ws:=fun ws=>by (rw[jN];conv=>rhs;rw[<-List.map_id ws]);exact Jt fun w _=>by simp[GK]
     have hjl:∀ (t:List Nat) (ws:List (List Nat)),(dW t ws).length<=(ws.map dR).sum+ws.length*t.length:=by
      intro t ws;induction ws with
      |nil=>simp[dW]|cons w r ih=>
       cases r with
       |nil=>simp[dW]|cons v r=>simp only[dW,eO,aX,yu,bh,ado]at ih ⊢;lia
     have key:glued ⟨t.toArray⟩ (l.map (·.1))=⟨(dW t ws).toArray⟩:=by rw[StrLaws.glued_eq_join,el];apply Wd;apply yI.mp;have:=Ul ⟨t.toArray⟩ (ws.map (fun w=>(⟨w.toArray⟩:Str)));rw[hcp]at this;simpa[GK]using this
     have hlen:(dW t ws).length<=sizeLine:=gD (hjl t ws) (by lia);have fin:Q (.str ⟨(dW t ws).toArray⟩ s.toks) {s with toks:=s.toks+1}:=f.tok i (xY hlen) hq
     match l,key,el with
     |[],key,_=>exact⟨by rw[key];simpa[eN]using hlen,by rw[key];exact fin⟩|[p],key,el=>
      have:ws=[p.1.cps.toList]:=by have:=congrArg (List.map GK) el;rw[hcp]at this;simpa[GK]using this.symm
      subst this;(have e1:p.1=⟨(dW t [p.1.cps.toList]).toArray⟩:=by simp[dW]);show Q (.str p.1 p.2) s;exact f.at i (show Rp _ _ _ (.str _) _ from⟨⟨p.2,by rw[<-e1]⟩,hlen⟩) hq
     |p::p2::r,key,_=>exact⟨by rw[key];simpa[eN]using hlen,by rw[key];exact fin⟩
   .exact hw.elim
  .exact hw.elim
 |_=>exact hw.elim
end
end DW
namespace DW
open PySem PySem.Spec PyProof.Rows
open L2 (aP Key frs wz Loc Look Mod tL cG Cls je)
structure ahm (X:Cx) (θ:Th) (μ:Mem) (s:aj) (Z:j6) (Q:Flow->aj->Prop) (E:Value->aj->Prop):Prop where
 nx:∀ {ρ' s' θ' μ'},Iv X ρ' θ' μ' s'->GS X θ μ s θ' μ' s'->Z.nx ρ' μ'->Q .next s'
 bk:∀ {ρ' s' θ' μ'},Iv X ρ' θ' μ' s'->GS X θ μ s θ' μ' s'->Z.bk ρ' μ'->Q .brk s'
 ct:∀ {ρ' s' θ' μ'},Iv X ρ' θ' μ' s'->GS X θ μ s θ' μ' s'->Z.ct ρ' μ'->Q .cont s'
 rt:∀ {ρ' d u s' θ' μ'},Iv X ρ' θ' μ' s'->GS X θ μ s θ' μ' s'->Rp s'.heap θ' μ' d u->Z.rt d μ'->Q (.ret u) s'
 xc:∀ {ρ' c ks ds e s' θ' μ'},Iv X ρ' θ' μ' s'->GS X θ μ s θ' μ' s'->Gm X.T X.stack s θ' μ' s' c ks ds e->Z.xc ρ' c ks ds μ'->E e s'
noncomputable abbrev WS:=j6->dH->Mem->Prop
def PS (X:Cx) (st:Stmt) (w:WS):Prop:=∀ {s ρ θ μ Z Q E},PassesOwn X.M X.A X.env E->Iv X ρ θ μ s->w Z ρ μ->ahm X θ μ s Z Q E->ak X.M X.A (exec st X.env) Q E s
def VB (X:Cx) (st:List Stmt) (w:WS):Prop:=∀ {s ρ θ μ Z Q E},PassesOwn X.M X.A X.env E->Iv X ρ θ μ s->w Z ρ μ->ahm X θ μ s Z Q E->ak X.M X.A (execs st X.env) Q E s
section
variable {X:Cx} {ρ:dH} {θ θ1 θ':Th} {μ μ1 μ':Mem} {s s1 s':aj} {h':Heap} {tk:Nat} {j n:Nat} {ds:List D} {Qd:QD} {Q:Value->aj->Prop} {E:Value->aj->Prop} {Qs:Flow->aj->Prop} {Z:j6} {x:Str} {p p2 pos tpos:Pos} {a b c e o i:Expr} {wa wb we wo wi:WE} {wt:WT} {ws w1 w2:WS} {d:D} {u v:Value} {T:Top} {A:aL} {stack:List Env} {ad:Addr} {st:Stmt} {body rest orelse:List Stmt}
theorem ahm.mono (f:ahm X θ μ s Z Qs E) (g:GS X θ μ s θ1 μ1 s1):ahm X θ1 μ1 s1 Z Qs E:=
 ⟨fun i g'=>f.nx i (g.trans g'),fun i g'=>f.bk i (g.trans g'),fun i g'=>f.ct i (g.trans g'),fun i g'=>f.rt i (g.trans g'),fun i g' fl=>f.xc i (g.trans g') (fl.mono g.there)⟩
theorem E0.own (e:E0 T A stack θ μ s) (sb:∀ b o,b≠ad->s.heap.get? b=some o->h'.get? b=some o) (hb:T.base.get? ad=none) (la:¬pN θ μ ad)
  (ha:∀ o,s.heap.get? ad=some o->¬Fix o/\∃ o',h'.get? ad=some o'/\∀ es ep,o.data= .dict es ep->∃ es' ep',o'.data= .dict es' ep'):E0 T A stack θ μ {s with heap:=h',toks:=tk} where
 mod:=e.mod
 frames:=e.frames
 bare:=e.bare
 bs:=fun b o q=>let⟨e1,l⟩:=e.bs b o q;⟨sb b o (fun z=>by rw[z,hb]at q;cases q) e1,l⟩
 stk:=fun v m=>by
  obtain⟨k,L,o,es,ep,f,nb,ho,hd,l⟩:=e.stk v m;by_cases z:L=ad
  .subst z
   obtain⟨_,o',ho',q⟩:=ha o ho;obtain⟨es',ep',hd'⟩:=q es ep hd;exact⟨k,L,o',es',ep',f,nb,ho',hd',l⟩
  .exact⟨k,L,o,es,ep,f,nb,sb L o z ho,hd,l⟩
 dJ:=e.dJ.mono ⟨fun _ _ e=>e,fun b o q f l=>⟨sb b o (fun z=>by subst z;exact(ha o q).1 f) q,l⟩⟩ (fun b o l q=>sb b o (fun z=>la (z▸l)) q) fun b z=>by
  obtain⟨o,q⟩:=e.dJ.bnd b (.inl z);by_cases y:b=ad
  .subst y;exact let⟨_,o',q',_⟩:=ha o q;⟨o',q'⟩
  .exact⟨o,sb b o y q⟩
 hh:=e.hh
theorem ajD (k:X.own ad) (sb:∀ b o,b≠ad->s.heap.get? b=some o->h'.get? b=some o) (th:∃ o',h'.get? ad=some o'):GS X θ μ s θ μ {s with heap:=h',toks:=tk}:=
 ⟨fun _ _ e=>e,fun b o e l v=>⟨l,o.slots,sb b o (fun z=>v (z▸k)) e,fun _=>rfl⟩,fun b o e=>by
  by_cases z:b=ad
  .subst z;exact th
  .exact⟨o,sb b o z e⟩,fun _ _ e _=>e,rfl,.rfl⟩
theorem agg (sb:∀ b o,b≠ad->s.heap.get? b=some o->h'.get? b=some o) (nf:∀ o,s.heap.get? ad=some o->¬Fix o):Kp θ μ s.heap θ μ h':=⟨fun _ _ e=>e,fun b o e f l=>⟨sb b o (fun z=>nf o (z▸e) f) e,l⟩⟩
theorem ou {o:Obj} {es ep} (h:o.data= .dict es ep):¬Fix o:=fun f=>by rcases f with⟨_,_,f⟩|⟨_,_,f⟩<;>rw[h]at f<;>cases f
theorem yR {o:Obj} {v} (h:o.data= .cell v):¬Fix o:=fun f=>by rcases f with⟨_,_,f⟩|⟨_,_,f⟩<;>rw[h]at f<;>cases f
theorem RM {h:Heap} {a c:Addr} {m:Str->Option Value} {v:Option Value} (hn:h.Ns a m) (hc:h.IsCell c v):c≠a:=fun z=>by subst z;obtain⟨o,_,_,e,d,_⟩:=hn;obtain⟨o',e',d'⟩:=hc;rw[e]at e';cases e';rw[d]at d';cases d'
theorem Iv.kpS (i:Iv X ρ θ μ s) (g:GS X θ μ s θ1 μ1 s1):Kp θ μ s.heap θ1 μ1 s1.heap:=g.kp fun b o q f=>⟨fun z=>by
 rcases z with rfl|⟨x,_,hc⟩
 .obtain⟨m,⟨o',_,_,e,d,_⟩,_⟩:=i.loc
  rw[q]at e;cases e;exact ou d f
 .obtain⟨⟨v,o',e,d⟩,_⟩:=i.cell x b hc
  rw[q]at e;cases e;exact yR d f,i.e.nfr q f⟩
theorem zZ {R:Unit->aj->Prop} (I:Iv X ρ θ μ s) (hN:X.N.Nodup) (hi:X.N[j]?=some x) (hx:Sto X x) (r:Rp s.heap θ μ d u) (f:∀ {s'},Iv X (ρ.set j (some d)) θ μ s'->GS X θ μ s θ μ s'->R () s'):ak X.M X.A (storeName X.env x u) R E s:=by
 obtain⟨m,hn,hl⟩:=id I.loc;have hj:j<ρ.length:=by rw[I.len];exact(bT.mp hi).1
 obtain⟨oL,esL,epL,eL,dL,_⟩:=id hn;rcases hx with hk|⟨hk,hoc⟩
 .refine wpAny_storeName_local hk hn (fun h' hn' hs=>?_) (by rw[I.ok.kind];rfl)
  obtain⟨o',es',ep',e',d',_⟩:=id hn';have sb:∀ b o,b≠X.env.locals->s.heap.get? b=some o->h'.get? b=some o:=fun b o z q=>(hs.2 b z).trans q;have kp:Kp θ μ s.heap θ μ h':=agg sb fun o q=>by rw[eL]at q;cases q;exact ou dL
  refine f ⟨I.ok,I.e.own sb I.ok.nbL I.nl fun o q=>by rw[eL]at q;cases q;exact⟨ou dL,o',e',fun _ _ _=>⟨es',ep',d'⟩⟩,⟨_,hn',fun k y d' e1 e2 e3=>?_⟩,fun y c q=>?_,I.nl,by simpa using I.len⟩ (ajD (.inl rfl) sb ⟨o',e'⟩)
  .by_cases z:k=j
   .subst z
    rw[hi]at e1;cases e1;rw[eU hj]at e2;cases e2;exact⟨u,kp.rp r,.inl ⟨hk,by simp⟩⟩
   .rw[cU (bL z)]at e2
    obtain⟨u',r',q⟩:=hl k y d' e1 e2 e3;refine⟨u',kp.rp r',?_⟩;rcases q with⟨k1,e⟩|⟨k1,c,e,w⟩
    .have:y≠x:=fun q=>z (L2.Tz hN e1 (q▸hi))
     exact .inl ⟨k1,by simp[this,e]⟩
    .exact .inr ⟨k1,c,e,w.sameBut hs (RM hn w)⟩
  .obtain⟨⟨v,w⟩,l⟩:=I.cell y c q
   exact⟨⟨v,w.sameBut hs (RM hn w)⟩,l⟩
 .obtain⟨c,hc⟩:=I.ok.has x (.inl hk)
  obtain⟨⟨v0,wc⟩,lc⟩:=I.cell x c hc;refine wpAny_storeName_cell I.ok.kind hk hc wc fun h' wc' hs=>?_;obtain⟨oc,ec,dc⟩:=id wc;obtain⟨o',e',d'⟩:=id wc';have sb:∀ b o,b≠c->s.heap.get? b=some o->h'.get? b=some o:=fun b o z q=>(hs.2 b z).trans q;have kp:Kp θ μ s.heap θ μ h':=agg sb fun o q=>by rw[ec]at q;cases q;exact yR dc
  refine f (s':={s with heap:=h' }) ⟨I.ok,I.e.own (tk:=s.toks) sb (I.ok.nbC x c hc) lc fun o q=>by rw[ec]at q;cases q;exact⟨yR dc,o',e',fun _ _ z=>by rw[dc]at z;cases z⟩,⟨_,hn.at fun o q=>sb _ o (bL (RM hn wc)) q,fun k y d' e1 e2 e3=>?_⟩,fun y c' q=>?_,I.nl,by simpa using I.len⟩ (ajD (tk:=s.toks) (.inr ⟨x,hoc,hc⟩) sb ⟨o',e'⟩)
  .by_cases z:k=j
   .subst z
    rw[hi]at e1;cases e1;rw[eU hj]at e2;cases e2;exact⟨u,kp.rp r,.inr ⟨.inl hk,c,hc,wc'⟩⟩
   .rw[cU (bL z)]at e2
    obtain⟨u',r',q⟩:=hl k y d' e1 e2 e3;refine⟨u',kp.rp r',?_⟩;rcases q with⟨k1,e⟩|⟨k1,c',e,w⟩
    .exact .inl ⟨k1,e⟩
    .refine .inr ⟨k1,c',e,w.sameBut hs fun q=>?_⟩
     subst q;exact z (L2.Tz hN e1 (I.ok.inj x y c' hc e▸hi))
  .obtain⟨⟨v,w⟩,l⟩:=I.cell y c' q
   refine⟨?_,l⟩;by_cases z:c'=c
   .subst z;exact⟨_,wc'⟩
   .exact⟨v,w.sameBut hs z⟩
theorem Iv.quiet (i:Iv X ρ θ μ s):O9 X.env=false:=by simp[O9,i.ok.kind]
theorem ah0:VB X [] (fun Z ρ μ=>Z.nx ρ μ):=fun _ i h f=>PL (f.nx i .refl h)
theorem afE (h1:PS X st w1) (h2:VB X rest w2):VB X (st::rest) (fun Z ρ μ=>w1 {Z with nx:=fun ρ' μ'=>w2 Z ρ' μ' } ρ μ):=fun hp i h f=>wpAny_execs_cons (h1 hp i h ⟨fun i1 g1 q=>h2 hp i1 q (f.mono g1),f.bk,f.ct,f.rt,f.xc⟩)
theorem akZ (he:PE X e we) (hs:yg e none pos.line X.env=pure false):PS X (.Expr e pos) (fun Z ρ μ=>we ρ μ fun _ μ1=>Z.nx ρ μ1):=fun hp i h f=>wpAny_Expr_any (he i h fun i1 g1 _ q=>f.nx i1 g1.gs q) i.quiet hs
theorem akX (he:PE X e we):PS X (.Return (some e) pos) (fun Z ρ μ=>we ρ μ Z.rt):=fun hp i h f=>aee (he i h fun i1 g1 r q=>f.rt i1 g1.gs r q)
theorem amG (hc:PT X c wt) (ha:VB X body w1) (hb:VB X orelse w2):PS X (.If c body orelse pos) (fun Z ρ μ=>wt ρ μ fun t μ1=>if t=true then w1 Z ρ μ1 else w2 Z ρ μ1):=fun hp i h f=>
 wpAny_If (hc i h fun {d u s1 θ1 μ1} i1 g1 r1 h1=>by
  cases r1;cases d with
  |true=>exact ha hp i1 h1 (f.mono g1.gs)|false=>exact hb hp i1 h1 (f.mono g1.gs))
theorem akW (hc:PT X c wt) (hb:VB X body w1):PS X (.While c body [] pos) (fun Z ρ μ=>∃ W:Nat->dH->Mem->Prop,(∃ m,W m ρ μ)/\∀ m ρ μ,W m ρ μ->wt ρ μ fun t μ1=>if t=true then w1 {Z with nx:=fun ρ' μ'=>∃ m',m' <m/\W m' ρ' μ',ct:=fun ρ' μ'=>∃ m',m' <m/\W m' ρ' μ',bk:=Z.nx} ρ μ1 else Z.nx ρ μ1):=fun {s ρ θ μ Z Q E} hp i h f=>by
 obtain⟨W,⟨m0,w0⟩,turn⟩:=h;refine wpAny_While (codeAny_whileLoop (fun n s'=>∃ ρ' θ' μ',Iv X ρ' θ' μ' s'/\GS X θ μ s θ' μ' s'/\W n ρ' μ') ?_ m0 ⟨ρ,θ,μ,i,.refl,w0⟩);rintro n s1 ⟨ρ1,θ1,μ1,i1,g1,q1⟩;refine yE hp (hc i1 (turn n ρ1 μ1 q1) fun {t t' s2 θ2 μ2} i2 g2 r2 h2=>?_);cases r2;have g12:=g1.trans g2.gs;cases t with
 |true=>rw[if_pos rfl];refine yE hp (hb hp i2 h2 ?_);have f2:=f.mono g12;exact⟨fun i3 g3 ⟨m',hm,q⟩=>⟨m',hm,_,_,_,i3,g12.trans g3,q⟩,fun i3 g3 q=>f2.nx i3 g3 q,fun i3 g3 ⟨m',hm,q⟩=>⟨m',hm,_,_,_,i3,g12.trans g3,q⟩,f2.rt,f2.xc⟩|false=>rw[if_neg fH];exact PL (f.nx i2 g12 h2)
def PG (X:Cx) (tg:Expr) (bnd:D->dH->(dH->Prop)->Prop):Prop:=∀ {s:aj} {ρ:dH} {θ:Th} {μ:Mem} {d:D} {u:Value} {k:dH->Prop} {R:Unit->aj->Prop} {E:Value->aj->Prop},Iv X ρ θ μ s->Rp s.heap θ μ d u->bnd d ρ k->
 (∀ {ρ' s'},Iv X ρ' θ μ s'->GS X θ μ s θ μ s'->k ρ'->R () s')->ak X.M X.A (rH tg X.env u) R E s
theorem aib (hN:X.N.Nodup) (hi:X.N[j]?=some x) (hx:Sto X x):PG X (.Name x pos) (fun d ρ k=>fB [j] false d ρ k):=fun i r h f=>Yc (zZ i hN hi hx r fun i1 g1=>f i1 g1 h)
def PGs (X:Cx) (ts:List Expr) (is:List Nat):Prop:=∀ {s:aj} {ρ:dH} {θ:Th} {μ:Mem} {ds:List D} {us:List Value} {k:dH->Prop} {R:Unit->aj->Prop} {E:Value->aj->Prop},Iv X ρ θ μ s->dh s.heap θ μ ds us->ds.length=is.length->
 k ((is.zip ds).foldl (fun r p=>r.set p.1 (some p.2)) ρ)->(∀ {ρ' s'},Iv X ρ' θ μ s'->GS X θ μ s θ μ s'->k ρ'->R () s')->ak X.M X.A (assignInOrder ((rM ts X.env).map (·.2)) us) R E s
theorem aia:PGs X [] []:=fun {s ρ θ μ ds us k R E} i r l h f=>by cases(show ds=[] by simpa using l);cases r.nil_inv;exact assignInOrder_nil (f i .refl (by simpa using h))
theorem afL {ts:List Expr} {is:List Nat} (hN:X.N.Nodup) (hi:X.N[j]?=some x) (hx:Sto X x) (hr:PGs X ts is):PGs X (.Name x pos::ts) (j::is):=fun {s ρ θ μ ds us k R E} i r l h f=>by
 cases ds with
 |nil=>simp at l|cons d ds=>
  obtain⟨u,us,rfl,r1,r2⟩:=r;show ak _ _ (assignInOrder (rH (.Name x pos) X.env::(rM ts X.env).map (·.2)) (u::us)) _ _ _
  refine assignInOrder_cons (Yc (zZ i hN hi hx r1 fun {s1} i1 g1=>hr (k:=k) i1 (?_:dh s1.heap θ μ ds us) (by simpa using l) (by simpa using h) fun i2 g2 q=>f i2 (g1.trans g2) q));exact(i.kpS g1).Gr r2
theorem ak4 {ts:List Expr} {is:List Nat} {k} (hc:X.calm=true) (h:PGs X ts is) (hn:(rM ts X.env).length=is.length) (hst:(rM ts X.env).findIdx? (·.1)=none):PG X (.Tuple ts k pos) (fun d ρ k=>fB is true d ρ k):=fun {s ρ θ μ d u kk R E} i r hw f=>by
 unfold fB at hw;split at hw
 .rename_i q;cases q
 .split at hw
  .obtain⟨a,us,rfl,x,l,rs⟩:=r
   refine assign_Tuple_tuple (i.ok.hd hc) (gA x) (by rw[hn,<-hw.1];simpa using rs.length.symm) hst fun h' hx=>?_;have ke:∀ b o,s.heap.get? b=some o->h'.get? b=some o:=fun b o e=>hx b o (jf (bW e)) e;have i1:Iv X ρ θ μ {s with heap:=h' }:=i.kept (tk:=s.toks) ke;exact h i1 ((jU ke).Gr rs) hw.1 hw.2 fun i2 g2 q=>f i2 ((cW (tk:=s.toks) ke).trans g2) q
  .exact hw.elim
end
end DW
namespace DW
open PySem PySem.Spec PyProof.Rows
open L2 (aP Key frs wz Loc Look Mod tL cG Cls je)
section
variable {X:Cx} {ρ:dH} {θ θ1 θ':Th} {μ μ1 μ':Mem} {s s1 s':aj} {j n:Nat} {Q:Value->aj->Prop} {E:Value->aj->Prop} {Z:j6} {x:Str} {p p2 pos pos' tpos:Pos} {a b e o i value tg:Expr} {wa wb we wo wi:WE} {d dp dq:D} {u v:Value} {C:Addr} {c m:String} {op:jL} {K:D->Prop} {bnd:D->dH->(dH->Prop)->Prop}
theorem afG (hN:X.N.Nodup) (hi:X.N[j]?=some x) (hx:Sto X x) (he:PE X e we) (hs:yg e (some (.Name x pos')) pos.line X.env=pure false):PS X (.Assign [.Name x pos'] e pos) (fun Z ρ μ=>we ρ μ fun d μ1=>Z.nx (ρ.set j (some d)) μ1):=fun _ i h f=>wpAny_Assign_Name (he i h fun i1 g1 r1 h1=>zZ i1 hN hi hx r1 fun i2 g2=>f.nx i2 (g1.gs.trans g2) h1) hs
theorem ak0 (he:PE X e we) (hg:PG X tg bnd) (hs:swapsWithSole [tg] e pos.line X.env=pure false) (hw:Xl [tg] e X.env=pure none) (h1:(rM [tg] X.env).map (·.2)=[rH tg X.env]):
  PS X (.Assign [tg] e pos) (fun Z ρ μ=>we ρ μ fun d μ1=>bnd d ρ fun ρ'=>Z.nx ρ' μ1):=fun _ i h f=>by
 refine wpAny_Assign_stores (he i h fun i1 g1 r1 q1=>?_) hs hw;rw[h1];exact hg i1 r1 q1 fun i2 g2 q2=>f.nx i2 (g1.gs.trans g2) q2
theorem afF {ahv:D->D->D->Mem->(Mem->Prop)->Prop} (alN:∀ {s ρ θ μ x y z u v w K R E},Iv X ρ θ μ s->Rp s.heap θ μ x u->Rp s.heap θ μ y v->Rp s.heap θ μ z w->ahv x y z μ K->(∀ {s' μ'},Iv X ρ θ μ' s'->G0 X θ μ s θ μ' s'->K μ'->R () s')->ak X.M X.A (IV u v w) R E s)
  (ho:PE X o wo) (hi:PE X i wi) (hv:PE X value we) (hs:yg value (some (.Subscript o i pos')) pos.line X.env=pure false):
  PS X (.Assign [.Subscript o i pos'] value pos) (fun Z ρ μ=>we ρ μ fun v μ1=>wo ρ μ1 fun x μ2=>wi ρ μ2 fun y μ3=>ahv x y v μ3 fun μ4=>Z.nx ρ μ4):=fun _ i h f=>
 wpAny_Assign_Subscript (hv i h fun i1 g1 r1 h1=>ho i1 h1 fun i2 g2 r2 h2=>hi i2 h2 fun i3 g3 r3 h3=>alN i3 ((i2.kp g3).rp r2) r3 ((i1.kp (g2.trans g3)).rp r1) h3 fun i4 g4 h4=>f.nx i4 (((g1.trans g2).trans g3).trans g4).gs h4) hs
theorem ahd (rp:Rp s.heap θ μ dp u) (rq:Rp s.heap θ μ dq v) (h:Fi op dp dq K) (f:∀ i,K (.int i)->Q (.int i s.toks) {s with toks:=s.toks+1}):ak X.M X.A (inplaceOp op u v) Q E s:=by
 unfold Fi at h;split at h
 .obtain⟨t,rfl⟩:=rp
  obtain⟨t',rfl⟩:=rq;cases op with
  |Add=>exact iadd_int (f _ h)|Sub=>exact isub_int (f _ h)|_=>exact h.elim
 .exact h.elim
theorem afH (ho:PE X o wo) (hi:PE X i wi) (he:PE X e we) (hx:Cg i)
  (ha:∀ ov iv new,augStore i ov iv new=(do uz [new,ov,iv] (IV ov iv new);release [new,ov,iv] [];pure .next)):PS X (.AugAssign (.Subscript o i tpos) op e pos)
   (fun Z ρ μ=>wo ρ μ fun x μ1=>wi ρ μ1 fun y μ2=>Z7 x y μ2 fun p μ3=>we ρ μ3 fun q μ4=>Fi op p q fun v=>q9 x y v μ4 fun μ5=>Z.nx ρ μ5):=fun _ i h f=>by
 refine wpAny_AugAssign_SubscriptAny (ho i h fun i1 g1 r1 h1=>hi i1 h1 fun {d2 u2 s2 θ2 μ2} i2 g2 r2 h2=>?_) ha;have r1':=(i1.kp g2).rp r1;unfold Z7 at h2;split at h2
 .rename_i n jj
  split at h2
  .rename_i xs hn
   obtain⟨h0,h2⟩:=h2;split at h2
   .rename_i d ed
    obtain⟨t,rfl⟩:=id r2;obtain⟨p,us,rfl,hp,_,q,r⟩:=Iv.lst i2.dJ hn r1';obtain⟨w,hw,rw'⟩:=r.get ed;have hl:=(bT.mp hw).1;have l63:=Q8;have lz:=q.fix.1;exact wpAny_getItem_list (gB q (by decide)).isList h0 (by lia) (by simpa using hw) (he i2 h2 fun i3 g3 r3 h3=>ahd ((i2.kp g3).rp rw') r3 h3 fun k hk=>Tn (Iv.tok i3) ((i2.kp g3).rp r1') ((i2.kp g3).rp r2) jc hk fun i4 g4 h4=>f.nx i4 (((g1.trans g2).trans g3).trans ((cW fun _ _ e=>e).trans g4)).gs h4)
   .exact h2.elim
  .exact h2.elim
 .exact h2.elim
theorem acn (h:eE i=true):∀ ov iv new,augStore i ov iv new=(do uz [new,ov,iv] (IV ov iv new);release [new,ov,iv] [];pure .next):=by intro ov iv new;cases i<;>first|rfl|exact(fH h).elim
theorem ah2 (hn:bI X.T.K aM (aD c)=some (some (.ref C))) (cl:Cls X.T.K C) (na:je X.T.K C (aD m)) (ho:PE X o wo) (he:PE X e we) (hs:yg e (some (.Attribute o (aD m) pos')) pos.line X.env=pure false):
  PS X (.Assign [.Attribute o (aD m) pos'] e pos) (fun Z ρ μ=>we ρ μ fun v μ1=>wo ρ μ1 fun x μ2=>lJ c m x v μ2 fun μ3=>Z.nx ρ μ3):=fun _ i h f=>
 plainObj_wpAny_Assign_Attribute (he i h fun i1 g1 r1 h1=>ho i1 h1 fun i2 g2 r2 h2=>aaj hn cl na i2 r2 ((i1.kp g2).rp r1) h2 fun i3 g3 h3=>f.nx i3 ((g1.trans g2).trans g3).gs h3) hs
theorem ah4 (hn:bI X.T.K aM (aD c)=some (some (.ref C))) (cl:Cls X.T.K C) (na:je X.T.K C (aD m)) (ho:PE X o wo) (he:PE X e we):
  PS X (.AugAssign (.Attribute o (aD m) tpos) op e pos) (fun Z ρ μ=>wo ρ μ fun x μ1=>iI c m x μ1 fun p μ1'=>we ρ μ1' fun q μ2=>Fi op p q fun v=>lJ c m x v μ2 fun μ3=>Z.nx ρ μ3):=fun _ i h f=>
 wpAny_AugAssign_AttributeAny (ho i h fun {d u s1 θ1 μ1} i1 g1 r1 h1=>by
  unfold iI at h1;split at h1
  .rename_i n fs e'
   split at h1
   .rename_i d' ed
    obtain⟨p,C',mA,rfl,rfl,hp,_,h0,O,_,k1,_⟩:=Ro i1.dJ r1 e';rw[hn]at h0;cases h0;obtain⟨u,hu,ru⟩:=k1 _ _ ed;refine L2.get_map i1.Cp O (cl.get _) cl.hd na hu (MF ru) (he (Iv.tok i1) h1 fun {d2 u2 s2 θ2 μ2} i2 g2 r2 h2=>?_);have kp:Kp θ1 μ1 s1.heap θ2 μ2 s2.heap:=i1.kp ((cW fun _ _ e=>e).trans g2);exact ahd (kp.rp ru) r2 h2 fun k hk=>aaj hn cl na (Iv.tok i2) (kp.rp r1) jc hk fun i3 g3 h3=>f.nx i3 (g1.trans ((G.trans (cW fun _ _ e=>e) g2).trans ((cW fun _ _ e=>e).trans g3))).gs h3
   .exact h1.elim
  .exact h1.elim)
end
end DW
namespace DW
open PySem PySem.Spec PyProof.Rows
open L2 (aP Key frs wz Loc Look Mod tL cG Cls je)
structure Wk (T:Top) (A:aL) (tg:Expr) (it:Addr) (fp fx:List Addr) (xs:List D) (g:Mem->Prop) (S:Nat->Th->Mem->Heap->Prop):Prop where
 obj:∀ {i θ μ h},S i θ μ h->∀ b∈fp,∃ o,h.get? b=some o/\(b∈fx∨¬Fix o)
 exx:∀ {i θ μ h},S i θ μ h->∀ b∈fx,b∈θ.ex
 mono:∀ {i θ μ h θ' μ' h'},S i θ μ h->Kp θ μ h θ' μ' h'->(∀ b∈θ.ex,b∈θ'.ex)->(∀ b∈fp,∀ o,h.get? b=some o->h'.get? b=some o)->S i θ' μ' h'
 item:∀ {i:Nat} {d s θ μ} {Q2:Value->aj->Prop} {E:Value->aj->Prop},S i θ μ s.heap->pL T θ μ s.heap->(∀ b∈fp,¬pN θ μ b)->g μ->xs[i]?=some d->
  (∀ {u h' tk},(∀ b o,b∉fp->s.heap.get? b=some o->h'.get? b=some o)->S (i+1) θ μ h'->Rp h' θ μ d u->Q2 u {s with heap:=h',toks:=tk})->
  ak (aH T.P T.w) A (mH (.ref it)) (fun r s1=>∃ u,r=some u/\ak (aH T.P T.w) A (Qf tg (.ref it) u) (fun _ s2=>Q2 u s2) E s1) E s
 done:∀ {s θ μ} {Q:Option Value->aj->Prop} {E:Value->aj->Prop},S xs.length θ μ s.heap->pL T θ μ s.heap->tL A s.heap->(∀ b∈fp,¬pN θ μ b)->g μ->
  (∀ {h' tk},(∀ b o,b∉fp->s.heap.get? b=some o->h'.get? b=some o)->(∀ b∈fx,∃ o,h'.get? b=some o)->Q none {s with heap:=h',toks:=tk})->ak (aH T.P T.w) A (mH (.ref it)) Q E s
 self:∀ {i s θ μ} {Q:Value->aj->Prop} {E:Value->aj->Prop},S i θ μ s.heap->Q (.ref it) s->ak (aH T.P T.w) A (pyIter (.ref it)) Q E s
def zO (X:Cx) (b:Addr):Prop:=X.T.base.get? b=none/\b∉frs X.stack/\b≠X.env.locals/\∀ x c,X.env.cells.lookup x=some c->c≠b
noncomputable abbrev WI:=dH->Mem->QI->Prop
def PI (X:Cx) (tg iter:Expr) (wi:WI):Prop:=∀ {s:aj} {ρ:dH} {θ:Th} {μ:Mem} {R:QI} {Q:Value->aj->Prop} {E:Value->aj->Prop},Iv X ρ θ μ s->wi ρ μ R->
 (∀ {xs g s' θ' μ' it fp fx S},Iv X ρ θ' μ' s'->G0 X θ μ s θ' μ' s'->Wk X.T X.A tg it fp fx xs g S->S 0 θ' μ' s'.heap->(∀ b∈fp,zO X b/\(¬pN θ' μ' b/\(b∈fx∨b∉θ'.ex))/\s.heap.get? b=none)->xs.length<=sizeLine->R xs g μ'->Q (.ref it) s')->
 ak X.M X.A (eval iter X.env) (fun v s1=>ak X.M X.A (pyIter v) Q E s1) E s
section
variable {X:Cx} {ρ:dH} {θ θ1 θ':Th} {μ μ1 μ':Mem} {s s0 s1 s':aj} {h':Heap} {tk:Nat} {fp:List Addr} {b it a:Addr} {F:List Addr} {V:Addr->Prop} {d:D} {ds:List D} {u:Value} {us:List Value}
theorem Iv.qP (i:Iv X ρ θ μ s) (hb:s.heap.objs.size<=b):zO X b/\¬Mh θ μ b:=by
 have old:∀ {c o},s.heap.get? c=some o->c≠b:=fun e z=>absurd (f9 (bW e) (z▸hb)) (jg _);refine⟨⟨?_,fun z=>?_,?_,fun x c e=>?_⟩,i.dJ.TF hb⟩
 .cases e:X.T.base.get? b with|none=>rfl|some o=>exact(old (i.e.bs b o e).1 rfl).elim
 .obtain⟨_,_,o,_,_,e,_⟩:=i.e.fr z
  exact old e rfl
 .obtain⟨m,⟨o,_,_,e,_⟩,_⟩:=i.loc
  exact(old e).symm
 .obtain⟨⟨v,o,q,_⟩,_⟩:=i.cell x c e
  exact old q
theorem G.JF (g:G V F θ μ s θ1 μ1 s1) (hb:s1.heap.get? b=none):s.heap.get? b=none:=g.Y0 hb
theorem Wk.ho {T:Top} {A:aL} {tg:Expr} {fx:List Addr} {xs:List D} {g:Mem->Prop} {S:Nat->Th->Mem->Heap->Prop} {k:Nat} (W:Wk T A tg it fp fx xs g S) (st:S k θ μ h') (b:Addr) (hb:b∈fp):b∈θ.ex∨∃ o,h'.get? b=some o/\¬Fix o:=
 let⟨o,x,y⟩:=W.obj st b hb;y.imp (W.exx st b) fun n=>⟨o,x,n⟩
theorem G.none (g:G V F θ μ s θ1 μ1 s1) (hb:s1.heap.objs.size<=b):s.heap.get? b=none:=by
 cases e:s.heap.get? b with
 |none=>rfl|some o=>obtain⟨o',q⟩:=g.there b o e;exact absurd (f9 (bW q) hb) (jg _)
theorem zu (g:G V F θ μ s0 θ1 μ1 s) (fr:∀ b∈fp,s0.heap.get? b=none) (k:∀ b o,b∉fp->s.heap.get? b=some o->h'.get? b=some o):G V F θ μ s0 θ1 μ1 {s with heap:=h',toks:=tk}:=by
 have no:∀ b o,s0.heap.get? b=some o->b∉fp:=fun b o e z=>by rw[fr b z]at e;cases e
 exact⟨g.pre,fun b o e l v=>let⟨l',sl,q,z⟩:=g.keep b o e l v;⟨l',sl,k b _ (no b o e) q,z⟩,fun b o e=>let⟨o',q⟩:=g.there b o e;⟨o',k b o' (no b o e) q⟩,g.stay,g.os,g.ex⟩
theorem Iv.turn (i:Iv X ρ θ μ s) (f:∀ b∈fp,zO X b/\¬pN θ μ b) (ho:∀ b∈fp,b∈θ.ex∨∃ o,s.heap.get? b=some o/\¬Fix o) (k:∀ b o,b∉fp->s.heap.get? b=some o->h'.get? b=some o) (hx:∀ b∈θ.ex,b∈fp->∃ o,h'.get? b=some o):Iv X ρ θ μ {s with heap:=h',toks:=tk}/\Kp θ μ s.heap θ μ h':=by
 have kp:Kp θ μ s.heap θ μ h':=⟨fun _ _ e=>e,fun b o e x l=>⟨k b o (fun z=>(ho b z).elim (fun y=>l (.inl y)) fun⟨o',e',n⟩=>by rw[e]at e';cases e';exact n x) e,l⟩⟩;refine⟨⟨i.ok,⟨i.e.mod,i.e.frames,i.e.bare,fun b o e=>?_,fun v m=>?_,i.dJ.mono kp (fun b o l e=>k b o (fun z=>(f b z).2 l) e) (fun b z=>by
  by_cases y:b∈fp
  .exact hx b z y
  .exact let⟨o,q⟩:=i.dJ.bnd b (.inl z);⟨o,k b o y q⟩),i.e.hh⟩,?_,fun x c e=>?_,i.nl,i.len⟩,kp⟩
 .obtain⟨e1,l⟩:=i.e.bs b o e
  exact⟨k b o (fun z=>by rw[(f b z).1.1]at e;cases e) e1,l⟩
 .obtain⟨k1,L,o,es,ep,q,nb,ho',hd,l⟩:=i.e.stk v m
  exact⟨k1,L,o,es,ep,q,nb,k L o (fun z=>(f L z).1.2.1 (Ak.mpr ⟨v,m,q⟩)) ho',hd,l⟩
 .obtain⟨m,hn,hl⟩:=i.loc
  refine⟨m,hn.at fun o e=>k _ o (fun z=>(f _ z).1.2.2.1 rfl) e,fun j x d e1 e2 e3=>?_⟩;obtain⟨u,r,l⟩:=hl j x d e1 e2 e3;refine⟨u,kp.rp r,l.imp id fun⟨k1,c,e,z⟩=>⟨k1,c,e,?_⟩⟩;obtain⟨o,q,w⟩:=z;exact⟨o,k c o (fun z=>(f c z).1.2.2.2 x c e rfl) q,w⟩
 .obtain⟨⟨v,o,q,w⟩,l⟩:=i.cell x c e
  exact⟨⟨v,o,k c o (fun z=>(f c z).1.2.2.2 x c e rfl) q,w⟩,l⟩
theorem akY {tg iter:Expr} {body:List Stmt} {pos:Pos} {wi:WI} {bnd:D->dH->(dH->Prop)->Prop} {wb:WS} (hi:PI X tg iter wi) (hg:PG X tg bnd) (hb:VB X body wb) (hs:∀ x,Qm iter X.env x=pure x):
  PS X (.For tg iter body [] pos) (fun Z ρ μ=>wi ρ μ fun ds g μ1=>Fg bnd wb g Z ds ρ μ1):=fun {s ρ θ μ Z Q E} hp i h f=>by
 refine wpAny_For (hi i h fun {xs g s1 θ1 μ1 it fp fx S} i1 g1 W st hf hl h1=>?_) hs;refine codeAny_forLoop_any (fun n s'=>∃ k ρ' θ' μ',n=xs.length -k/\k<=xs.length/\Iv X ρ' θ' μ' s'/\GS X θ μ s θ' μ' s'/\S k θ' μ' s'.heap/\(∀ b∈fp,zO X b/\¬pN θ' μ' b/\(b∈fx∨b∉θ'.ex))/\Fg bnd wb g Z (xs.drop k) ρ' μ') ?_ xs.length
  ⟨0,ρ,θ1,μ1,rfl,jG _,i1,g1.gs,st,fun b z=>⟨(hf b z).1,(hf b z).2.1⟩,h1⟩
 rintro n s2 ⟨k,ρ2,θ2,μ2,rfl,hk,i2,g2,st2,f2,h2⟩;have fr:∀ b∈fp,s.heap.get? b=none:=fun b z=>(hf b z).2.2;by_cases hlt:k<xs.length
 .rw[Io hlt]at h2
  obtain⟨Zk,h2⟩:=h2;refine yE hp (iu (W.item (Q2:=fun u s3=>∃ h' tk,s3={s2 with heap:=h',toks:=tk}/\(∀ b o,b∉fp->s2.heap.get? b=some o->h'.get? b=some o)/\S (k+1) θ2 μ2 h'/\Rp h' θ2 μ2 xs[k] u) st2 i2.dJ (fun b z=>(f2 b z).2.1) Zk (dw hlt)
   fun ke st3 r3=>⟨_,_,rfl,ke,st3,r3⟩) (fun r s3 ⟨u,hr,h3⟩=>?_) fun _ _ x=>x)
  subst hr;refine yE hp (iu h3 (fun _ s4 ⟨h',tk,e4,ke,st4,r4⟩=>?_) fun _ _ x=>x);subst e4;obtain⟨i4,kp4⟩:=i2.turn (tk:=tk) (fun b z=>⟨(f2 b z).1,(f2 b z).2.1⟩) (W.ho st2) ke fun b _ z=>let⟨o,x,_⟩:=W.obj st4 b z;⟨o,x⟩;have g4:GS X θ μ s θ2 μ2 {s2 with heap:=h',toks:=tk}:=zu g2 fr ke;refine yE hp (hg i4 r4 h2 fun {ρ5 s5} i5 g5 q5=>yE hp (hb hp i5 q5 ?_));have f5:=f.mono (g4.trans g5);have nxt:∀ {ρ' s' θ' μ'},Iv X ρ' θ' μ' s'->GS X θ2 μ2 s5 θ' μ' s'->Fg bnd wb g Z (xs.drop (k+1)) ρ' μ'->∃ m,m<xs.length -k/\∃ k ρ' θ' μ',m=xs.length -k/\k<=xs.length/\Iv X ρ' θ' μ' s'/\GS X θ μ s θ' μ' s'/\S k θ' μ' s'.heap/\(∀ b∈fp,zO X b/\¬pN θ' μ' b/\(b∈fx∨b∉θ'.ex))/\Fg bnd wb g Z (xs.drop k) ρ' μ':=fun {ρ' s' θ' μ'} i6 g6 q6=>by
   have g56:=g5.trans g6;have own:∀ b∈fp,¬X.own b:=fun b z y=>by
    rcases y with rfl|⟨x,_,e⟩
    .exact(f2 _ z).1.2.2.1 rfl
    .exact(f2 b z).1.2.2.2 x b e rfl
   have kept:∀ b∈fp,∀ o,h'.get? b=some o->s'.heap.get? b=some o/\¬pN θ' μ' b:=fun b z o e=>by obtain⟨l,sl,q,w⟩:=g56.keep b o e (f2 b z).2.1 (own b z);rw[w (f2 b z).1.2.1]at q;exact⟨q,l⟩
   refine⟨xs.length -(k+1),by lia,k+1,ρ',θ',μ',rfl,hlt,i6,g4.trans g56,W.mono st4 (i4.kpS g56) g56.ex.1 fun b z o e=>(kept b z o e).1,fun b z=>⟨(f2 b z).1,?_⟩,q6⟩;obtain⟨o,e,_⟩:=W.obj st4 b z;exact⟨(kept b z o e).2,(f2 b z).2.2.imp id fun y q=>(g56.ex.2 b q).elim y fun q=>by rw[show h'.get? b=none from q]at e;cases e⟩
  exact⟨nxt,fun i6 g6 q=>f5.nx i6 g6 q,nxt,f5.rt,f5.xc⟩
 .have e:k=xs.length:=by lia
  subst e;rw[adY]at h2;obtain⟨Zk,h2⟩:=h2;refine yE hp (W.done (Q:=fun r s3=>r=none/\∃ h' tk,s3={s2 with heap:=h',toks:=tk}/\(∀ b o,b∉fp->s2.heap.get? b=some o->h'.get? b=some o)/\∀ b∈fx,∃ o,h'.get? b=some o) st2 i2.dJ i2.e.hds (fun b z=>(f2 b z).2.1) Zk (fun ke te=>⟨rfl,_,_,rfl,ke,te⟩)|>fun q=>iu q (fun r s3 ⟨hr,h',tk,e3,ke,te⟩=>?_) fun _ _ x=>x);subst hr e3;obtain⟨i4,_⟩:=i2.turn (tk:=tk) (fun b z=>⟨(f2 b z).1,(f2 b z).2.1⟩) (W.ho st2) ke fun b y z=>te b ((f2 b z).2.2.resolve_right fun q=>q y);exact PL (f.nx i4 (zu g2 fr ke) h2)
end
end DW
namespace DW
open PySem PySem.Spec PyProof.Rows
open L2 (aP Key frs wz Loc Look Mod tL cG Bs)
theorem bR {o:Obj} {vs} {n:String} (h:o.data= .fields vs) (c:o.cls= .type n) (hn:n≠"code"):¬Fix o:=fun f=>by
 rcases f with⟨_,_,f⟩|⟨f,_⟩
 .rw[h]at f;cases f
 .rw[c]at f
  injection f with f;exact hn f
theorem Hf {fp:List Addr} {θ:Th} {μ:Mem} {h h':Heap} (ho:∀ b∈fp,∃ o,h.get? b=some o/\¬Fix o) (k:∀ b o,b∉fp->h.get? b=some o->h'.get? b=some o):Kp θ μ h θ μ h' :=
 ⟨fun _ _ e=>e,fun b o e x l=>⟨k b o (fun z=>by obtain⟨o',e',n⟩:=ho b z;rw[e]at e';cases e';exact n x) e,l⟩⟩
section
variable {X:Cx} {tg iter a b c:Expr} {wl:WE} {d0:D} {xs:List D} {g:Mem->Prop} {it ad:Addr} {x:List Nat} {t:Tok} {lo st:Int} {n:Nat} {ws:WA} {p pos:Pos}
theorem ahy (hc:X.calm=true) (hA:X.calm=true->X.A.handled=none) (hg:∀ {μ},g μ->aB μ d0=some xs) (hk:Wi d0≠0):Wk X.T X.A tg it [it] [] xs g (fun i θ μ h=>h.IsListIter it ad i/\Rp h θ μ d0 (.ref ad)) where
 obj:=fun⟨⟨o,e,c,d⟩,_⟩ b hb=>by cases cH.mp hb;exact⟨o,e,.inr (bR d c (by decide))⟩
 exx:=fun _ _ z=>nomatch z
 mono:=fun⟨⟨o,e,r⟩,y⟩ kp _ k=>⟨⟨o,k _ (by simp) _ e,r⟩,kp.rp y⟩
 item:=fun {i d s θ μ Q2 E} st w nl gm hx f=>by obtain⟨⟨o,e,c,dd⟩,r0⟩:=id st;obtain⟨_,us,q,z,r⟩:=wR w r0 (hg gm);cases q;obtain⟨u,hu,ru⟩:=r.get hx;refine wpAny_pyNext_list_item st.1 (gB z hk).isList (x:=u) (by simpa using hu) fun h' st' sb=>?_;have ke:∀ b o,b∉[it]->s.heap.get? b=some o->h'.get? b=some o:=fun b o hb q=>(sb.2 b (by simpa using hb)).trans q;have kp:Kp θ μ s.heap θ μ h':=Hf (fun b hb=>by cases cH.mp hb;exact⟨o,e,bR dd c (by decide)⟩) ke;obtain⟨o',e',c',d'⟩:=id st';exact⟨u,rfl,Bs (s:={s with heap:=h' }) e' c' d' (by decide) (f (tk:=s.toks) ke ⟨st',kp.rp r0⟩ (kp.rp ru))⟩
 done:=fun {s θ μ Q E} st w hd nl gm f=>by obtain⟨_,us,q,z,r⟩:=wR w st.2 (hg gm);cases q;exact wpAny_pyNext_list_end (hA hc) st.1 (gB z hk).isList (by simp[r.length]) fun h' eb=>f (tk:=s.toks) (fun b o hb q=>eb b o (by simpa using hb) q) fun _ z=>nomatch z
 self:=fun st q=>wpAny_pyIter_listiter st.1 q
theorem ajW (hc:X.calm=true) (hA:X.calm=true->X.A.handled=none):Wk X.T X.A tg it [it] [] xs g (fun i θ μ h=>h.IsTupleIter it ad i/\Rp h θ μ (.tup xs) (.ref ad)) where
 obj:=fun⟨⟨o,e,c,d⟩,_⟩ b hb=>by cases cH.mp hb;exact⟨o,e,.inr (bR d c (by decide))⟩
 exx:=fun _ _ z=>nomatch z
 mono:=fun⟨⟨o,e,r⟩,y⟩ kp _ k=>⟨⟨o,k _ (by simp) _ e,r⟩,kp.rp y⟩
 item:=fun {i d s θ μ Q2 E} st w nl gm hx f=>by obtain⟨⟨o,e,c,dd⟩,r0⟩:=id st;obtain⟨_,us,q,z,_,r⟩:=id r0;cases q;obtain⟨u,hu,ru⟩:=r.get hx;refine wpAny_pyNext_tuple_item st.1 (show s.heap.IsTuple ad us.toArray from gA z) (x:=u) (by simpa using hu) fun h' st' sb=>?_;have ke:∀ b o,b∉[it]->s.heap.get? b=some o->h'.get? b=some o:=fun b o hb q=>(sb.2 b (by simpa using hb)).trans q;have kp:Kp θ μ s.heap θ μ h':=Hf (fun b hb=>by cases cH.mp hb;exact⟨o,e,bR dd c (by decide)⟩) ke;obtain⟨o',e',c',d'⟩:=id st';exact⟨u,rfl,Bs (s:={s with heap:=h' }) e' c' d' (by decide) (f (tk:=s.toks) ke ⟨st',kp.rp r0⟩ (kp.rp ru))⟩
 done:=fun {s θ μ Q E} st w hd nl gm f=>by obtain⟨_,us,q,z,_,r⟩:=id st.2;cases q;exact wpAny_pyNext_tuple_end (hA hc) st.1 (show s.heap.IsTuple ad us.toArray from gA z) (by simp[r.length]) fun h' eb=>f (tk:=s.toks) (fun b o hb q=>eb b o (by simpa using hb) q) fun _ z=>nomatch z
 self:=fun st q=>wpAny_pyIter_tupleiter st.1 q
theorem acw {ty:String} (hc:X.calm=true) (hA:X.calm=true->X.A.handled=none) (hty:ty="str_ascii_iterator"∨ty="str_iterator"):Wk X.T X.A tg it [it] [] (chars x) g (fun i θ μ h=>h.IsStrIter it ty ⟨x.toArray⟩ t i) where
 obj:=fun⟨o,e,c,d⟩ b hb=>by cases cH.mp hb;exact⟨o,e,.inr (bR d c (by rcases hty with rfl|rfl<;>decide))⟩
 exx:=fun _ _ z=>nomatch z
 mono:=fun⟨o,e,r⟩ kp _ k=>⟨o,k _ (by simp) _ e,r⟩
 item:=fun {i d s θ μ Q2 E} st w nl gm hx f=>by
  have hn:["enumerate","zip","dict_itemiterator","dict_reverseitemiterator","odict_iterator","itertools.zip_longest","itertools.pairwise"].contains ty=false:=by rcases hty with rfl|rfl<;>decide
  have W:Walks X.T.P X.T.w X.A it [it] [it] (⟨x.toArray⟩:Str).cps.size (SignAt ⟨x.toArray⟩) (fun i h=>h.IsStrIter it ty ⟨x.toArray⟩ t i):=by
   rcases hty with rfl|rfl
   .exact Walks.strAscii (hA hc) it _ t
   .exact Walks.strWide (hA hc) it _ t
  have hx':∃ c,x[i]?=some c/\d= .str [c]:=by simp only[chars,jy]at hx;obtain⟨c,q,rfl⟩:=Am.mp hx;exact⟨c,q,rfl⟩
  obtain⟨c0,q0,rfl⟩:=hx';refine W.item i s _ _ (by simpa using(bT.mp q0).1) st fun v h' tk hv st' ke=>?_;obtain⟨c,u,e1,rfl⟩:=hv;have e1:x[i]?=some c:=by simpa using e1
  rw[q0]at e1;cases e1;obtain⟨o',e',c',d'⟩:=id st';exact⟨_,rfl,Bs (s:={s with heap:=h',toks:=tk}) e' c' d' hn (f (tk:=tk) (fun b o hb q=>ke b o hb q) st' (show Rp _ _ _ (.str [c0]) _ from⟨⟨u,rfl⟩,by rw[cY];simp⟩))⟩
 done:=fun {s θ μ Q E} st w hd nl gm f=>by
  have hl:(chars x).length=x.length:=by simp[chars]
  rw[hl]at st;rcases hty with rfl|rfl
  .exact wpAny_pyNext_ascii_end (hA hc) st (by simp) fun h' eb=>f (tk:=s.toks) (fun b o hb q=>eb b o (by simpa using hb) q) fun _ z=>nomatch z
  .exact wpAny_pyNext_wide_end (hA hc) st (by simp) fun h' eb=>f (tk:=s.toks) (fun b o hb q=>eb b o (by simpa using hb) q) fun _ z=>nomatch z
 self:=fun st q=>by
  rcases hty with rfl|rfl
  .exact wpAny_pyIter_striter_ascii st q
  .exact wpAny_pyIter_striter_wide st q
theorem ak1 (hcl:X.calm=true) (hl:PE X iter wl):PI X tg iter (fun ρ μ Q=>wl ρ μ fun d μ1=>mz d μ1 Q):=fun {s ρ θ μ R Q E} i h f=>hl i h fun {d u s1 θ1 μ1} i1 g1 r1 h1=>by
 have fk:∀ b∈[s1.heap.objs.size],zO X b/\(¬pN θ1 μ1 b/\(b∈([]:List Addr)∨b∉θ1.ex))/\s.heap.get? b=none:=fun b hb=>by cases cH.mp hb;exact⟨(i1.qP (aA _)).1,⟨fun y=>(i1.qP (aA _)).2 (.inr y),.inr fun y=>(i1.qP (aA _)).2 (.inl y)⟩,g1.none (aA _)⟩
 have sq:∀ {xs g},(∀ {μ},g μ->aB μ d=some xs)->aB μ1 d=some xs->R xs g μ1->Wi d≠0->ak X.M X.A (pyIter u) Q E s1:=fun {xs g} hg e q hk=>by obtain⟨a,us,rfl,z,r⟩:=wR i1.dJ r1 e;refine Qn (gB z hk).isList ?_;exact f (Iv.kept (tk:=s1.toks) i1 c7) (g1.trans (cW (tk:=s1.toks) c7)) (ahy (ad:=a) hcl i1.ok.hd hg hk) ⟨⟨_,gU _ rfl,rfl,rfl⟩,(jU c7).rp r1⟩ fk (by rw[<-r.length];exact z.fix.1) q
 unfold mz at h1;split at h1
 .exact sq (fun _=>rfl) rfl h1 (by simp[Wi])
 .obtain⟨a,us,rfl,z,_,r⟩:=id r1
  refine wpAny_pyIter_tuple (show s1.heap.IsTuple a us.toArray from gA z) ?_;exact f (Iv.kept (tk:=s1.toks) i1 c7) (g1.trans (cW (tk:=s1.toks) c7)) (ajW (ad:=a) hcl i1.ok.hd) ⟨⟨_,gU _ rfl,rfl,rfl⟩,(jU c7).rp r1⟩ fk (by rw[<-r.length];exact z.fix.1) h1
 .exact sq (fun _=>rfl) rfl h1 (by simp[Wi])
 .rename_i x
  obtain⟨⟨t,rfl⟩,hz⟩:=r1;have hl:(chars x).length<=sizeLine:=by simpa[chars]using hz
  cases ha:(⟨x.toArray⟩:Str).cps.all (·<128) with
  |false=>exact wpAny_pyIter_wide ha (f (Iv.kept (tk:=s1.toks) i1 c7) (g1.trans (cW (tk:=s1.toks) c7)) (acw hcl i1.ok.hd (.inr rfl)) ⟨_,gU _ rfl,rfl,rfl⟩ fk hl h1)|true=>exact wpAny_pyIter_ascii ha (f (Iv.kept (tk:=s1.toks) i1 c7) (g1.trans (cW (tk:=s1.toks) c7)) (acw hcl i1.ok.hd (.inl rfl)) ⟨_,gU _ rfl,rfl,rfl⟩ fk hl h1)
 .rename_i n
  split at h1
  .rename_i ds hn
   exact sq (fun e=>by simp only[aB,e]) (by simp only[aB,hn]) h1 (by simp[Wi])
  .exact h1.elim
 .exact h1.elim
theorem acy (hc:X.calm=true) (hA:X.calm=true->X.A.handled=none):Wk X.T X.A tg it [it] [] (xZ lo st n) g (fun i θ μ h=>Jc h it (lo+(i:Nat)*st) ((n:Int) -(i:Nat)) st) where
 obj:=fun e b hb=>by cases cH.mp hb;exact⟨_,e,.inr (bR rfl rfl (by decide))⟩
 exx:=fun _ _ z=>nomatch z
 mono:=fun e kp _ k=>k _ (by simp) _ e
 item:=fun {i d s θ μ Q2 E} st' w nl gm hx f=>by
  have W:=Walks.range (prog:=X.T.P) (w:=X.T.w) (hA hc) it lo st n;have hi:i<n:=by have:=(bT.mp hx).1;simpa[xZ]using this
  refine W.item i s _ _ hi st' fun v h' tk hv st2 ke=>?_;obtain⟨t,rfl⟩:=hv;exact⟨_,rfl,Bs (s:={s with heap:=h',toks:=tk}) (n:="range_iterator") st2 rfl rfl (by decide) (f (tk:=tk) (fun b o hb q=>ke b o hb q) st2 (by (have e:d= .int (lo+(i:Int)*st):=by simpa[xZ,hi]using hx.symm);rw[e];exact jc))⟩
 done:=fun {s θ μ Q E} st' w hd nl gm f=>by
  have hl:(xZ lo st n).length=n:=by simp[xZ]
  rw[hl]at st';exact wpAny_pyNext_range_end (hA hc) st' (by lia) fun h' eb=>f (tk:=s.toks) (fun b o hb q=>eb b o (by simpa using hb) q) fun _ z=>nomatch z
 self:=fun st q=>ae7 st q
theorem aa9:Wk X.T X.A tg it [it] [] (fj lo n) g (fun i θ μ h=>Jc h it (lo+(i:Nat)*1) ((n:Int) -(i:Nat)) 1) where
 obj:=fun e b hb=>by cases cH.mp hb;exact⟨_,e,.inr (bR rfl rfl (by decide))⟩
 exx:=fun _ _ z=>nomatch z
 mono:=fun e kp _ k=>k _ (by simp) _ e
 item:=fun {i d s θ μ Q2 E} st' w nl gm hx f=>by
  have hi:i<n:=by have:=(bT.mp hx).1;simpa[fj]using this
  refine wpAny_pyNext_range_item st' (by lia) fun h' st2 sb=>?_;have e1:lo+((i+1:Nat):Int)*1=lo+(i:Int)*1+1:=by push_cast;lia
  have e2:(n:Int) -((i+1:Nat):Int)=(n:Int) -(i:Int) -1:=by push_cast;lia
  exact⟨_,rfl,Bs (s:={s with heap:=h',toks:=s.toks+1}) (n:="range_iterator") st2 rfl rfl (by decide) (f (tk:=s.toks+1) (fun b o hb q=>(sb.2 b (by simpa using hb)).trans q) (by rw[e1,e2];exact st2) (by (have e:d= .int (lo+(i:Int)):=by simpa[fj,hi]using hx.symm);rw[e];exact m9 (by rw[Int.mul_one])))⟩
 done:=fun {s θ μ Q E} st' w hd nl gm f=>by
  have hl:(fj lo n).length=n:=by simp[fj]
  rw[hl]at st';exact L2.Wr hd st' (by lia) fun h' eb=>f (tk:=s.toks) (fun b o hb q=>eb b o (by simpa using hb) q) fun _ z=>nomatch z
 self:=fun st q=>ae7 st q
theorem range_one {R:QI} {s:aj} {ρ:dH} {θ:Th} {μ:Mem} {lo hi:Int} {u v w:Tok} {tk:Nat} {Q:Value->aj->Prop} {E:Value->aj->Prop} (i:Iv X ρ θ μ s) (h1: -(2 ^ 62)<=lo) (h2:lo<2 ^ 62) (h3: -(2 ^ 62)<=hi) (h4:hi<2 ^ 62) (hl:hi -lo<=lim)
  (q:R (fj lo (hi -lo).toNat) (fun _=>True) μ)
  (f:∀ {xs g s' θ' μ' it fp fx S},Iv X ρ θ' μ' s'->G0 X θ μ s θ' μ' s'->Wk X.T X.A tg it fp fx xs g S->S 0 θ' μ' s'.heap->(∀ b∈fp,zO X b/\(¬pN θ' μ' b/\(b∈fx∨b∉θ'.ex))/\s.heap.get? b=none)->xs.length<=sizeLine->R xs g μ'->Q (.ref it) s'):
  ak X.M X.A (pyIter (.ref s.heap.objs.size)) Q E {s with heap:=s.heap.push {cls:=.type "range",data:=.fields #[.int lo u,.int hi v,.int 1 w]},toks:=tk}:=by
 refine aeu (adn ..) (small_one h1 h2 h3 h4) ?_;have i1:Iv X ρ θ μ {s with heap:=s.heap.push {cls:=.type "range",data:=.fields #[.int lo u,.int hi v,.int 1 w]},toks:=tk}:=i.kept c7;have sz:(s.heap.push {cls:=.type "range",data:=.fields #[.int lo u,.int hi v,.int 1 w]}).objs.size=s.heap.objs.size+1:=yx ..;have g1:G0 X θ μ s θ μ {s with heap:=s.heap.push {cls:=.type "range",data:=.fields #[.int lo u,.int hi v,.int 1 w]},toks:=tk}:=cW c7;refine f (Iv.kept (tk:=tk) i1 c7) (g1.trans (cW (tk:=tk) c7)) (aa9 (lo:=lo) (n:=(hi -lo).toNat)) ?_ (fun b hb=>by cases cH.mp hb;exact⟨(i1.qP (aA _)).1,⟨fun y=>(i1.qP (aA _)).2 (.inr y),.inr fun y=>(i1.qP (aA _)).2 (.inl y)⟩,g1.none (aA _)⟩) ?_ q
 .have e1:lo+((0:Nat):Int)*1=lo:=by simp
  have e2:(((hi -lo).toNat:Nat):Int) -((0:Nat):Int)=QF lo hi 1:=by rw[rangeSize_one];split<;>lia
  show Jc _ _ (lo+((0:Nat):Int)*1) ((((hi -lo).toNat:Nat):Int) -((0:Nat):Int)) 1;rw[e1,e2];exact gU _ rfl
 .have:lim=16777216:=rfl
  rw[this]at hl;simp only[fj,aR,Yb];rw[cY];lia
theorem ade (a b c:Int) (hc:c≠0):0<=um a b c:=by
 unfold um;split
 .rename_i h
  split
  .have:0<=(b -a -1)/c:=adT (by lia) (by lia)
   lia
  .exact O6 _
 .split
  .have:0<=(a -b -1)/(-c):=adT (by lia) (by lia)
   lia
  .exact O6 _
theorem akr {a b c:Int} (h1: -(2 ^ 30)<a) (h2:a<2 ^ 30) (h3: -(2 ^ 30)<b) (h4:b<2 ^ 30) (h5: -(2 ^ 30)<c) (h6:c<2 ^ 30) (h7:um a b c<=lim) (hc:c≠0):aeG a b c=true:=by
 have h8:=ade a b c hc;have hl:lim=16777216:=rfl;rw[hl]at h7;have e3:QF a b c=um a b c:=rfl;unfold aeG;rw[e3];by_cases hp:c>0
 .simp only[hp,if_true,afy,bM,yF,decide_eq_true_eq,beq_iff_eq];lia
 .simp only[hp,if_false,afy,bM,yF,decide_eq_true_eq,beq_iff_eq];lia
theorem ak3 {es:List Expr} {e:Expr} (ha:Ar X (e::es) ws) (hg:Gl X (aD "range")) (hm:X.T.mg (aD "range")=none) (hk:es.length=2->X.calm=true):
  PI X tg (.Call (.Name (aD "range") p) (e::es) [] pos) (fun ρ μ Q=>ws ρ μ fun ds μ1=>Cq (es.length+1) ds μ1 Q):=fun {s ρ θ μ R Q E} i h f=>by
 refine Call_ (u0 i hg hm boot_range (by decide+kernel) (by decide+kernel) (QT (ha.pa pos i h fun {ds us s1 θ1 μ1} i1 g1 r1 h1=>?_) (ha.st rfl) ha.ame));have hl:lim=16777216:=rfl;unfold Cq at h1;split at h1
 .obtain⟨u,rfl,⟨t,rfl⟩⟩:=r1.jl
  obtain⟨k1,k2,k3⟩:=h1;exact call_range_1 (range_one (R:=R) i1 (by lia) (by lia) k2 (by rw[hl]at k1;lia) (by lia) (by simpa using k3) fun i2 g2 W st fk l q=>f i2 (g1.trans g2) W st (fun b z=>⟨(fk b z).1,(fk b z).2.1,g1.JF (fk b z).2.2⟩) l q)
 .rename_i j k c hn
  obtain⟨u,us,rfl,⟨t,rfl⟩,r2⟩:=r1;obtain⟨v,w,rfl,⟨t',rfl⟩,⟨t2,rfl⟩⟩:=r2.zU;obtain⟨⟨q0,q1,q2,q3,q4,q5,q6,q7⟩,q⟩:=h1;refine call_range_3 q0 ?_ (.inl (PyProof.noPylong_small (by lia)));refine aeu (adn ..) (akr q2 q3 q4 q5 q6 q7 q1 q0) ?_;have i2:Iv X ρ θ1 μ1 {s1 with heap:=s1.heap.push {cls:=.type "range",data:=.fields #[.int j t,.int k t',.int c t2]},toks:=s1.toks}:=i1.kept c7;have g2:G0 X θ μ s θ1 μ1 {s1 with heap:=s1.heap.push {cls:=.type "range",data:=.fields #[.int j t,.int k t',.int c t2]},toks:=s1.toks}:=g1.trans (cW c7);have hc:X.calm=true:=hk (by lia);refine f (Iv.kept (tk:=s1.toks) i2 c7) (g2.trans (cW (tk:=s1.toks) c7)) (acy (lo:=j) (st:=c) (n:=(um j k c).toNat) hc i1.ok.hd) ?_ (fun b hb=>by cases cH.mp hb;exact⟨(i2.qP (aA _)).1,⟨fun y=>(i2.qP (aA _)).2 (.inr y),.inr fun y=>(i2.qP (aA _)).2 (.inl y)⟩,g2.none (aA _)⟩) ?_ q
  .have e1:j+((0:Nat):Int)*c=j:=by simp
   have e2:(((um j k c).toNat:Nat):Int) -((0:Nat):Int)=QF j k c:=by have:=ade j k c q0;have e3:QF j k c=um j k c:=rfl;rw[e3];lia
   show Jc _ _ (j+((0:Nat):Int)*c) ((((um j k c).toNat:Nat):Int) -((0:Nat):Int)) c;rw[e1,e2];exact gU _ rfl
  .simp only[xZ,aR,Yb]
   rw[hl]at q1;rw[cY];lia
 .obtain⟨u,v,rfl,⟨t,rfl⟩,⟨t',rfl⟩⟩:=r1.zU
  obtain⟨⟨k0,k1,k2,k3,k4⟩,k5⟩:=h1;exact call_range_2 (range_one (R:=R) i1 k1 k2 k3 k4 k0 k5 fun i2 g2 W st fk l q=>f i2 (g1.trans g2) W st (fun b z=>⟨(fk b z).1,(fk b z).2.1,g1.JF (fk b z).2.2⟩) l q)
 .exact h1.elim
end
end DW
namespace L2
open PySem PySem.Spec PyProof.Rows
theorem pZ:∀ (names:List (Str×gZ)) (acc:List (Str×Addr)),(∀ y∈names,y.2= .free->∃ c,env.cells.lookup y.1=some c)->
  (∀ y c,acc.lookup y=some c->env.cells.lookup y=some c)->
  ∃ cl:List (Str×Addr),(forIn names acc fun(x:Str×gZ) (r:List (Str×Addr))=>match x with
   |(name,kind)=>if(kind== .free)=true then(do let c<-cellOf env name;pure (Dt ((name,c)::r)))else pure (Dt r))=(pure cl:Sem (List (Str×Addr)))/\
   (∀ y c,cl.lookup y=some c->env.cells.lookup y=some c)/\(∀ y,(acc.lookup y).isSome=true->(cl.lookup y).isSome=true)/\∀ y∈names,y.2= .free->(cl.lookup y.1).isSome=true
 |[],acc,_,h2=>⟨acc,by simp,h2,fun _ h=>h,fun y hy=>nomatch hy⟩|(n,k)::r,acc,h1,h2=>by
  by_cases hk:k= .free
  .subst hk
   obtain⟨c,hc⟩:=h1 (n,.free) w7 rfl;obtain⟨cl,e1,e2,e3,e4⟩:=pZ r ((n,c)::acc) (fun y hy=>h1 y (jh _ hy)) (fun y d hy=>by
    rw[jx]at hy;split at hy
    .rename_i hb
     rw[eq_of_beq hb];cases hy;exact hc
    .exact h2 y d hy)
   refine⟨cl,?_,e2,fun y hy=>e3 y ?_,fun y hy hf=>?_⟩
   .rw[PX]
    simp only[beq_self_eq_true,if_true];(have:cellOf env n=pure c:=by unfold cellOf;rw[hc]);rw[this,pure_bind,pure_bind];exact e1
   .rw[jx];split<;>simp_all
   .rcases bC.mp hy with rfl|hy
    .exact e3 n (by simp[jx])
    .exact e4 y hy hf
  .obtain⟨cl,e1,e2,e3,e4⟩:=pZ r acc (fun y hy=>h1 y (jh _ hy)) h2
   refine⟨cl,?_,e2,e3,fun y hy hf=>?_⟩
   .rw[PX]
    (have hb:(k==mZ)=false:=by simpa using hk);simp only[hb,cg,if_false];rw[pure_bind];exact e1
   .rcases bC.mp hy with rfl|hy
    .exact absurd hf hk
    .exact e4 y hy hf
theorem mV (h:∀ y∈scope.names,y.2= .free->∃ c,env.cells.lookup y.1=some c):
  ∃ cl,WW scope env=pure cl/\(∀ y c,cl.lookup y=some c->env.cells.lookup y=some c)/\∀ y∈scope.names,y.2= .free->(cl.lookup y.1).isSome=true:=by
 obtain⟨cl,e1,e2,_,e4⟩:=pZ scope.names [] h (fun y c hy=>by simp at hy);refine⟨cl,?_,e2,e4⟩;unfold WW;simp only[bind_pure];exact e1
theorem fL {env:Env}:∀ {names:List (Str×gZ)} {x:Str},names.lookup x=some .free->
  (names.map fun(n,k)=>if(k==mZ&&env.scope.kind== .function&&env.kindOf n==some .cell)then(n,pA)else(n,k)).lookup x=some .free∨
  (names.map fun(n,k)=>if(k==mZ&&env.scope.kind== .function&&env.kindOf n==some .cell)then(n,pA)else(n,k)).lookup x=some .cell
 |[],_,h=>by simp at h|(n,k)::r,x,h=>by
  have ih:=@fL env r x;show I9 x ((if(k==mZ&&env.scope.kind== .function&&env.kindOf n==some .cell)=true then(n,pA)else(n,k))::_)=_∨I9 x ((if(k==mZ&&env.scope.kind== .function&&env.kindOf n==some .cell)=true then(n,pA)else(n,k))::_)=_;by_cases hc:(k==mZ&&env.scope.kind== .function&&env.kindOf n==some .cell)=true
  .rw[if_pos hc]
   cases hx:x==n with
   |true=>right;simp only[jx,hx]|false=>simp only[jx,hx]at h ⊢;exact ih h
  .rw[if_neg hc]
   cases hx:x==n with
   |true=>simp only[jx,hx]at h ⊢;exact .inl h|false=>simp only[jx,hx]at h ⊢;exact ih h
theorem wW {env:Env}:∀ {names:List (Str×gZ)} {x:Str},names.lookup x=some .globalImplicit->
  (names.map fun(n,k)=>if(k==mZ&&env.scope.kind== .function&&env.kindOf n==some .cell)then(n,pA)else(n,k)).lookup x=some .globalImplicit
 |[],_,h=>by simp at h|(n,k)::r,x,h=>by
  have ih:=@wW env r x;show I9 x ((if(k==mZ&&env.scope.kind== .function&&env.kindOf n==some .cell)=true then(n,pA)else(n,k))::_)=_;by_cases hc:(k==mZ&&env.scope.kind== .function&&env.kindOf n==some .cell)=true
  .rw[if_pos hc]
   cases hx:x==n with
   |true=>
    simp only[jx,hx]at h;have:k= .free:=by rw[bM,bM]at hc;simpa using hc.1.1
    rw[this]at h;cases h
   |false=>simp only[jx,hx]at h ⊢;exact ih h
  .rw[if_neg hc]
   cases hx:x==n with
   |true=>simp only[jx,hx]at h ⊢;exact h|false=>simp only[jx,hx]at h ⊢;exact ih h
theorem Aj (h:scope.names.lookup x=some .globalImplicit):(Iw scope env).names.lookup x=some .globalImplicit:=wW h
theorem rD {env:Env}:∀ {names:List (Str×gZ)} {x:Str},names.lookup x=some .cell->
  (names.map fun(n,k)=>if(k==mZ&&env.scope.kind== .function&&env.kindOf n==some .cell)then(n,pA)else(n,k)).lookup x=some .cell
 |[],_,h=>by simp at h|(n,k)::r,x,h=>by
  have ih:=@rD env r x;show I9 x ((if(k==mZ&&env.scope.kind== .function&&env.kindOf n==some .cell)=true then(n,pA)else(n,k))::_)=_;by_cases hc:(k==mZ&&env.scope.kind== .function&&env.kindOf n==some .cell)=true
  .rw[if_pos hc]
   cases hx:x==n with
   |true=>simp only[jx,hx]|false=>simp only[jx,hx]at h ⊢;exact ih h
  .rw[if_neg hc]
   cases hx:x==n with
   |true=>simp only[jx,hx]at h ⊢;exact h|false=>simp only[jx,hx]at h ⊢;exact ih h
theorem iU:∀ (names:List (Str×gZ)) (n:Nat) (acc:List (Str×Addr)),g8 n names acc=g8 n names []++acc
 |[],n,acc=>rfl|(x,k)::r,n,acc=>by
  unfold g8;split
  .rw[iU r (n+1) ((x,n)::acc),iU r (n+1) [(x,n)]];simp
  .exact iU r n acc
theorem qX:∀ (names:List (Str×gZ)) (n:Nat) (y:Str) (c:Addr),(y,c)∈g8 n names []->(y,pA)∈names
 |[],n,y,c,h=>by simp[g8]at h|(x,k)::r,n,y,c,h=>by
  unfold g8 at h;split at h
  .rename_i hk
   rw[iU]at h;rcases iY.mp h with z|z
   .exact jh _ (qX r _ y c z)
   .simp only[bC,ur,or_false,Jh]at z
    obtain⟨rfl,_⟩:=z;rw[eq_of_beq hk];exact w7
  .exact jh _ (qX r _ y c h)
theorem nC:∀ (names:List (Str×gZ)) (n:Nat) (y:Str),(y,pA)∈names->((g8 n names []).lookup y).isSome=true
 |[],n,y,h=>by simp at h|(x,k)::r,n,y,h=>by
  unfold g8;rcases bC.mp h with z|z
  .cases z
   rw[if_pos (by rfl),iU,Qq];cases q:(g8 (n+1) r []).lookup x with
   |some c=>rfl|none=>simp[jx]
  .split
   .rw[iU,Qq]
    have:=nC r (n+1) y z;obtain⟨c,e⟩:=Ft.mp this;rw[e];rfl
   .exact nC r n y z
theorem uO 
  (hQ:Q (newEnv scope s.heap.objs.size globals (g8 (s.heap.objs.size+1) scope.names cl) qual none .none (some env) Dj) {s with heap:=pushCells (s.heap.push {cls:=.type "dict",data:=.dict #[]}) scope.names}):
  ak M A (Xz scope globals cl [] qual none .none (some env)) Q E s:=by
 simp only[Xz,Ym,if_true];refine aq (wpAny_alloc ?_);refine aq (wpAny_layCells _ (fun name kind cells=>by cases hkc:kind==pA<;>simp[hkc]) _ _ _ _ ?_);rw[show({s with heap:=s.heap.push {cls:=.type "dict",data:=.dict #[]}}:aj).heap.objs.size=s.heap.objs.size+1 from yx ..];rw[Xy];exact aq (aG (aG hQ))
theorem gQ {env:Env}:∀ {names:List (Str×gZ)} {x:Str} {k:gZ},
  (names.map fun(n,k)=>if(k==mZ&&env.scope.kind== .function&&env.kindOf n==some .cell)then(n,pA)else(n,k)).lookup x=some k->
  names.lookup x=some k∨(k= .cell/\names.lookup x=some .free)
 |[],_,_,h=>by simp at h|(n,k0)::r,x,k,h=>by
  have ih:=@gQ env r x k;have h':I9 x ((if(k0==mZ&&env.scope.kind== .function&&env.kindOf n==some .cell)=true then(n,pA)else(n,k0))::(r.map fun(n,k)=>if(k==mZ&&env.scope.kind== .function&&env.kindOf n==some .cell)then(n,pA)else(n,k)))=some k:=h;by_cases hc:(k0==mZ&&env.scope.kind== .function&&env.kindOf n==some .cell)=true
  .rw[if_pos hc]at h'
   cases hx:x==n with
   |true=>
    simp only[jx,hx]at h' ⊢;cases h';have:k0= .free:=by rw[bM,bM]at hc;simpa using hc.1.1
    exact .inr ⟨rfl,by rw[this]⟩
   |false=>simp only[jx,hx]at h' ⊢;exact ih h'
  .rw[if_neg hc]at h'
   cases hx:x==n with
   |true=>simp only[jx,hx]at h' ⊢;exact .inl h'|false=>simp only[jx,hx]at h' ⊢;exact ih h'
section
variable {X:Cx} {elt iter tg:Expr} {xs:List Str} {scope:Scope} {Nc:List Str} {cap:List Nat} {cl:List (Str×Addr)}
 {pins:List (Addr×Obj)} {s2:aj} {σ:St} {H2:Hp} {it:Addr} {fp:List Addr} {tn:Nat->Heap->Prop} {J:It}
theorem zG {prog:aZ} {w:aQ} {A:aL} {R:uy->aj->Prop} {s:aj} {elt tg iter:Expr} {ifs:List Expr} {scope:Scope} {pos:Pos} {it acc:Value} {env:Env} (J:Nat->aj->Prop)
  (turn:∀ m s0,J m s0->ak (aH prog w) A (mH it) (fun r s1=>match r with
   |none=>R (.ok .next) s1| some v=>ak (aH prog w) A (Qf tg it v) (fun _ s2=>ak (aH prog w) A (rH tg env v) (fun _ s3=>
     ak (aH prog w) A (forIn ifs true fun c r=>if r=true then do let ok<-rI c env (eval c env);pure (Dt ok)else pure (Dt r)) (fun b s4=>
      if b=true then ak (aH prog w) A (eval elt env) (fun x s5=>ak (aH prog w) A (call (.builtin "list.append") [acc,x]) (fun _ s6=>∃ k,k<m/\J k s6) (Dc (aH prog w) A env fun e z=>R (.error e) z) s5) (Dc (aH prog w) A env fun e z=>R (.error e) z) s4
      else ∃ k,k<m/\J k s4) (Dc (aH prog w) A env fun e z=>R (.error e) z) s3) (Dc (aH prog w) A env fun e z=>R (.error e) z) s2) (Dc (aH prog w) A env fun e z=>R (.error e) z) s1) (Dc (aH prog w) A env fun e z=>R (.error e) z) s0)
  (m:Nat) (h:J m s):jK (aH prog w) A (.compLoop (.ListComp elt [⟨tg,iter,ifs,0⟩] scope pos) 0 it acc env) R s:=by
 refine codeAny_loop rfl J ?_ m h;intro m s0 h0;have q:=turn m s0 h0;show ak _ A (Sem.onRaise (compTurn (.ListComp elt [⟨tg,iter,ifs,0⟩] scope pos) 0 it acc env) _) _ _ s0;apply wpAny_noted;rw[compTurn_list];apply aq;apply Xk;refine aq (thn q ?_);rintro(_|v) s1 q
 .exact aG q
 refine aq (thn q ?_);intro _ s2 q;refine aq (thn q ?_);intro _ s3 q;refine aq (thn q ?_);rintro(_|_) s4 q
 .exact aG ⟨rfl,q⟩
 refine aq (aq (thn q ?_));intro x s5 q;refine aq (thn q ?_);intro _ s6 q;exact aG (aG ⟨rfl,q⟩)
end
end L2
namespace DW
open PySem PySem.Spec PyProof.Rows
open L2 (aP Key frs wz Loc Look Mod tL cG mV fL gQ iU qX nC uO zG)
def cX (X:Cx) (Nc:List Str) (scope:Scope) (cl:List (Str×Addr)) (C:Addr):Cx:={X with N:=Nc,env:=Ox scope cl C X.env,oc:=fun y=>scope.names.lookup y==some .cell}
structure wA (X:Cx) (n:Nat) (scope:Scope) (Nc:List Str) (cap:List Nat):Prop where
 kind:scope.kind= .function
 cells:∀ y∈scope.names,y.2= .cell->scope.names.lookup y.1=some .cell
 names:∀ y∈scope.names,y.2= .local->scope.names.lookup y.1=some .local
 nd:Nc.Nodup
 caps:∀ (j:Nat) (y:Str),Nc[n+j]?=some y->∃ i,cap[j]?=some i/\X.N[i]?=some y/\scope.names.lookup y=some .free
 len:Nc.length=n+cap.length
 free:∀ y∈scope.names,y.2= .free->X.env.kindOf y.1=some .cell∨X.env.kindOf y.1=some .free
def PIf (X:Cx) (ifs:List Expr) (w:WT):Prop:=Jg X Alike (forIn ifs true fun c r=>if r=true then do let ok<-rI c X.env (eval c X.env);pure (Dt ok)else pure (Dt r)) w
noncomputable abbrev RN (cap:List Nat) (ρ:dH):dH:=cap.map fun i=>(ρ[i]?).join
section
variable {X:Cx} {ρ:dH} {θ θ1 θ':Th} {μ μ1 μ':Mem} {s s0 s1 s':aj} {h₁:Heap} {tk n:Nat} {fp:List Addr} {b it D C:Addr} {scope:Scope} {Nc:List Str} {cap:List Nat} {cl cf:List (Str×Addr)} {c elt iter tg:Expr} {ifs:List Expr} {w:WT} {pos:Pos}
theorem ah8:PIf X [] (fun _ μ Q=>Q true μ):=fun i h f=>by rw[Xy];exact aG (f i .refl rfl h)
theorem ah7 (hc:PT X c w):PIf X [c] w:=fun i h f=>by rw[PX];simp only[if_true];refine aq (aq (hc i h fun i1 g1 r1 h1=>aG ?_));show ak _ _ (forIn ([]:List Expr) _ _) _ _ _;rw[Xy];exact aG (f i1 g1 r1 h1)
theorem ai7 (T:wA X n scope Nc cap) (i:Iv X ρ θ μ s) (hD:s.heap.objs.size<=D) (hC:s.heap.objs.size<=C) (old:∀ b o,s.heap.get? b=some o->h₁.get? b=some o) (eD:∃ o,h₁.get? D=some o) (hns:h₁.Ns C fun _=>none)
  (hcl:∀ y c,cf.lookup y=some c->(scope.names.lookup y≠some .cell/\X.env.cells.lookup y=some c)∨(scope.names.lookup y=some .cell/\s.heap.objs.size<=c/\h₁.IsCell c none)) (alO:∀ y z c,cf.lookup y=some c->cf.lookup z=some c->y=z)
  (agw:∀ y∈scope.names,(y.2= .free∨y.2= .cell)->(cf.lookup y.1).isSome=true):
  Iv (cX X Nc scope cf C) (bD n none++RN cap ρ) ⟨θ.cs,D::θ.ex⟩ μ {s with heap:=h₁,toks:=tk}/\Kp θ μ s.heap ⟨θ.cs,D::θ.ex⟩ μ h₁:=by
 have kp:Kp θ μ s.heap ⟨θ.cs,D::θ.ex⟩ μ h₁:=⟨fun _ _ e=>e,fun b o e f l=>⟨old b o e,fun z=>by
  rcases z with z|z
  .rcases bC.mp z with rfl|z
   .exact absurd (f9 (bW e) hD) (jg _)
   .exact l (.inl z)
  .exact l (.inr z)⟩⟩
 have fr:∀ {b},s.heap.objs.size<=b->X.T.base.get? b=none/\¬pN θ μ b:=fun hb=>⟨(i.qP hb).1.1,fun z=>(i.qP hb).2 (.inr z)⟩;have kinds:∀ y,((Ox scope cf C X.env).kindOf y=some .cell∨(Ox scope cf C X.env).kindOf y=some .free)->scope.names.lookup y=some .free∨scope.names.lookup y=some .cell:=fun y hy=>by
  rcases hy with hy|hy
  .rcases gQ (env:=X.env) (show(scope.names.map _).lookup y=some .cell from hy)with z|⟨_,z⟩
   .exact .inr z
   .exact .inl z
  .rcases gQ (env:=X.env) (show(scope.names.map _).lookup y=some .free from hy)with z|⟨z,_⟩
   .exact .inl z
   .cases z
 refine⟨⟨⟨T.kind,i.ok.glob,i.ok.blt,alO,fun y hy=>?_,i.ok.hd,(fr hC).1,fun y c h=>?_⟩,⟨i.e.mod,i.e.frames,i.e.bare,fun b o e=>⟨old b o (i.e.bs b o e).1,(i.e.bs b o e).2⟩,fun v m=>?_,i.dJ.ex kp (fun b o _ e=>old b o e) fun b z=>?_,i.e.hh⟩,⟨_,hns,fun j y d h1 h2 h3=>?_⟩,fun y c h=>?_,(fr hC).2,?_⟩,kp⟩
 .rcases kinds y hy with z|z
  .exact Ft.mp (agw _ (jJ z) (.inl rfl))
  .exact Ft.mp (agw _ (jJ z) (.inr rfl))
 .rcases hcl y c h with⟨_,z⟩|⟨_,z,_⟩
  .exact i.ok.nbC y c z
  .exact(fr z).1
 .obtain⟨k,L,o,es,ep,f,nb,ho,hd,l⟩:=i.e.stk v m
  exact⟨k,L,o,es,ep,f,nb,old L o ho,hd,l⟩
 .rcases bC.mp z with rfl|z
  .exact⟨eD,(fr hD).2⟩
  .exact⟨let⟨o,q⟩:=i.dJ.bnd b (.inl z);⟨o,old b o q⟩,i.dJ.exc b z⟩
 .by_cases hix:j<n
  .rw[dU (by simpa using hix),YF]at h2
   split at h2<;>cases h2
  .obtain⟨j,rfl⟩:∃ k,j=n+k:=⟨j -n,by lia⟩
   obtain⟨i',e1,e2,e3⟩:=T.caps j y h1;have hv:ρ[i']?=some (some d):=by
    rw[nQ (by simp)]at h2;simp only[Yw,DP,RN,jy,e1,gR,qx]at h2;cases q:ρ[i']? with
    |none=>rw[q]at h2;cases h2
    |some w'=>rw[q]at h2;simp only[uL]at h2;rw[h2]
   obtain⟨mo,hno,hlo⟩:=i.loc;have hk:=T.free _ (jJ e3) rfl;obtain⟨u,r,l⟩:=hlo i' y d e2 hv (hk.elim (fun k=>.inr (.inl k)) fun k=>.inr (.inr k));refine⟨u,kp.rp r,.inr ⟨(fL (env:=X.env) e3).symm,?_⟩⟩;rcases l with⟨k,_⟩|⟨_,c,e,z⟩
   .rcases hk with k' |k' <;>(rw[k]at k';cases k')
   .obtain⟨c',ec⟩:=Ft.mp (agw _ (jJ e3) (.inl rfl))
    have ew:X.env.cells.lookup y=some c':=by
     rcases hcl y c' ec with⟨_,w⟩|⟨w,_⟩
     .exact w
     .rw[e3]at w;cases w
    have e':some c=some c':=e.symm.trans ew;cases e';obtain⟨oc,q1,q2⟩:=z;exact⟨c,ec,oc,old _ _ q1,q2⟩
 .rcases hcl y c h with⟨_,w⟩|⟨_,w,z⟩
  .obtain⟨⟨v,oc,q1,q2⟩,l⟩:=i.cell y c w
   exact⟨⟨v,oc,old _ _ q1,q2⟩,l⟩
  .exact⟨⟨none,z⟩,(fr w).2⟩
 .show(bD n none++RN cap ρ).length=Nc.length
  rw[T.len];simp[RN]
def Th.del (θ:Th) (D:Addr):Th:=⟨θ.cs,θ.ex.filter (·!=D)⟩
theorem lF {D b:Addr} {θ:Th}:b∈(θ.del D).ex<->b∈θ.ex/\b≠D:=by simp[Th.del]
theorem G.exr {V:Addr->Prop} {F:List Addr} {θ2:Th} (g:G V F θ μ s θ1 μ1 s1) (e:θ2.cs=θ1.cs) (x:Exk θ s.heap θ2):G V F θ μ s θ2 μ1 s1:=by obtain⟨cs,ex⟩:=θ2;cases e;exact⟨g.pre,g.keep,g.there,g.stay,g.os,x⟩
theorem alS {V:Addr->Prop} {D:Addr} (g:G (fun _=>False) (frs X.stack) θ μ s (θ1.del D) μ1 s1) (h:G V (frs X.stack) θ1 μ1 s1 θ' μ' s') (hv:∀ b,V b->s.heap.get? b=none):G (fun _=>False) (frs X.stack) θ μ s (θ'.del D) μ' s' where
 pre:=fun n p e=>h.pre n p (g.pre n p e)
 keep:=fun b o e l v=>by
  obtain⟨l1,sl,e1,f1⟩:=g.keep b o e l v;obtain⟨l2,sl2,e2,f2⟩:=h.keep b _ e1 l1 fun z=>by rw[hv b z]at e;cases e
  exact⟨l2,sl2,e2,fun z=>(f2 z).trans (f1 z)⟩
 there:=fun b o e=>let⟨o',e'⟩:=g.there b o e;h.there b o' e'
 stay:=fun n c e f=>h.stay n c (g.stay n c e f) f
 os:=h.os.trans g.os
 ex:=⟨fun b z=>let⟨y,n⟩:=lF.mp (g.ex.1 b z);lF.mpr ⟨h.ex.1 b y,n⟩,fun b z=>let⟨y,n⟩:=lF.mp z;(h.ex.2 b y).elim (fun q=>g.ex.2 b (lF.mpr ⟨q,n⟩)) fun q=>.inr (g.Y0 q)⟩
end
end DW
namespace DW
open PySem PySem.Spec PyProof.Rows
open L2 (aP Key frs wz Loc Look Mod tL cG mV fL gQ iU qX nC uO zG)
theorem Kl (caps:dH):∀ (ds:List D) (pre ρs:dH),ρs.length=ds.length->((fZ pre.length ds.length).zip ds).foldl (fun r p=>r.set p.1 (some p.2)) (pre++ρs++caps)=pre++ds.map some++caps
 |[],pre,ρs,h=>by
  have:ρs=[]:=by simpa using h
  subst this;simp
 |d::ds,pre,ρs,h=>by
  cases ρs with
  |nil=>simp at h|cons r ρs=>have ih:=Kl caps ds (pre++[some d]) ρs (by simpa using h);simp only[eO,bh,aN,Xe]at ih;simp only[bh,Du,Js,qu];(have e:(pre++r::ρs++caps).set pre.length (some d)=pre++[some d]++ρs++caps:=by simp);rw[e,ih];simp
theorem aje {tt:Bool} {n:Nat} {ρs caps:dH} {d:D} {k:dH->Prop} (hn:tt=false->n=1) (hl:ρs.length=n) (h:bindC n tt d caps k):fB (aU n) tt d (ρs++caps) fun ρ'=>(∃ ρt:dH,ρt.length=n/\ρ'=ρt++caps)/\k ρ':=by
 cases tt with
 |false=>
  cases hn rfl
  match ρs,hl with
  |[r],_=>exact⟨⟨[some d],rfl,rfl⟩,h⟩
 |true=>
  cases d with
  |tup ds=>obtain⟨h1,h2⟩:=(show ds.length=n/\k (ds.map some++caps)from h);show ds.length=(aU n).length/\_;have e:=Kl caps ds [] ρs (by rw[hl,h1]);simp only[aN,aO]at e;rw[Qx,<-h1,e];refine⟨by simp,⟨⟨ds.map some,by simp,rfl⟩,h2⟩⟩|_=>exact rO h
section
variable {X:Cx} {ρ:dH} {θ θ' θ0:Th} {μ μ' μ0:Mem} {s s' s0:aj} {n:Nat} {fp fx:List Addr} {it:Addr} {scope:Scope} {Nc:List Str} {cap:List Nat} {cl:List (Str×Addr)} {elt iter tg:Expr} {ifs:List Expr} {cw:WT} {ew:WE} {pos:Pos} {xs:List D} {g:Mem->Prop} {S:Nat->Th->Mem->Heap->Prop} {tt m:Bool} {Qd:QD} {E:Value->aj->Prop}
theorem Vn (T:wA X n scope Nc cap) (hn:tt=false->n=1) (abY:∀ y c,cl.lookup y=some c->X.env.cells.lookup y=some c) (am2:∀ y∈scope.names,y.2= .free->(cl.lookup y.1).isSome=true)
  (i00:Iv X ρ θ0 μ0 s0) (g0:G0 X θ0 μ0 s0 θ μ s) (i:Iv X ρ θ μ s) (W:Wk X.T X.A tg it fp fx xs g S) (st:S 0 θ μ s.heap) (hf:∀ b∈fp,zO X b/\(¬pN θ μ b/\(b∈fx∨b∉θ.ex))/\s0.heap.get? b=none) (hlen:xs.length<=sizeLine)
  (hG:∀ cl C,PG (cX X Nc scope cl C) tg (fun d ρ k=>fB (aU n) tt d ρ k)) (hT:∀ cl C,PIf (cX X Nc scope cl C) ifs cw) (hE:∀ cl C,PE (cX X Nc scope cl C) elt ew)
  (h:iW (fun d k=>bindC n tt d (RN cap ρ) k) cw ew g xs [] μ fun vs μ2=>newL m vs μ2 Qd) {RR:Value->Addr->uy->aj->Prop}
  (fin:∀ {C mC d u s' θ' μ'},zO X C->¬Mh θ' μ' C->s0.heap.get? C=none->s'.heap.Ns C mC->Iv X ρ θ' μ' s'->G0 X θ0 μ0 s0 θ' μ' s'->Rp s'.heap θ' μ' d u->Qd d μ'->RR u C (.ok .next) s'):
  ak X.M X.A (newList []) (fun acc s₃=>ak X.M X.A (Xz scope X.env.globals cl [] X.env.qual none .none (some X.env)) (fun cenv s₄=>jK X.M X.A (.compStart (.ListComp elt [⟨tg,iter,ifs,0⟩] scope pos) 0 (.ref it) acc {cenv with scope:=Iw scope X.env}) (RR acc cenv.locals) s₄) E s₃) E s:=by
 refine wZ (uO ?_);generalize hD:s.heap.objs.size=D;generalize hs1:s.heap.push {cls:=.type "list",dict:=none,data:=.seq ([]:List Value).toArray}=h1;have hC:h1.objs.size=D+1:=by rw[<-hs1,<-hD];exact yx ..
 generalize hcf:g8 (h1.objs.size+1) scope.names cl=cf;generalize hh₁:pushCells (h1.push {cls:=.type "dict",data:=.dict #[]}) scope.names=h₁;have amI:∀ b o,h1.get? b=some o->h₁.get? b=some o:=fun b o e=>by rw[<-hh₁];exact adS _ _ b o (eV _ e)
 have old:∀ b o,s.heap.get? b=some o->h₁.get? b=some o:=fun b o e=>amI b o (by rw[<-hs1];exact eV _ e);have eD:h₁.get? D=some {cls:=.type "list",dict:=none,data:=.seq ([]:List Value).toArray}:=amI _ _ (by rw[<-hs1,<-hD];exact gU _ rfl);have hns:h₁.Ns h1.objs.size (fun _=>none):=by rw[<-hh₁];exact(Heap.Ns.new _ (.type "dict")).keeps (adS _ _)
 have e2s:(h1.push {cls:=.type "dict",data:=.dict #[]}).objs.size=h1.objs.size+1:=yx ..;have own:=cellsFrom_ok scope.names (h1.push {cls:=.type "dict",data:=.dict #[]}) (h1.objs.size+1) [] ⟨fun _ _ hm=>(nomatch hm),aen⟩ (by rw[e2s];exact aA _);rw[e2s,hh₁]at own;rw[iU]at hcf;generalize how:g8 (h1.objs.size+1) scope.names []=ow at own hcf;have lk:∀ y c,cf.lookup y=some c->(scope.names.lookup y≠some .cell/\cl.lookup y=some c)∨ow.lookup y=some c:=fun y c h=>by
  rw[<-hcf,Qq]at h;cases q:ow.lookup y with
  |some c'=>rw[q]at h;exact .inr h|none=>rw[q]at h;refine .inl ⟨fun z=>?_,h⟩;have:=nC scope.names (h1.objs.size+1) y (jJ z);rw[how,q]at this;cases this
 have owC:∀ y c,ow.lookup y=some c->scope.names.lookup y=some .cell/\h1.objs.size<c/\h₁.IsCell c none:=fun y c h=>by have hm:=jJ h;have h2:=qX scope.names _ y c (by rw[how];exact hm);exact⟨T.cells _ h2 rfl,(own.empty y c hm).2,(own.empty y c hm).1⟩
 have ag8:∀ y (c:Nat),X.env.cells.lookup y=some c->c<D:=fun y c e=>by obtain⟨⟨v,o,q,_⟩,_⟩:=i.cell y c e;rw[<-hD];exact bW q
 have hcl:∀ y c,cf.lookup y=some c->(scope.names.lookup y≠some .cell/\X.env.cells.lookup y=some c)∨(scope.names.lookup y=some .cell/\h1.objs.size<c/\h₁.IsCell c none):=fun y c h=>(lk y c h).imp (fun z=>⟨z.1,abY y c z.2⟩) (owC y c)
 have alO:∀ y z c,cf.lookup y=some c->cf.lookup z=some c->y=z:=fun y z c k1 k2=>by
  rcases lk y c k1 with⟨a1,a2⟩|a<;>rcases lk z c k2 with⟨b1,b2⟩|b
  .exact i.ok.inj y z c (abY _ _ a2) (abY _ _ b2)
  .have:=ag8 y c (abY _ _ a2);have:=(owC z c b).2.1;lia
  .have:=ag8 z c (abY _ _ b2);have:=(owC y c a).2.1;lia
  .exact WQ own.apart (jJ a) (jJ b)
 have agw:∀ y∈scope.names,(y.2= .free∨y.2= .cell)->(cf.lookup y.1).isSome=true:=fun y hy hk=>by
  rw[<-hcf,Qq];rcases hk with hk|hk
  .obtain⟨c,e⟩:=Ft.mp (am2 y hy hk)
   rw[e];cases ow.lookup y.1<;>rfl
  .have:=nC scope.names (h1.objs.size+1) y.1 (by rw[<-hk];exact hy)
   rw[how]at this;obtain⟨c,e⟩:=Ft.mp this;rw[e];rfl
 clear lk owC own how hcf am2 abY;dsimp only at hns ⊢;have Z1:D<h1.objs.size:=by rw[hC];exact Qj D
 have hDC:s.heap.objs.size<=D:=adD hD;obtain⟨i0,kp0⟩:=ai7 (tk:=s.toks) T i hDC (by lia) old ⟨_,eD⟩ hns (fun y c q=>(hcl y c q).imp id fun⟨a,b,e⟩=>⟨a,by lia,e⟩) alO agw;have none_:∀ {b},D<=b->s.heap.get? b=none:=fun {b} hb=>by
  cases e:s.heap.get? b with
  |none=>rfl|some o=>exact absurd (f9 (bW e) (hD▸hb)) (jg _)
 have aoh:∀ b,(cX X Nc scope cf h1.objs.size).own b->s0.heap.get? b=none:=fun b z=>g0.JF<|by
  rcases z with rfl|⟨x,hx,e⟩
  .exact none_ (by show D<=h1.objs.size;lia)
  .have hx:scope.names.lookup x=some .cell:=eq_of_beq hx
   rcases hcl x b e with⟨z,_⟩|⟨_,z,_⟩
   .exact absurd hx z
   .exact none_ (by lia)
 have fD:=i.qP hDC;have fC:=i.qP (b:=h1.objs.size) (by lia);have fp':∀ b∈fp,zO (cX X Nc scope cf h1.objs.size) b/\b≠D:=fun b hb=>by
  obtain⟨o,e,_⟩:=W.obj st b hb;have lt:=bW e;rw[hD]at lt;obtain⟨f1,f2,f3,f4⟩:=(hf b hb).1;refine⟨⟨f1,f2,jf (Dp lt Z1),fun y c q=>?_⟩,jf lt⟩;rcases hcl y c q with⟨_,z⟩|⟨_,z,_⟩
  .exact f4 y c z
  .exact rQ (Dp (Dp lt Z1) z)
 have fpD:zO (cX X Nc scope cf h1.objs.size) D:=⟨fD.1.1,fD.1.2.1,by show D≠h1.objs.size;lia,fun y c q=>by
  rcases hcl y c q with⟨_,z⟩|⟨_,z,_⟩
  .exact fD.1.2.2.2 y c z
  .exact rQ (Dp Z1 z)⟩
 have loop:jK X.M X.A (.compLoop (.ListComp elt [⟨tg,iter,ifs,0⟩] scope pos) 0 (.ref it) (.ref D) (Ox scope cf h1.objs.size X.env)) (RR (.ref D) h1.objs.size) {s with heap:=h₁,toks:=s.toks}:=by
  refine zG (fun k s'=>∃ j acc us ρs θ' μ' nn,k=xs.length -j/\j<=xs.length/\us.length<=j/\ρs.length=n/\Iv (cX X Nc scope cf h1.objs.size) (ρs++RN cap ρ) θ' μ' s'/\G (fun _=>False) (frs X.stack) θ0 μ0 s0 (θ'.del D) μ' s'/\(D∈θ'.ex/\h1.objs.size∉θ'.ex)/\S j θ' μ' s'.heap/\(∀ b∈fp,¬pN θ' μ' b/\(b∈fx∨b∉θ'.ex))/\
    s'.heap.get? D=some {cls:=.type "list",data:=.seq us.toArray nn}/\¬pN θ' μ' D/\dh s'.heap θ' μ' acc us/\iW (fun d k=>bindC n tt d (RN cap ρ) k) cw ew g (xs.drop j) acc μ' fun vs μ2=>newL m vs μ2 Qd) ?_ xs.length
   ⟨0,[],[],bD n none,⟨θ.cs,D::θ.ex⟩,μ,0,rfl,jG _,aA _,by simp,i0,G.exr (g0.trans (cW (tk:=s.toks) old)) rfl ⟨fun b z=>lF.mpr ⟨jh _ (g0.ex.1 b z),fun q=>by obtain⟨o,e⟩:=i.dJ.bnd b (.inl (g0.ex.1 b z));rw[q,none_ (aA _)]at e;cases e⟩,fun b z=>by obtain⟨y,n⟩:=lF.mp z;exact g0.ex.2 b ((bC.mp y).resolve_left n)⟩,⟨w7,fun z=>(bC.mp z).elim (rQ Z1) fun z=>fC.2 (.inl z)⟩,W.mono st kp0 (fun b z=>jh _ z) fun b _ o e=>old b o e,fun b z=>⟨(hf b z).2.1.1,(hf b z).2.1.2.imp id fun y q=>(bC.mp q).elim (fp' b z).2 y⟩,eD,fun z=>fD.2 (.inr z),.nil,h⟩
  .rintro k s1 ⟨j,acc,us,ρs,θ1,μ1,nn,rfl,hj,hu,hρ,i1,g1,ex1,st1,nl1,e1,lD,rs,hw⟩
   have w1:=i1.dJ;have own:∀ b,b∈fp∨b=D->¬(cX X Nc scope cf h1.objs.size).own b:=fun b z y=>by
    have f:zO (cX X Nc scope cf h1.objs.size) b:=z.elim (fun z=>(fp' b z).1) fun z=>z▸fpD;rcases y with y|⟨x,_,e⟩
    .exact f.2.2.1 y
    .exact f.2.2.2 x b e rfl
   have dfp:D∉fp:=fun z=>(fp' D z).2 rfl;have frN:∀ b∈fp,s0.heap.get? b=none:=fun b z=>(hf b z).2.2;by_cases hlt:j<xs.length
   .rw[Io hlt]at hw
    obtain⟨Zk,hw⟩:=hw;refine iu (W.item (Q2:=fun u s3=>∃ h' tk,s3={s1 with heap:=h',toks:=tk}/\(∀ b o,b∉fp->s1.heap.get? b=some o->h'.get? b=some o)/\S (j+1) θ1 μ1 h'/\Rp h' θ1 μ1 xs[j] u) st1 w1 (fun b z=>(nl1 b z).1) Zk (dw hlt)
     fun ke st3 r3=>⟨_,_,rfl,ke,st3,r3⟩) (fun r s3 ⟨u,hr,h3⟩=>?_) fun _ _ x=>x
    subst hr;refine iu h3 (fun _ s4 ⟨h',tk,e4,ke,st4,r4⟩=>?_) fun _ _ x=>x;subst e4;obtain⟨i4,kp4⟩:=i1.turn (tk:=tk) (fun b z=>⟨(fp' b z).1,(nl1 b z).1⟩) (W.ho st1) ke fun b _ z=>let⟨o,x,_⟩:=W.obj st4 b z;⟨o,x⟩;have g4:G (fun _=>False) (frs X.stack) θ0 μ0 s0 (θ1.del D) μ1 {s1 with heap:=h',toks:=tk}:=zu g1 frN ke;have e4:=ke D _ dfp e1;have rs4:=kp4.Gr rs;obtain⟨mC,⟨oC,_,_,eC,_⟩,_⟩:=i4.loc;replace eC:h'.get? h1.objs.size=some oC:=eC;have stp:∀ {θ' μ' s'},GS (cX X Nc scope cf h1.objs.size) θ1 μ1 {s1 with heap:=h',toks:=tk} θ' μ' s'->G (fun _=>False) (frs X.stack) θ0 μ0 s0 (θ'.del D) μ' s'/\(D∈θ'.ex/\h1.objs.size∉θ'.ex)/\S (j+1) θ' μ' s'.heap/\(∀ b∈fp,¬pN θ' μ' b/\(b∈fx∨b∉θ'.ex))/\
      s'.heap.get? D=some {cls:=.type "list",data:=.seq us.toArray nn}/\¬pN θ' μ' D/\dh s'.heap θ' μ' acc us:=fun {θ' μ' s'} gs=>by
     have kept:∀ b,(b∈fp∨b=D)->¬pN θ1 μ1 b->b∉frs X.stack->∀ o,h'.get? b=some o->s'.heap.get? b=some o/\¬pN θ' μ' b:=fun b z l f o e=>by obtain⟨l',sl,q,w⟩:=gs.keep b o e l (own b z);rw[w f]at q;exact⟨q,l'⟩
     have kpf:∀ b∈fp,∀ o,h'.get? b=some o->s'.heap.get? b=some o/\¬pN θ' μ' b:=fun b z=>kept b (.inl z) (nl1 b z).1 (hf b z).1.2.1;obtain⟨k1,k2⟩:=kept D (.inr rfl) lD fD.1.2.1 _ e4;refine⟨alS g4 gs aoh,⟨gs.ex.1 D ex1.1,fun y=>(gs.ex.2 _ y).elim ex1.2 fun q=>by rw[show h'.get? _=none from q]at eC;cases eC⟩,W.mono st4 (i4.kpS gs) gs.ex.1 fun b z o e=>(kpf b z o e).1,fun b z=>?_,k1,k2,(i4.kpS gs).Gr rs4⟩;obtain⟨o,e,_⟩:=W.obj st4 b z;exact⟨(kpf b z o e).2,(nl1 b z).2.imp id fun y q=>(gs.ex.2 b q).elim y fun q=>by rw[show h'.get? b=none from q]at e;cases e⟩
    refine hG cf h1.objs.size i4 r4 (aje hn hρ hw) fun {ρ5 s5} i5 g5 ⟨⟨ρt,hρt,eρ⟩,q5⟩=>?_;subst eρ;refine hT cf h1.objs.size i5 q5 fun {t t' s6 θ6 μ6} i6 g6 r6 h6=>?_;cases r6;cases t with
    |false=>rw[if_neg fH]at h6 ⊢;obtain⟨a1,a2,a3,a4,a5,a6,a7⟩:=stp (g5.trans g6.gs);exact⟨xs.length -(j+1),by lia,j+1,acc,us,ρt,θ6,μ6,nn,rfl,hlt,by lia,hρt,i6,a1,a2,a3,a4,a5,a6,a7,h6⟩|true=>
     rw[if_pos rfl]at h6 ⊢;refine hE cf h1.objs.size i6 h6 fun {d u7 s7 θ7 μ7} i7 g7 r7 h7=>?_;obtain⟨a1,a2,a3,a4,a5,a6,a7⟩:=stp (g5.trans (g6.trans g7).gs);refine jt Xo ⟨_,a5,rfl⟩ aeL (aeU _ _) (aej D us.toArray nn u7 (by rw[cB];lia)) ⟨a5,?_⟩;have q:=ad3 a5 (fun a=>a.push u7);rw[show us.toArray.push u7=(us++[u7]).toArray by simp]at q;have kk:∀ b o,b∉[D]->s7.heap.get? b=some o->(s7.heap.update D (ig fun a=>a.push u7)).get? b=some o:=fun b o hb e=>(nP s7.heap _ (bL (by simpa using hb))).trans e;have dx:D∈θ7.ex:=a2.1;(obtain⟨i8,kp8⟩:=i7.turn (fp:=[D]) (tk:=s7.toks) (fun b z=>by cases cH.mp z;exact⟨fpD,a6⟩) (fun b z=>by cases cH.mp z;exact .inl dx) kk fun b _ z=>by cases cH.mp z;exact⟨_,q⟩);exact⟨xs.length -(j+1),by lia,j+1,acc++[d],us++[u7],ρt,θ7,μ7,_,rfl,hlt,by simp;lia,hρt,i8,zu a1 (fp:=[D]) (fun b z=>by cases cH.mp z;exact g0.JF (none_ (aA _))) kk,a2,
      W.mono a3 kp8 (fun _ z=>z) fun b z o e=>kk b o (fun y=>dfp (cH.mp y▸z)) e,a4,q,a6,(kp8.Gr a7).append (.one (kp8.rp r7)),h7⟩
   .have e:j=xs.length:=by lia
    subst e;rw[adY]at hw;obtain⟨Zk,hw⟩:=hw;refine W.done (Q:=_) st1 w1 i1.e.hds (fun b z=>(nl1 b z).1) Zk fun {h' tk} ke te=>?_;obtain⟨i4,kp4⟩:=i1.turn (tk:=tk) (fun b z=>⟨(fp' b z).1,(nl1 b z).1⟩) (W.ho st1) ke fun b y z=>te b ((nl1 b z).2.resolve_right fun q=>q y);have g4:G (fun _=>False) (frs X.stack) θ0 μ0 s0 (θ1.del D) μ1 {s1 with heap:=h',toks:=tk}:=zu g1 frN ke;have e4:=ke D _ dfp e1;have rs4:=kp4.Gr rs;obtain⟨mC,hnC,_⟩:=i4.loc;have hu':us.length<=sizeLine:=gD hu hlen;have exO:∀ b∈(θ1.del D).ex,(∃ o,h'.get? b=some o)/\¬pN θ1 μ1 b/\b≠D:=fun b z=>by obtain⟨y,q⟩:=lF.mp z;exact⟨i4.dJ.bnd b (.inl y),i4.dJ.exc b y,q⟩
    have dx:D∈θ1.ex:=ex1.1;have cN:h1.objs.size∉(θ1.del D).ex:=fun z=>ex1.2 (lF.mp z).1;cases m with
    |false=>have kpE:Kp θ1 μ1 h' (θ1.del D) μ1 h':=⟨fun _ _ e=>e,fun b o e f l=>⟨e,fun y=>y.elim (fun y=>l (.inl (lF.mp y).1)) fun y=>l (.inr y)⟩⟩;have wE:pL X.T (θ1.del D) μ1 h':=pL.ex i4.dJ kpE (fun _ _ _ e=>e) fun b z=>⟨(exO b z).1,(exO b z).2.1⟩;exact fin (d:=.lst acc) (θ':=θ1.del D) (μ':=μ1) (s':={s1 with heap:=h',toks:=tk}) fC.1 (fun y=>y.elim cN i4.nl) (g0.JF (none_ (pU Z1))) hnC (i00.to g4 wE i4.e.bare) g4 ⟨D,us,rfl,⟨hu',nn,e4⟩,fun y=>y.elim (fun y=>(exO D y).2.2 rfl) lD,kpE.Gr rs4⟩ hw
    |true=>
     have kpE:Kp θ1 μ1 h' ⟨θ1.cs++[(D,D)],(θ1.del D).ex⟩ (μ1++[.lst acc]) h':=⟨fun _ _ e=>jA e,fun b o e f l=>⟨e,fun y=>y.elim (fun y=>l (.inl (lF.mp y).1)) (Bf i4.dJ (p:=(D,D)) (fun y=>l (.inr y)) (fun q=>l (.inl (q▸dx))) fun q=>l (.inl (q▸dx)))⟩⟩;have wE:pL X.T ⟨θ1.cs++[(D,D)],(θ1.del D).ex⟩ (μ1++[.lst acc]) h':=pL.add i4.dJ kpE lD lD (fun _ _ _ e=>e) (fun b z=>⟨(exO b z).1,(exO b z).2.1,(exO b z).2.2,(exO b z).2.2⟩) (fun b z=>by have z:b=D:=z.elim id id;rw[z];exact⟨_,e4⟩) ⟨us,⟨hu',nn,e4⟩,kpE.Gr rs4,rfl⟩;have gE:G0 X θ0 μ0 s0 ⟨θ1.cs++[(D,D)],(θ1.del D).ex⟩ (μ1++[.lst acc]) {s1 with heap:=h',toks:=tk}:=⟨fun n p e=>jA (g4.pre n p e),fun b o e l v=>by obtain⟨l',sl,q,w⟩:=g4.keep b o e l v;(have nD:b≠D:=fun z=>by rw[z,g0.JF (none_ (aA _))]at e;cases e);exact⟨Bf i4.dJ (p:=(D,D)) l' nD nD,sl,q,w⟩,g4.there,fun n c e f=>jA (g4.stay n c e f),g4.os,g4.ex⟩
     have cD:h1.objs.size≠D:=rQ Z1;exact fin (d:=.loc μ1.length) (θ':=⟨θ1.cs++[(D,D)],(θ1.del D).ex⟩) (μ':=μ1++[.lst acc]) (s':={s1 with heap:=h',toks:=tk}) fC.1 (fun y=>y.elim cN (Bf i4.dJ (p:=(D,D)) i4.nl cD cD)) (g0.JF (none_ (pU Z1))) hnC (i00.to gE wE i4.e.bare) gE ⟨(D,D),rfl,by rw[<-i4.dJ.len];simp⟩ (show Qd (.loc μ1.length) (μ1++[.lst acc])from hw)
 exact codeAny_compStart_list loop (W.self (W.mono st kp0 (fun b z=>jh _ z) fun b _ o e=>old b o e) loop)
theorem Np (T:wA X n scope Nc cap) (i:Iv X ρ θ μ s):∃ cl,WW scope X.env=pure cl/\(∀ y c,cl.lookup y=some c->X.env.cells.lookup y=some c)/\∀ y∈scope.names,y.2= .free->(cl.lookup y.1).isSome=true:=
 mV fun y hy hf=>i.ok.has y.1 (T.free y hy hf)
theorem ab0 {C:Addr} {h':Heap} {mC:Str->Option Value} {tk:Nat} (i:Iv X ρ θ μ s) (g:G (fun _=>False) (frs X.stack) θ0 μ0 s0 θ μ s) (fC:zO X C) (nl:¬Mh θ μ C) (h0:s0.heap.get? C=none) (hn:s.heap.Ns C mC) (sb:Xi C s.heap h'):
  Iv X ρ θ μ {s with heap:=h',toks:=tk}/\G (fun _=>False) (frs X.stack) θ0 μ0 s0 θ μ {s with heap:=h',toks:=tk}/\Kp θ μ s.heap θ μ h':=by
 have k:∀ b o,b∉[C]->s.heap.get? b=some o->h'.get? b=some o:=fun b o z e=>(sb.2 b (by simpa using z)).trans e;obtain⟨o,_,_,e,d,_⟩:=hn;obtain⟨i',kp⟩:=i.turn (fp:=[C]) (tk:=tk) (fun b z=>by cases cH.mp z;exact⟨fC,fun y=>nl (.inr y)⟩) (fun b z=>by cases cH.mp z;exact .inr ⟨o,e,ou d⟩) k fun b y z=>by cases cH.mp z;exact(nl (.inl y)).elim
 exact⟨i',zu g (fp:=[C]) (fun b z=>by cases cH.mp z;exact h0) k,kp⟩
theorem aik {wi:WI} (T:wA X n scope Nc cap) (hn:tt=false->n=1) (hi:PI X tg iter wi) (hG:∀ cl C,PG (cX X Nc scope cl C) tg (fun d ρ k=>fB (aU n) tt d ρ k)) (hT:∀ cl C,PIf (cX X Nc scope cl C) ifs cw) (hE:∀ cl C,PE (cX X Nc scope cl C) elt ew)
  (hs:∀ v,Qm iter X.env v=pure v):PE X (.ListComp elt [⟨tg,iter,ifs,0⟩] scope pos) (fun ρ μ Q=>wi ρ μ fun ds g μ1=>iW (fun d k=>bindC n tt d (RN cap ρ) k) cw ew g ds [] μ1 fun vs μ2=>newL m vs μ2 Q):=fun {s ρ θ μ Qd Q E} i h f=>by
 rw[eval_ListComp];obtain⟨cl,e1,e2,e3⟩:=Np T i;refine afd (use:=none) rfl hs e1 T.kind T.names (hi i h fun {xs g s1 θ1 μ1 it fp fx S} i1 g1 W st hf hl h1=>?_);exact Vn (RR:=fun acc C=>compPost X.M X.A E none Q acc C) T hn e2 e3 i g1 i1 W st hf hl hG hT hE h1 fun {C mC d u s' θ' μ'} fC nl h0 hnC i2 g2 r2 q2=>⟨mC,hnC,fun h' sb=>by obtain⟨i3,g3,kp⟩:=ab0 (tk:=s'.toks) i2 g2 fC nl h0 hnC sb;exact f i3 g3 (kp.rp r2) q2⟩
theorem YW {wi:WI} {j:Nat} {t:Str} {pt pos2:Pos} (T:wA X n scope Nc cap) (hn:tt=false->n=1) (hi:PI X tg iter wi) (hG:∀ cl C,PG (cX X Nc scope cl C) tg (fun d ρ k=>fB (aU n) tt d ρ k)) (hT:∀ cl C,PIf (cX X Nc scope cl C) ifs cw) (hE:∀ cl C,PE (cX X Nc scope cl C) elt ew)
  (hs:∀ v,Qm iter X.env v=pure v) (hN:X.N.Nodup) (hti:X.N[j]?=some t) (htl:X.env.scope.names.lookup t=some .local) (hsw:yg (.ListComp elt [⟨tg,iter,ifs,0⟩] scope pos) (some (.Name t pt)) pos2.line X.env=pure true):
  PS X (.Assign [.Name t pt] (.ListComp elt [⟨tg,iter,ifs,0⟩] scope pos) pos2) (fun Z ρ μ=>wi ρ μ fun ds g μ1=>iW (fun d k=>bindC n tt d (RN cap ρ) k) cw ew g ds [] μ1 fun vs μ2=>newL m vs μ2 fun d μ3=>Z.nx (ρ.set j (some d)) μ3):=fun {s ρ θ μ Z Q E} hp i h f=>by
 rw[exec_Assign_Name_used _ _ _ _ hsw];obtain⟨cl,e1,e2,e3⟩:=Np T i;refine aq (Xk (aq ?_));show ak _ X.A (do let _<-comprehension (.ListComp elt [⟨tg,iter,ifs,0⟩] scope pos) scope X.env _ (newList []) false (eval iter X.env) (some (rH (.Name t pt) X.env))) _ _ s;refine aq (iu (afd (use:=some (rH (.Name t pt) X.env)) (Q:=fun _ s'=>Q .next s') rfl hs e1 T.kind T.names
  (hi i h fun {xs g s1 θ1 μ1 it fp fx S} i1 g1 W st hf hl h1=>?_)) (fun _ s' q=>aG (aG q)) fun _ _ e=>e)
 refine Vn (Qd:=fun d μ3=>Z.nx (ρ.set j (some d)) μ3) (RR:=fun acc C=>compPost X.M X.A E (some (rH (.Name t pt) X.env)) (fun _ s'=>Q .next s') acc C) T hn e2 e3 i g1 i1 W st hf hl hG hT hE h1 fun {C mC d u s' θ' μ'} fC nl h0 hnC i2 g2 r2 q2=>?_;show ak _ X.A (rH (.Name t pt) X.env u) _ _ s';refine Yc (zZ i2 hN hti (.inl htl) r2 fun {s4} i4 g4=>?_);obtain⟨o,es,ep,e,d',sk,fd⟩:=id hnC;have own:¬X.own C:=fun y=>by
  rcases y with y|⟨x,_,e⟩
  .exact fC.2.2.1 y
  .exact fC.2.2.2 x C e rfl
 obtain⟨_,sl,q,w⟩:=g4.keep C o e (fun y=>nl (.inr y)) own;have hn4:s4.heap.Ns C mC:=⟨_,es,ep,q,d',sk,fd⟩;refine⟨mC,hn4,fun h' sb=>?_⟩;have k:∀ b o,b∉[C]->s4.heap.get? b=some o->h'.get? b=some o:=fun b o z e=>(sb.2 b (by simpa using z)).trans e;obtain⟨i5,kp⟩:=i4.turn (fp:=[C]) (h':=h') (tk:=s4.toks) (fun b z=>by cases cH.mp z;exact⟨fC,fun y=>nl (.inr y)⟩) (fun b z=>by cases cH.mp z;exact .inr ⟨_,q,ou d'⟩) k fun b y z=>by cases cH.mp z;exact(nl (.inl y)).elim
 exact f.nx i5 (zu (g2.gs.trans g4) (fp:=[C]) (fun b z=>by cases cH.mp z;exact h0) k) q2
end
end DW
namespace DW
open PySem
def aC (N:List Str) (ds:List D):dH:=ds.map some++bD (N.length -ds.length) none
def bH (Q:QD):j6:=⟨fun _ μ=>Q .non μ,Q,fun _ _=>False,fun _ _=>False,fun _ _ _ _ _=>False⟩
def amv (Q:QD) (X:QX):j6:=⟨fun _ μ=>Q .non μ,Q,fun _ _=>False,fun _ _=>False,fun _=>X⟩
def Keeps (N:List Str) (i:Ss) (sp:dz):Prop:=∀ ds μ Q,sp ds μ Q->wSs i (bH Q) (aC N ds) μ
def ahk (N:List Str) (i:Ss) (sp:qZ):Prop:=∀ ds μ Q X,sp ds μ Q X->wSs i (amv Q X) (aC N ds) μ
def Mv:dz:=fun ds μ Q=>∃ ns:List Int,ds=[.ro (ns.map D.int)]/\ns.length<=63/\∀ μ',Q (.bl true) μ'
theorem cV (Inv:List D->dH->Mem->Prop)
  (hs:∀ d ds ρ μ N,(∀ ρ μ,Inv ds ρ μ->N ρ μ)->Inv (d::ds) ρ μ->g μ/\bnd d ρ fun ρ'=>bw {Z with nx:=N,ct:=N,bk:=Z.nx} ρ' μ)
  (he:∀ ρ μ,Inv [] ρ μ->g μ/\Z.nx ρ μ):∀ (ds:List D) (ρ:dH) (μ:Mem),Inv ds ρ μ->Fg bnd bw g Z ds ρ μ
 |[],ρ,μ,h=>he ρ μ h|d::ds,ρ,μ,h=>hs d ds ρ μ _ (fun ρ μ q=>cV Inv hs he ds ρ μ q) h
theorem qd (Inv:List D->List D->Mem->Prop)
  (hs:∀ d ds acc μ (Y:D->Mem->Prop) (N:Mem->Prop),(∀ v μ,Inv ds (acc++[v]) μ->Y v μ)->(∀ μ,Inv ds acc μ->N μ)->Inv (d::ds) acc μ->g μ/\bnd d fun ρ=>cw ρ μ fun b μ1=>if b=true then ew ρ μ1 (fun v μ2=>Y v μ2)else N μ1)
  (he:∀ acc μ,Inv [] acc μ->g μ/\Q acc μ):∀ (ds acc:List D) (μ:Mem),Inv ds acc μ->iW bnd cw ew g ds acc μ Q
 |[],acc,μ,h=>he acc μ h|d::ds,acc,μ,h=>hs d ds acc μ (fun v μ2=>iW bnd cw ew g ds (acc++[v]) μ2 Q) (fun μ1=>iW bnd cw ew g ds acc μ1 Q) (fun v μ q=>qd Inv hs he ds (acc++[v]) μ q) (fun μ q=>qd Inv hs he ds acc μ q) h
theorem Cr (p:D->Bool) (f:D->D) (hg:g μ):
  ∀ (ds acc:List D),(∀ d∈ds,∀ (Y:D->Mem->Prop) (N:Mem->Prop),(if p d=true then Y (f d) μ else N μ)->bnd d fun ρ=>cw ρ μ fun b μ1=>if b=true then ew ρ μ1 (fun v μ2=>Y v μ2)else N μ1)->
   Q (acc++(ds.filter p).map f) μ->iW bnd cw ew g ds acc μ Q
 |[],acc,_,h=>⟨hg,by simpa using h⟩|d::ds,acc,hs,h=>by
  refine⟨hg,hs d (by simp) (fun v μ2=>iW bnd cw ew g ds (acc++[v]) μ2 Q) (fun μ1=>iW bnd cw ew g ds acc μ1 Q) ?_⟩;by_cases q:p d=true
  .rw[if_pos q]
   refine Cr p f hg ds _ (fun e he=>hs e (by simp[he])) ?_;rw[Jx q]at h;simpa using h
  .rw[if_neg q]
   refine Cr p f hg ds _ (fun e he=>hs e (by simp[he])) ?_;rw[QC q]at h;exact h
theorem gO (c:α->D) (p:α->Bool) (f:α->D) (hg:g μ):
  ∀ (l:List α) (acc:List D),(∀ x∈l,∀ (Y:D->Mem->Prop) (N:Mem->Prop),(if p x=true then Y (f x) μ else N μ)->bnd (c x) fun ρ=>cw ρ μ fun b μ1=>if b=true then ew ρ μ1 (fun v μ2=>Y v μ2)else N μ1)->
   Q (acc++(l.filter p).map f) μ->iW bnd cw ew g (l.map c) acc μ Q
 |[],acc,_,h=>⟨hg,by simpa using h⟩|d::ds,acc,hs,h=>by
  refine⟨hg,hs d (by simp) (fun v μ2=>iW bnd cw ew g (ds.map c) (acc++[v]) μ2 Q) (fun μ1=>iW bnd cw ew g (ds.map c) acc μ1 Q) ?_⟩;by_cases q:p d=true
  .rw[if_pos q]
   refine gO c p f hg ds _ (fun e he=>hs e (by simp[he])) ?_;rw[Jx q]at h;simpa using h
  .rw[if_neg q]
   refine gO c p f hg ds _ (fun e he=>hs e (by simp[he])) ?_;rw[QC q]at h;exact h
theorem dI (c:α->D) (f:α->D) (hg:g μ)
  (l:List α) (acc:List D) (hs:∀ x∈l,∀ (Y:D->Mem->Prop) (N:Mem->Prop),Y (f x) μ->bnd (c x) fun ρ=>cw ρ μ fun b μ1=>if b=true then ew ρ μ1 (fun v μ2=>Y v μ2)else N μ1)
  (h:Q (acc++l.map f) μ):iW bnd cw ew g (l.map c) acc μ Q:=
 gO c (fun _=>true) f hg l acc (fun x hx Y N q=>hs x hx Y N (by simpa using q)) (by rw[Qu.mpr (by simp)];exact h)
theorem Ni (g:α->Int):∀ l:List α,lX (l.map fun x=>D.int (g x))=some (l.map g)
 |[]=>rfl|x::l=>by simp[lX,Ni g l]
theorem gG (h:k<n):oV n (k:Int)=some k:=by
 have:(k:Int)<n:=by lia
 simp[oV,this]
theorem alJ {n:Nat} {i:Int} (h0:0<=i) (h:i<n):oV n i=some i.toNat:=by simp[oV,h0,h]
theorem acf (xs:List α) (h:0<=i):cutD xs (some i) none=xs.drop i.toNat:=by
 have h2:¬i<0:=by lia
 simp only[cutD,kO,h2,if_false];by_cases q:i.toNat<=xs.length
 .rw[yD q];exact uw (by simp)
 .rw[Im (by lia),Im (by lia)];simp
theorem CV (n:Nat):fj 0 n=(aU n).map fun(k:Nat)=>D.int (k:Int):=by simp[fj]
theorem Wt (h:d∈fj lo n):∃ i:Int,d= .int i/\lo<=i/\i<lo+n:=by simp only[fj,j9,Ds]at h;obtain⟨j,hj,rfl⟩:=h;exact⟨_,rfl,by lia,by lia⟩
open PySem.Spec PyProof.Rows
open L2 (aP Key frs wz Loc Look Mod tL cG dj vD vZ wg)
def fX (T:Top) (N:List Str) (qual:Str) (scope:Scope) (L f:Addr) (cd:Value) (A:aL) (outer:List Env):Cx where
 T:=T
 A:=A.deeper (gW qual scope L f cd)
 N:=N
 env:=gW qual scope L f cd
 stack:=gW qual scope L f cd::outer
 calm:=A.handled.isNone
 oc:=fun _=>true
section
variable {T:Top} {N ps:List Str} {qual:Str} {scope:Scope} {L f b:Addr} {cd:Value} {A:aL} {outer stack:List Env} {s s1 s':aj} {θ θ':Th} {μ μ':Mem} {ds:List D} {us:List Value} {h':Heap} {ρ:dH} {env:Env} {tk:Nat}
theorem ago (S:dj N ps scope) (e0:E0 T A outer θ μ s) (hl:ds.length=ps.length) (r:dh s.heap θ μ ds us)
  (x:InCallC s s.heap.objs.size (rG (gW qual scope s.heap.objs.size f cd).kindOf (ps.zip us) fun _=>none) (g8 (s.heap.objs.size+1) scope.names []) (PySem.bindC (gW qual scope s.heap.objs.size f cd).kindOf (ps.zip us) fun _=>none) s1):
  Iv (fX T N qual scope s.heap.objs.size f cd A outer) (aC N ds) θ μ s1:=by
 have hpl:ps.length<=N.length:=by have:=congrArg dR S.pre;rw[qw]at this;lia
 obtain⟨h1,tk,rfl⟩:=x.toInCall.same;have hk:=x.toInCall.keep;have kp:Kp θ μ s.heap θ μ h1:=jU hk;have fr:∀ {b},s.heap.objs.size<=b->T.base.get? b=none/\¬pN θ μ b:=fun {b} hb=>by
  refine⟨?_,fun z=>e0.dJ.TF hb (.inr z)⟩;cases e:T.base.get? b with
  |none=>rfl|some o=>exact absurd (f9 (bW (e0.bs b o e).1) hb) (jg _)
 obtain⟨oL,es,ep,eL,dL,_⟩:=id x.toInCall.ns;refine⟨⟨S.kind,rfl,rfl,fun y z c h1 h2=>WQ x.apart (jJ h1) (jJ h2),fun y hy=>?_,fun z=>YL.mp z,(fr (aA _)).1,fun y c h=>(fr (pU (x.above y c (jJ h)))).1⟩,
  ⟨e0.mod,Ys e0.frames,e0.bare,fun b o e=>⟨hk b o (e0.bs b o e).1,(e0.bs b o e).2⟩,fun v m=>?_,e0.dJ.kept hk,e0.hh⟩,⟨_,x.toInCall.ns,fun i y d h1 h2 h3=>?_⟩,fun y c h=>⟨⟨_,x.cell y c h⟩,(fr (pU (x.above y c (jJ h)))).2⟩,(fr (aA _)).2,?_⟩
 .have hy:scope.names.lookup y=some .cell∨scope.names.lookup y=some .free:=hy
  rcases hy with hy|hy
  .exact vD hy
  .exact absurd rfl (S.afU _ (jJ hy))
 .rcases bC.mp m with rfl|m
  .exact⟨by rw[show(gW qual scope s.heap.objs.size f cd).scope.kind= .function from S.kind];decide,_,oL,es,ep,rfl,(fr (aA _)).1,eL,dL,(fr (aA _)).2⟩
  .obtain⟨k,L,o,es,ep,q,nb,ho,hd,l⟩:=e0.stk v m
   exact⟨k,L,o,es,ep,q,nb,hk L o ho,hd,l⟩
 .have hi:i<ds.length:=by
   unfold aC at h2;by_cases hi:i<ds.length
   .exact hi
   .rw[nQ (by simpa using hi),YF]at h2
    split at h2<;>cases h2
  have ha:ds[i]?=some d:=by
   unfold aC at h2;rw[dU (by simpa using hi),jy]at h2;cases e:ds[i]? with
   |none=>rw[e]at h2;cases h2
   |some a=>rw[e]at h2;cases h2;rfl
  obtain⟨u,hu,rv⟩:=r.get ha;have hp:ps[i]?=some y:=by rw[<-S.pre,YH (by lia)];exact h1
  have ndP:ps.Nodup:=by rw[<-S.pre];exact S.nd.sublist (aeo _ _)
  refine⟨u,kp.rp rv,?_⟩;rcases S.par y (pC hp)with k|k
  .exact .inl ⟨k,vZ ndP hp hu k⟩
  .obtain⟨c,e⟩:=vD (n:=s.heap.objs.size+1) k
   refine .inr ⟨.inl k,c,e,?_⟩;have q:=x.cell y c e;rw[wg ndP hp hu (by show scope.names.lookup y≠_;rw[k];decide)]at q;exact q
 .unfold aC
  show _=N.length;rw[eO,aR,Yw];lia
theorem agQ (e:E0 T (A.deeper env) (env::outer) θ μ s) (fr:A.frames=some outer):E0 T A outer θ μ s:=
 ⟨e.mod,fr,e.bare,e.bs,fun v m=>e.stk v (jh _ m),e.dJ,e.hh⟩
theorem agE {V:Addr->Prop} (k:∀ b o,s.heap.get? b=some o->s1.heap.get? b=some o) (os:s1.os=s.os) (g:G V (frs (env::outer)) θ μ s1 θ' μ' s') (hv:∀ b,V b->s.heap.get? b=none) (hf:∀ b,env.frame=some b->s.heap.get? b=none):G (fun _=>False) (frs outer) θ μ s θ' μ' s' where
 pre:=g.pre
 keep:=fun b o e l _=>by
  obtain⟨l',sl,q,w⟩:=g.keep b o (k b o e) l fun z=>by rw[hv b z]at e;cases e
  refine⟨l',sl,q,fun z=>w fun y=>?_⟩;obtain⟨v,m,q⟩:=Ak.mp y;rcases bC.mp m with rfl|m
  .rw[hf b q]at e;cases e
  .exact z (Ak.mpr ⟨v,m,q⟩)
 there:=fun b o e=>g.there b o (k b o e)
 stay:=g.stay
 os:=g.os.trans os
 ex:=⟨g.ex.1,fun b z=>(g.ex.2 b z).imp id fun q=>by
  cases e:s.heap.get? b with
  |none=>rfl|some o=>rw[k b o e]at q;cases q⟩
theorem aiT {c:String} {ks:List String} {es:List D} {e:Value} {Q:Unit->aj->Prop} {E:Value->aj->Prop} (fr:A.frames=some outer) (hf:env.frame=some L) (e0:E0 T (A.deeper env) (env::outer) θ' μ' s') (g:G (fun _=>False) (frs outer) θ μ s θ' μ' s') (hL:s.heap.get? L=none) (hb:∀ b o,T.base.get? b=some o->s.heap.get? b=some o)
  (fl:Gm T (env::outer) s θ' μ' s' c ks es e) (k:∀ h',E0 T A outer θ' μ' {s' with heap:=h' }->G (fun _=>False) (frs outer) θ μ s θ' μ' {s' with heap:=h' }->Gm T outer s θ' μ' {s' with heap:=h' } c ks es e->Q () {s' with heap:=h' }):
  ak (aH T.P T.w) (A.deeper env) (I3 env e) Q E s':=by
 obtain⟨ea,C,ob,vs,B,rfl,h2,h3,fx,h5,sB,wB,h6⟩:=fl;refine agc (Ys fr) hf fx fun h' fx' up=>?_;have st:∀ b o,s'.heap.get? b=some o->(∃ o',B.get? b=some o')->h'.get? b=some o:=fun b o e ⟨o',q⟩=>by have:=fx.stay b o' q;rw[e]at this;cases this;exact fx'.stay b o q
 have frN:∀ b o,s.heap.get? b=some o->b∉frs outer->b∉frs (env::outer):=fun b o e z y=>by
  obtain⟨v,m,q⟩:=Ak.mp y;rcases bC.mp m with rfl|m
  .rw[hf]at q;cases q;rw[hL]at e;cases e
  .exact z (Ak.mpr ⟨v,m,q⟩)
 have old:∀ b o o',s.heap.get? b=some o->s'.heap.get? b=some o'->b∉frs outer->h'.get? b=some o':=fun b o o' e e' z=>st b o' e' (sB b o e (frN b o e z));have afX:∀ {o:Obj} {es ep},o.data= .dict es ep->∀ vs,o.data≠.fields vs:=fun q vs z=>by rw[q]at z;cases z
 have g':G (fun _=>False) (frs outer) θ μ s θ' μ' {s' with heap:=h' }:=⟨g.pre,fun b o e l v=>by
  obtain⟨l',sl,q,w⟩:=g.keep b o e l v;by_cases z:b∈frs outer
  .obtain⟨v,m,hb⟩:=Ak.mp z
   obtain⟨_,L',o2,es,ep,q',_,ho,hd,_⟩:=e0.stk v (jh _ m);rw[hb]at q';cases q';rw[q]at ho;cases ho;obtain⟨sl2,q2⟩:=up b _ q (afX hd);exact⟨l',sl2,q2,fun y=>(y z).elim⟩
  .exact⟨l',sl,old b o _ e q z,w⟩,fun b o e=>by
  obtain⟨o',q⟩:=g.there b o e;by_cases z:b∈frs outer
  .obtain⟨v,m,hb⟩:=Ak.mp z
   obtain⟨_,L',o2,es,ep,q',_,ho,hd,_⟩:=e0.stk v (jh _ m);rw[hb]at q';cases q';obtain⟨sl2,q2⟩:=up b _ ho (afX hd);exact⟨_,q2⟩
  .exact⟨o',old b o o' e q z⟩,g.stay,g.os,g.ex⟩
 refine k h' ⟨e0.mod,fr,e0.bare,fun b o e=>?_,fun v m=>?_,wB.kept fx'.stay,fun v q=>e0.hh v q⟩ g' ⟨ea,C,ob,vs,B,rfl,h2,h3,fx',h5,fun b o e z=>sB b o e (frN b o e z),wB,h6⟩
 .obtain⟨e1,l⟩:=e0.bs b o e
  refine⟨old b o o (hb b o e) e1 (fun z=>?_),l⟩;obtain⟨v,m,q⟩:=Ak.mp z;obtain⟨_,L',_,_,_,q',nb,_⟩:=e0.stk v (jh _ m);rw[q]at q';cases q';rw[nb]at e;cases e
 .obtain⟨k1,L',o,es,ep,q,nb,ho,hd,l⟩:=e0.stk v (jh _ m)
  obtain⟨sl,q2⟩:=up L' o ho (afX hd);exact⟨k1,L',_,es,ep,q,nb,q2,hd,l⟩
theorem agH {k:Nat} {name:Str} {params:Arguments} {body:List Stmt} {dV kV doc pm cdv ct oc:Value} {an od:Option Addr} {osl:Array (Option Value)} {sp:qZ} {i:Ss} (lk:T.K.lookup f=some ⟨oc,od,.func (lN name qual params body scope dV kV doc pm an cdv ct),osl⟩) (hcd:Dr T.K cdv qual=true)
  (S:dj N ps scope) (len:∀ {ds μ Q X},sp ds μ Q X->ds.length=ps.length) (hk:ahk N i sp) (hbd:∀ (A:aL) (outer:List Env) (L:Addr),cG k (A.deeper (gW qual scope L f cdv))->VB (fX T N qual scope L f cdv A outer) body (wSs i)):
  fG T (k+1) f (lN name qual params body scope dV kV doc pm an cdv ct) ps sp:=by
 refine⟨len,fun {A outer s θ μ args us ds Qd Xd R} hr e0 hb r hsp fr fe=>?_⟩;have KX:T.K.In s.heap:=e0.Cp;have hkind:∀ y∈ps.zip us,scope.names.lookup y.1=some .local∨(scope.names.lookup y.1=some .cell/\((g8 (s.heap.objs.size+1) scope.names []).lookup y.1).isSome=true):=fun⟨n,v⟩ hy=>by
  rcases S.par n (P0 hy).1 with q|q
  .exact .inl q
  .exact .inr ⟨q,YB _ _ _ (.inl q)⟩
 refine ae5 hr.depth (KX _ _ lk) rfl S.co S.gen rfl (aeA KX hcd) (hb _ _ _ _ ?_);refine afv S.kind hkind fun env he s1 x=>?_;subst he;refine⟨e0.lim.keeps x.toInCall.keep,codeAny_func ?_⟩;have I:=ago (N:=N) S e0 (len hsp) r x;have hk':=x.toInCall.keep;have no:∀ {b},s.heap.objs.size<=b->s.heap.get? b=none:=fun {b} hb=>by
  cases e:s.heap.get? b with
  |none=>rfl|some o=>exact absurd (f9 (bW e) hb) (jg _)
 have os1:s1.os=s.os:=by obtain⟨_,_,rfl⟩:=x.toInCall.same;rfl
 have own:∀ b,(fX T N qual scope s.heap.objs.size f cdv A outer).own b->s.heap.get? b=none:=fun b z=>by
  rcases z with rfl|⟨y,_,e⟩
  .exact no (aA _)
  .exact no (pU (x.above y b (jJ e)))
 have frm:∀ b,(gW qual scope s.heap.objs.size f cdv).frame=some b->s.heap.get? b=none:=fun b z=>by cases z;exact no (aA _)
 exact hbd A outer s.heap.objs.size (hr.deeper _) PassesOwn.leaving I (hk ds μ Qd Xd hsp)
  ⟨fun i g q=>fr (agQ i.e e0.frames) (agE hk' os1 g own frm) CK q,fun _ _ q=>q.elim,fun _ _ q=>q.elim,fun i g r q=>fr (agQ i.e e0.frames) (agE hk' os1 g own frm) r q,
   fun i g fl q=>aiT e0.frames rfl i.e (agE hk' os1 g own frm) (no (aA _)) (fun b o e=>(e0.bs b o e).1) (fl.mono fun b o e=>⟨o,hk' b o e⟩) fun h' e g fl=>fe e g fl q⟩
end
end DW
namespace DW
open PySem PySem.Spec PyProof.Rows
open L2 (aP Key frs wz Loc Look Mod tL cG Bs)
section
variable {X:Cx} {tg iter a b c l:Expr} {wl:WE} {d0:D} {as:List D} {g:Mem->Prop} {z i1 it ad:Addr} {es:List Expr} {k:Nat} {p pos tp:Pos}
theorem vW:∀ (k:Nat) (ds:List D),(oN k ds).length=ds.length
 |_,[]=>rfl|k,d::ds=>by simp[oN,vW (k+1) ds]
theorem Nm:∀ (k:Nat) (ds:List D) (i:Nat) (d:D),ds[i]?=some d->(oN k ds)[i]?=some (.tup [.int ((k+i:Nat):Int),d])
 |_,[],i,d,h=>by simp at h|k,e::ds,0,d,h=>by simp at h;subst h;simp[oN]|k,e::ds,i+1,d,h=>by have:=Nm (k+1) ds i d (by simpa using h);simp only[oN,bA];rw[this];congr 4;lia
theorem ahz (hc:X.calm=true) (hA:X.calm=true->X.A.handled=none) (hg:∀ {μ},g μ->cC μ d0=some as) (hzi:z≠i1):Wk X.T X.A (.Tuple es k tp) z [z,i1] [] (oN 0 as) g (fun i θ μ h=>(∃ old,IsEnum h z i1 i old)/\h.IsListIter i1 ad i/\Rp h θ μ d0 (.ref ad)) where
 obj:=fun⟨⟨old,hz⟩,⟨o1,e1,c1,d1⟩,_⟩ b hb=>by
  simp only[bC,ur,or_false]at hb;rcases hb with rfl|rfl
  .exact⟨_,hz,.inr (bR rfl rfl (by decide))⟩
  .exact⟨_,e1,.inr (bR d1 c1 (by decide))⟩
 exx:=fun _ _ z=>nomatch z
 mono:=fun⟨⟨old,hz⟩,h1,y⟩ kp _ kk=>⟨⟨old,kk z (by simp) _ hz⟩,h1.at fun o e=>kk i1 (by simp) o e,kp.rp y⟩
 self:=fun⟨⟨old,hz⟩,_⟩ q=>aed hz q
 item:=fun {i d s θ μ Q2 E} st w nl gm hx f=>by
  obtain⟨⟨old,hz⟩,h1,r0⟩:=st;obtain⟨_,us,q,pl,l,r⟩:=jT w r0 (hg gm);cases q;have hi:i<as.length:=by have:=(bT.mp hx).1;rwa[vW]at this
  rw[Nm 0 as i _ (dw hi)]at hx;cases hx;obtain⟨u1,hu1,ru1⟩:=r.get (dw hi);refine wpAny_pyNext_enum_item hz h1 pl.isList (x:=u1) (by simpa using hu1) hzi fun h' ho hit' hT hsz kk=>⟨_,rfl,?_⟩;refine wpAny_letOwnedTupleGo_enum (s:={s with heap:=h',toks:=s.toks+1}) ho fun h2' hz2 hs2=>?_;have ke:∀ b o,b∉[z,i1]->s.heap.get? b=some o->h2'.get? b=some o:=fun b o hb e=>by simp only[bC,ur,or_false,not_or]at hb;exact(hs2.2 b hb.1).trans (kk b o hb.1 hb.2 e)
  have nz:s.heap.objs.size≠z:=rQ (bW hz);have kp:Kp θ μ s.heap θ μ h2':=Hf (fun b hb=>by
   simp only[bC,ur,or_false]at hb;rcases hb with rfl|rfl
   .exact⟨_,hz,bR rfl rfl (by decide)⟩
   .obtain⟨o1,e1,c1,d1⟩:=h1;exact⟨_,e1,bR d1 c1 (by decide)⟩) ke
  exact f (tk:=s.toks+1) ke ⟨⟨u1,by simpa using hz2⟩,hit'.at fun o y=>(hs2.2 i1 (bL hzi)).trans y,kp.rp r0⟩ ⟨s.heap.objs.size,[.int (i:Int) s.toks,u1],rfl,⟨by rw[cY];simp,_,_,(hs2.2 _ nz).trans hT,rfl,rfl,rfl⟩,w.TF (aA _),.cons (m9 (by simp)) (.one (kp.rp ru1))⟩
 done:=fun {s θ μ Q E} st w hd nl gm f=>by obtain⟨⟨old,hz⟩,h1,r0⟩:=st;obtain⟨_,us,q,pl,l,r⟩:=jT w r0 (hg gm);cases q;rw[vW]at hz h1;exact wpAny_pyNext_enum_end (hA hc) hz h1 pl.isList (by simp[r.length]) fun h' eb=>f (tk:=s.toks) (fun b o hb q=>eb b o (fun y=>hb (by simp[y])) q) fun _ z=>nomatch z
theorem ah9 (hcl:X.calm=true) (hg:Gl X (aD "enumerate")) (hm:X.T.mg (aD "enumerate")=none) (hl:PE X l wl) (hs:fu [l] X.env=[(false,eval l X.env)]):
  PI X (.Tuple es k tp) (.Call (.Name (aD "enumerate") p) [l] [] pos) (fun ρ μ Q=>wl ρ μ fun a μ1=>R9 a μ1 Q):=fun {s ρ θ μ R Q E} i h f=>by
 refine Call_ (u0 i hg hm (u:=.type "enumerate") (by decide+kernel) (by decide+kernel) (by decide+kernel) (QT ?_ (by rw[hs];rfl) rfl));rw[hs];refine DG (hl i h fun {d u s1 θ1 μ1} i1 g1 r1 h1=>Jq ?_);unfold R9 at h1;split at h1
 .rename_i as ha
  obtain⟨a,us,rfl,pl,l,r⟩:=jT i1.dJ r1 ha;refine call_enumerate_list pl.isList fun h' a1 a2 a3 kk=>?_;have i3:Iv X ρ θ1 μ1 {s1 with heap:=h' }:=Iv.kept (tk:=s1.toks) i1 kk;refine aed a1 (f i3 (g1.trans (cW (tk:=s1.toks) kk)) (ahz (ad:=a) hcl i1.ok.hd (fun e=>e) (rQ (Qj s1.heap.objs.size))) ⟨⟨_,a1⟩,a2,(jU kk).rp r1⟩ (fun b hb=>?_) (by rw[vW,<-r.length];exact l) h1);have hb:s1.heap.objs.size<=b:=by
   simp only[bC,ur,or_false]at hb;rcases hb with rfl|rfl
   .exact yq _
   .exact aA _
  exact⟨(i1.qP hb).1,⟨fun y=>(i1.qP hb).2 (.inr y),.inr fun y=>(i1.qP hb).2 (.inl y)⟩,g1.none hb⟩
 .exact h1.elim
theorem ajX (hc:X.calm=true) (hA:X.calm=true->X.A.handled=none) (hg:∀ {μ},g μ->cC μ d0=some as):Wk X.T X.A tg it [it] [] as.reverse g (fun i θ μ h=>h.IsRevIter it ad ((as.length:Int) -1 -(i:Int))/\Rp h θ μ d0 (.ref ad)) where
 obj:=fun⟨⟨o,e,c,d⟩,_⟩ b hb=>by cases cH.mp hb;exact⟨o,e,.inr (bR d c (by decide))⟩
 exx:=fun _ _ z=>nomatch z
 mono:=fun⟨st,y⟩ kp _ k=>⟨st.at fun o e=>k it (by simp) o e,kp.rp y⟩
 self:=fun st q=>aeS st.1 q
 item:=fun {i d s θ μ Q2 E} st w nl gm hx f=>by
  obtain⟨st,r0⟩:=st;obtain⟨_,us,q,pl,l,r⟩:=jT w r0 (hg gm);cases q;have hi:i<as.length:=by simpa using(bT.mp hx).1
  have hj:as.length -1 -i<as.length:=by lia
  rw[List.getElem?_reverse hi]at hx;obtain⟨u,hu,ru⟩:=r.get hx;have e1:(as.length:Int) -1 -(i:Int)=((as.length -1 -i:Nat):Int):=by lia
  obtain⟨o0,e0,c0,d0'⟩:=id st;rw[e1]at st;refine wpAny_pyNext_rev_item st pl.isList (x:=u) (by simpa using hu) fun h' st' sb=>?_;have ke:∀ b o,b∉[it]->s.heap.get? b=some o->h'.get? b=some o:=fun b o hb q=>(sb.2 b (by simpa using hb)).trans q;have kp:Kp θ μ s.heap θ μ h':=Hf (fun b hb=>by cases cH.mp hb;exact⟨o0,e0,bR d0' c0 (by decide)⟩) ke;have e2:((as.length -1 -i:Nat):Int) -1=(as.length:Int) -1 -((i+1:Nat):Int):=by lia
  rw[e2]at st';obtain⟨o,e,c,d⟩:=id st';exact⟨u,rfl,Bs (s:={s with heap:=h' }) e c d (by decide) (f (tk:=s.toks) ke ⟨st',kp.rp r0⟩ (kp.rp ru))⟩
 done:=fun {s θ μ Q E} st w hd nl gm f=>by
  obtain⟨st,r0⟩:=st;have e1:(as.length:Int) -1 -((as.reverse.length:Nat):Int)= -1:=by simp;lia
  rw[e1]at st;exact wpAny_pyNext_rev_end (hA hc) st fun h' eb=>f (tk:=s.toks) (fun b o hb q=>eb b o (by simpa using hb) q) fun _ z=>nomatch z
theorem ak2 (hcl:X.calm=true) (hg:Gl X (aD "reversed")) (hm:X.T.mg (aD "reversed")=none) (hl:PE X l wl) (hs:fu [l] X.env=[(false,eval l X.env)]):
  PI X tg (.Call (.Name (aD "reversed") p) [l] [] pos) (fun ρ μ Q=>wl ρ μ fun a μ1=>ahB a μ1 Q):=fun {s ρ θ μ R Q E} i h f=>by
 refine Call_ (u0 i hg hm (u:=.type "reversed") (by decide+kernel) (by decide+kernel) (by decide+kernel) (QT ?_ (by rw[hs];rfl) rfl));rw[hs];refine DG (hl i h fun {d u s1 θ1 μ1} i1 g1 r1 h1=>Jq ?_);unfold ahB at h1;split at h1
 .rename_i as ha
  obtain⟨a,us,rfl,pl,l,r⟩:=jT i1.dJ r1 ha;have hlen:us.toArray.size=as.length:=by simp[r.length]
  refine call_reversed_list pl.isList ?_;have st:(s1.heap.push (revObj a ((us.toArray.size:Int) -1))).IsRevIter s1.heap.objs.size a ((as.length:Int) -1 -((0:Nat):Int)):=⟨_,gU _ rfl,rfl,by rw[hlen];simp[revObj]⟩;exact aeS st (f (Iv.kept (tk:=s1.toks) i1 c7) (g1.trans (cW (tk:=s1.toks) c7)) (ajX (ad:=a) hcl i1.ok.hd (fun e=>e)) ⟨st,(jU c7).rp r1⟩
   (fun b hb=>by cases cH.mp hb;exact⟨(i1.qP (aA _)).1,⟨fun y=>(i1.qP (aA _)).2 (.inr y),.inr fun y=>(i1.qP (aA _)).2 (.inl y)⟩,g1.none (aA _)⟩) (by rw[List.length_reverse,<-r.length];exact l) h1)
 .exact h1.elim
end
end DW
namespace DW
open PySem PySem.Spec PyProof.Rows
open L2 (aP Key frs wz Loc Look Mod tL cG)
theorem alz (a v:Value):checkBuiltinCall "max" ⟨[a],[(aD "default",v)]⟩=pure ():=by kernel_rfl
theorem aiV {a b:Value}:(#[a,b]:Array Value).size<=sizeLine:=by rw[cY];simp
theorem anc:(#[]:Array Value).size<=sizeLine:=by rw[cY];simp
section
variable {prog:aZ} {w:aQ} {A:aL} {R:uy->aj->Prop} {I l S:Addr} {items:Array Value} {val:Nat->Int} {dv:Value}
theorem abI (W:Walks prog w A.in1 I [I,l] [I] items.size (fun i v=>items[i]?=some v) (fun i h=>h.IsListIter I l i/\h.IsList l items)) (hv:∀ (i:Nat) (v:Value),items[i]?=some v->∃ t,v=pR (val i) t)
  (hSI:S≠I) (hSl:S≠l):∀ (k j:Nat) (s:aj) (b:Value) (c:Nat),items.size -1 -j=k->j<items.size->(s.heap.IsListIter I l (j+1)/\s.heap.IsList l items)->
   items[cL (fun i j=>decide (val i>val j)) j]?=some b->s.heap.get? S=some {cls:=.type "list",dict:=none,data:=.seq #[b,b] c,slots:=#[]}->
   (∀ v h' tk,items[cL (fun i j=>decide (val i>val j)) (items.size -1)]?=some v->(∀ x o,x≠I->x≠S->s.heap.get? x=some o->h'.get? x=some o)->R (.ok (.ret v)) {s with heap:=h',toks:=tk})->
   jK (aH prog w) A (.builtin "max.loop" ⟨[.ref I,.none,.ref S],[(aD "default",dv)]⟩) R s:=by
 have nm:(toString "max"++toString ".loop":String)="max.loop":=by decide
 intro k;induction k with
 |zero=>
  intro j s b c hk hj st hb hS hR;have e:j+1=items.size:=by lia
  refine pY Qg ?_;rw[Al uK _];show ak _ A.in1 (yh (.ref S)>>=_) _ _ s;refine aq (yw hS rfl ?_);show ak _ A.in1 (tryCatch (mH (.ref I)) _>>=_) _ _ s;refine aq (rR (W.done s _ _ (e▸st) fun h1 t1 k1=>?_));have hS1:=k1 S _ (by simpa using hSI) hS;show ak _ A.in1 (O2 S (fun _=>#[])>>=_) _ _ _;refine aq (uI hS1 rfl (hz:=aiV) (_hz':=yL anc) (aq (rP (aG ?_))));have ej:items.size -1=j:=by lia
  exact hR b _ t1 (by rw[ej];exact hb) fun x o hx hxS q=>(nP _ _ (bL hxS)).trans (k1 x o (by simpa using hx) q)
 |succ k ih=>
  intro j s b c hk hj st hb hS hR;have hlt:j+1<items.size:=by lia
  refine pY Qg ?_;rw[Al uK _];show ak _ A.in1 (yh (.ref S)>>=_) _ _ s;refine aq (yw hS rfl ?_);show ak _ A.in1 (tryCatch (mH (.ref I)) _>>=_) _ _ s;refine aq (rR (W.item (j+1) s _ _ hlt st fun v h1 t1 hP st1 k1=>?_));have hS1:=k1 S _ (by simpa using hSI) hS;show ak _ A.in1 (tryCatch (uz [v,v] (O8 .Gt v b>>=_)) _>>=_) _ _ _;refine aq (rR (kZ (aq (CmpOf.ints_gt val hv (j+1) (cL (fun i j=>decide (val i>val j)) j) v b _ _ _ hP hb ?_))));refine aq (kZ (nO ?_));refine aq (rP (aG ?_));by_cases ht:val (j+1)>val (cL (fun i j=>decide (val i>val j)) j)
  .rw[if_pos (decide_eq_true ht)]
   refine aq (uI (f:=fun _=>#[v,v]) hS1 rfl (hz:=aiV) (_hz':=yL aiV) (aq (rP ?_)));rw[nm];refine aG ⟨pW uK _,ih (j+1) _ v _ (by lia) hlt (W.frame _ _ _ st1 fun x hx o q=>?_) (by simp only[cL];rw[if_pos (decide_eq_true ht)];exact hP) (yN _ hS1 rfl) fun v2 h2 t2 hP2 k2=>?_⟩
   .refine(nP _ _ fun z:S=x=>?_).trans q
    subst z;rcases bC.mp hx with z|z
    .exact hSI z
    .exact hSl (cH.mp z)
   .exact hR v2 h2 t2 hP2 fun x o hx hxS q=>k2 x o hx hxS ((nP _ _ (bL hxS)).trans (k1 x o (by simpa using hx) q))
  .rw[if_neg (fun z=>ht (of_decide_eq_true z))]
   refine aq (rP ?_);rw[nm];refine aG ⟨pW uK _,ih (j+1) _ b c (by lia) hlt st1 (by simp only[cL];rw[if_neg (fun z=>ht (of_decide_eq_true z))];exact hb) hS1 fun v2 h2 t2 hP2 k2=>?_⟩;exact hR v2 h2 t2 hP2 fun x o hx hxS q=>k2 x o hx hxS (k1 x o (by simpa using hx) q)
end
section
variable {X:Cx} {ρ:dH} {θ:Th} {μ:Mem} {s:aj} {Qd:QD} {Q XE:Value->aj->Prop} {a b:Expr} {wa wb:WE} {d e:D} {u dv:Value} {y:Str} {p pos kpos:Pos} {nm:Option Str}
theorem af8 (hc:X.calm=true) (i:Iv X ρ θ μ s) (rd:Rp s.heap θ μ d u) (re:Rp s.heap θ μ e dv) (hw:Mj d e μ Qd) (f:Fin X ρ θ μ s Qd Q):ak X.M X.A (call (.builtin "max") [u] [(aD "default",dv)]) Q XE s:=by
 unfold Mj at hw;cases q:(cC μ d).bind lX with
 |none=>rw[q]at hw;exact hw.elim|some ns=>
 rw[q]at hw;obtain⟨ds,q1,q2⟩:=bind_some q;obtain⟨p,us,rfl,pl,l,rs⟩:=jT i.dJ rd q1;obtain⟨zs,e1,e2⟩:=ints_of rs q2;have hl:=pl.isList;rw[e1]at hl;have hlt:p<s.heap.objs.size:=by obtain⟨o,n,e,_⟩:=pl;exact bW e
 have nm:(toString "max"++toString ".loop":String)="max.loop":=by decide
 have hs:zs.size=ns.length:=by rw[<-e2];simp
 have hsI:(mL zs).size=ns.length:=by rw[<-hs];simp[mL]
 refine WY (codeAny_call_builtin F.plain_max F.entry_max ?_);rw[alz];refine aG ?_;show ak _ X.A.in1 (QS "max" ["key","default"] 0 ⟨[],[(aD "default",dv)]⟩>>=_) _ _ s;refine aq (Xb (show QS "max" ["key","default"] 0 ⟨[],[(aD "default",dv)]⟩=pure [none,some dv]from by kernel_rfl) ?_);refine aq (aG ?_);refine aq (Qn hl ?_);refine aq (wZ ?_);rw[nm];have hsz:(s.heap.push {cls:=.type "list_iterator",data:=.fields #[.ref p,.int 0 0]}).objs.size=s.heap.objs.size+1:=yx ..;have hSI:(s.heap.push {cls:=.type "list_iterator",data:=.fields #[.ref p,.int 0 0]}).objs.size≠s.heap.objs.size:=by rw[hsz];exact adZ _
 have hSp:(s.heap.push {cls:=.type "list_iterator",data:=.fields #[.ref p,.int 0 0]}).objs.size≠p:=by rw[hsz];exact rQ (Dy hlt)
 have W:=WX (prog:=X.T.P) (w:=X.T.w) (A:=X.A.in1) (i.ok.hd hc) s.heap.objs.size p (jf hlt) (mL zs);generalize hS:(s.heap.push {cls:=.type "list_iterator",data:=.fields #[.ref p,.int 0 0]}).objs.size=S at hSI hSp ⊢;have st0:((s.heap.push {cls:=.type "list_iterator",data:=.fields #[.ref p,.int 0 0]}).push {cls:=.type "list",dict:=none,data:=.seq ([]:List Value).toArray}).IsListIter s.heap.objs.size p 0/\((s.heap.push {cls:=.type "list_iterator",data:=.fields #[.ref p,.int 0 0]}).push {cls:=.type "list",dict:=none,data:=.seq ([]:List Value).toArray}).IsList p (mL zs):=
  ⟨⟨_,eV _ (gU _ rfl),rfl,rfl⟩,(hl.push _).push _⟩
 have hS0:((s.heap.push {cls:=.type "list_iterator",data:=.fields #[.ref p,.int 0 0]}).push {cls:=.type "list",dict:=none,data:=.seq ([]:List Value).toArray}).get? S=some {cls:=.type "list",dict:=none,data:=.seq #[] 0,slots:=#[]}:=by rw[<-hS];exact gU _ rfl
 have old:∀ {h':Heap},(∀ x o,x≠s.heap.objs.size->x≠S->((s.heap.push {cls:=.type "list_iterator",data:=.fields #[.ref p,.int 0 0]}).push {cls:=.type "list",dict:=none,data:=.seq ([]:List Value).toArray}).get? x=some o->h'.get? x=some o)->∀ x o,s.heap.get? x=some o->h'.get? x=some o:=fun {h'} k x o q=>by have hx:=bW q;refine k x o (jf hx) ?_ (eV _ (eV _ q));rw[<-hS,hsz];exact jf (Dy hx)
 refine aG ⟨pW uK _,?_⟩;cases ns with
 |nil=>have e0:(mL zs).size=0:=hsI;refine pY Qg ?_;rw[Al uK _];show ak _ X.A.in1 (yh (.ref S)>>=_) _ _ _;refine aq (yw hS0 rfl ?_);show ak _ X.A.in1 (tryCatch (mH (.ref s.heap.objs.size)) _>>=_) _ _ _;refine aq (rR (W.done _ _ _ (e0▸st0) fun h1 t1 k1=>?_));refine aq (Dk (aG ?_));have k:=old fun x o hx _ q=>k1 x o (by simpa using hx) q;exact f.hp i k ((jU k).rp re) hw
 |cons n r=>
  have hv:∀ (i:Nat) (v:Value),(mL zs)[i]?=some v->∃ t,v=pR (dX zs i) t:=fun i v h=>W6 h;refine pY Qg ?_;rw[Al uK _];show ak _ X.A.in1 (yh (.ref S)>>=_) _ _ _;refine aq (yw hS0 rfl ?_);show ak _ X.A.in1 (tryCatch (mH (.ref s.heap.objs.size)) _>>=_) _ _ _;refine aq (rR (W.item 0 _ _ _ (by rw[hsI];simp) st0 fun v h1 t1 hP st1 k1=>?_));have hS1:=k1 S _ (by simpa using hSI) hS0;show ak _ X.A.in1 (O2 S (fun _=>#[v,v])>>=_) _ _ _;refine aq (uI hS1 rfl (hz:=anc) (_hz':=yL aiV) ?_);rw[nm];refine aG ⟨pW uK _,abI (val:=dX zs) W hv hSI hSp _ 0 _ v _ rfl (by rw[hsI];simp) (W.frame _ _ _ st1 fun x hx o q=>?_) hP (yN _ hS1 rfl) fun v2 h2 t2 hP2 k2=>?_⟩
  .refine(nP _ _ fun z:S=x=>?_).trans q
   subst z;rcases bC.mp hx with z|z
   .exact hSI z
   .exact hSp (cH.mp z)
  .obtain⟨t,rfl⟩:=hv _ _ hP2
   (have ez:(mL zs).size=zs.size:=by simp[mL]);refine f.hp i (old fun x o hx hxS q=>k2 x o hx hxS ((nP _ _ (bL hxS)).trans (k1 x o (by simpa using hx) q))) (m9 ?_) hw;rw[ez,aaA zs n r e2]
theorem ail (ey:y=aD "max") (en:nm=some (aD "default")) (hc:X.calm=true) (g:Gl X y) (m:X.T.mg y=none) (ha:PE X a wa) (hb:PE X b wb) (hs:fu [a] X.env=(false,eval a X.env)::fu [] X.env):
  PE X (.Call (.Name y p) [a] [⟨nm,b,kpos⟩] pos) (fun ρ μ Q=>wa ρ μ fun d μ1=>wb ρ μ1 fun e μ2=>Mj d e μ2 Q):=by
 subst ey en;intro s ρ θ μ Qd Q E i h f;refine Dz (u0 i g m akK (by decide+kernel) (by decide+kernel) ?_);have hs':jo pos (fu [a] X.env)=(false,eval a X.env)::jo pos (fu [] X.env):=by rw[hs];rfl
 refine callWith_kw ?_ hs' (by rw[hs'];rfl) rfl rfl;rw[hs'];refine DG (ha i h fun {d u s1 θ1 μ1} i1 g1 r1 h1=>Jq ?_);show ak _ _ (evalAll ((do let v<-eval b X.env;IW pos;pure v)::(Dg pos (Dl [] X.env)).map (·.2))) _ _ s1
 refine wpAny_evalAll_cons (aq (hb i1 h1 fun {e v s2 θ2 μ2} i2 g2 r2 h2=>aq (Xk (aG (wpAny_evalAll_nil ?_)))));exact af8 hc i2 ((i1.kp g2).rp r1) r2 h2 (Fn.mono f (g1.trans g2))
end
end DW
namespace DW
open PySem
section
variable {P P':Rf->dz->Prop} {G G':Str->D->Prop} (hp:∀ x sp,P x sp->P' x sp) (hg:∀ x d,G x d->G' x d)
include hp hg
mutual
theorem cF.mono:∀ e:E,cF P G e->cF P' G' e
 | .var _,h=>trivial| .cst _,h=>trivial| .gbl x d,h=>hg x d h| .bin _ a b,h=>⟨cF.mono a h.1,cF.mono b h.2⟩| .neg a,h=>cF.mono a h| .not a,h=>cF.mono a h| .cmp _ a b,h=>⟨cF.mono a h.1,cF.mono b h.2⟩| .RL _ a b,h=>⟨cF.mono a h.1,cF.mono b h.2⟩| .chain _ _ a b c,h=>⟨cF.mono a h.1,cF.mono b h.2.1,cF.mono c h.2.2⟩| .and a b,h=>⟨cF.mono a h.1,cF.mono b h.2⟩| .or a b,h=>⟨cF.mono a h.1,cF.mono b h.2⟩| .ife a b c,h=>⟨cF.mono a h.1,cF.mono b h.2.1,cF.mono c h.2.2⟩| .call x sp as,h=>⟨hp (.fn x) sp h.1,fM.mono as h.2⟩| .blt _ as,h=>fM.mono as h| .acj _ a b,h=>⟨cF.mono a h.1,cF.mono b h.2⟩| .isin a _,h=>cF.mono a h| .isin a _ (some _),h=>⟨hp _ _ h.1,cF.mono a h.2⟩| .meth _ o as,h=>⟨cF.mono o h.1,fM.mono as h.2⟩| .S5 _ o as,h=>⟨cF.mono o h.1,fM.mono as h.2⟩| .rmv o as,h=>⟨cF.mono o h.1,fM.mono as h.2⟩| .abW as,h=>fM.mono as h| .dd3 _ _ _ a b e,h=>⟨cF.mono a h.1,cF.mono b h.2.1,cF.mono e h.2.2⟩| .idx a b,h=>⟨cF.mono a h.1,cF.mono b h.2⟩| .slc _ a lo hi,h=>⟨cF.mono a h.1,fM.mono lo h.2.1,fM.mono hi h.2.2⟩| .tup as,h=>fM.mono as h| .lst _ as,h=>fM.mono as h| .comp _ _ _ _ elt it cond,h=>⟨cF.mono elt h.1,okI.mono it h.2.1,fM.mono cond h.2.2⟩| .Gh a,h=>cF.mono a h| .Zt a b,h=>⟨cF.mono a h.1,cF.mono b h.2⟩| .ab5 _,h=>trivial| .fld c f o,h=>⟨hp _ _ h.1,cF.mono o h.2⟩| .rW c m sp o as,h=>⟨hp _ _ h.1,cF.mono o h.2.1,fM.mono as h.2.2⟩| .mk c sp as,h=>⟨hp _ _ h.1,fM.mono as h.2⟩
theorem fM.mono:∀ e:Es,fM P G e->fM P' G' e
 | .nil,_=>trivial| .cons e es,h=>⟨cF.mono e h.1,fM.mono es h.2⟩
theorem okI.mono:∀ e:It,okI P G e->okI P' G' e
 | .seq e,h=>cF.mono e h| .rng as,h=>fM.mono as h| .enum a,h=>cF.mono a h| .rvd a,h=>cF.mono a h
end
theorem aby.mono:∀ k:XC,aby P G k->aby P' G' k
 | .dsp x ks sp i as,h=>⟨hp _ _ h.1,cF.mono hp hg i h.2.1,fM.mono hp hg as h.2.2⟩
end
mutual
theorem okS.mono:∀ (s:S) {P P':Rf->dz->Prop} {G G':Str->D->Prop} (hp:∀ x sp,P x sp->P' x sp) (hg:∀ x d,G x d->G' x d),okS P G s->okS P' G' s
 | .set _ e,_,_,_,_,hp,hg,h=>cF.mono hp hg e h| .Tj _ e,_,_,_,_,hp,hg,h=>cF.mono hp hg e h| .dput o i e,_,_,_,_,hp,hg,h=>⟨cF.mono hp hg o h.1,cF.mono hp hg i h.2.1,cF.mono hp hg e h.2.2⟩| .Nu _ o i e,_,_,_,_,hp,hg,h=>⟨cF.mono hp hg o h.1,cF.mono hp hg i h.2.1,cF.mono hp hg e h.2.2⟩| .Ih o i e,_,_,_,_,hp,hg,h=>⟨cF.mono hp hg o h.1,cF.mono hp hg i h.2.1,cF.mono hp hg e h.2.2⟩| .exp e,_,_,_,_,hp,hg,h=>cF.mono hp hg e h| .ret e,_,_,_,_,hp,hg,h=>cF.mono hp hg e h| .ite c a b,_,_,_,_,hp,hg,h=>⟨cF.mono hp hg c h.1,jO.mono a hp hg h.2.1,jO.mono b hp hg h.2.2⟩| .for_ _ _ it b,_,_,_,_,hp,hg,h=>⟨okI.mono hp hg it h.1,jO.mono b hp hg h.2⟩| .whl c b,_,_,_,_,hp,hg,h=>⟨cF.mono hp hg c h.1,jO.mono b hp hg h.2⟩| .qt c f o e,_,_,_,_,hp,hg,h=>⟨hp _ _ h.1,cF.mono hp hg o h.2.1,cF.mono hp hg e h.2.2⟩| .aco c f _ o e,_,_,_,_,hp,hg,h=>⟨hp _ _ h.1,cF.mono hp hg o h.2.1,cF.mono hp hg e h.2.2⟩| .Y4,_,_,_,_,_,_,_=>trivial| .abt k,_,_,_,_,hp,hg,h=>aby.mono hp hg k h| .abh _ _ _ b _,_,_,_,_,hp,hg,h=>jO.mono b hp hg h
theorem jO.mono:∀ (s:Ss) {P P':Rf->dz->Prop} {G G':Str->D->Prop} (hp:∀ x sp,P x sp->P' x sp) (hg:∀ x d,G x d->G' x d),jO P G s->jO P' G' s
 | .nil,_,_,_,_,_,_,_=>trivial| .cons s r,_,_,_,_,hp,hg,h=>⟨okS.mono s hp hg h.1,jO.mono r hp hg h.2⟩
end
open PySem.Spec PyProof.Rows
open L2 (aP Key frs wz Loc Look Mod tL cG Cls je Meth Mk rD fL Aj)
def ajS (K:aV) (mg:Str->Option Value) (P:String) (tab:List String):Prop:=∃ CP,mg (aD P)=some (.ref CP)/\∀ c∈tab,∃ C,bI K aM (aD c)=some (some (.ref C))/\adJ K (.ref C) (.ref CP)=some true
def anm (K:aV) (mg:Str->Option Value) (x:Str) (ks:List (List Nat)):Prop:=∃ a,mg x=some (.ref a)/\Kq K a=true/\(qT K a).map (fun p=>p.1.cps.toList)=ks
def ajT (T:Top) (k:Nat) (x:Str) (ks:List (List Nat)) (sp:qZ):Prop:=∃ a,T.mg x=some (.ref a)/\Kq T.K a=true/\(qT T.K a).map (fun p=>p.1.cps.toList)=ks/\
 ∀ ds μ Q Xq,sp ds μ Q Xq->∃ t r fa fd ps Tc,ds= .str t::r/\nR (⟨t.toArray⟩:Str) (qT T.K a)=some fa/\Binds T.K fd ps/\fG T k fa fd ps Tc/\Tc r μ Q Xq
def qY (T:Top) (k:Nat):Rf->dz->Prop
 | .fn x,sp=>∃ (fa:Addr) (fd:d7) (ps:List Str),T.mg x=some (.ref fa)/\pB T.K (.ref fa)=true/\Binds T.K fd ps/\fG T k fa fd ps (Sq sp)| .rW c m,sp=>∃ (C fa:Addr) (fd:d7) (ps:List Str),bI T.K aM (aD c)=some (some (.ref C))/\Cls T.K C/\Meth T.K C (aD m) fa/\Binds T.K fd ps/\fG T k fa fd ps (Sq sp)| .mk c,sp=>∃ (C fa:Addr) (fd:d7) (ps:List Str) (j:Nat),bI T.K aM (aD c)=some (some (.ref C))/\T.mg (aD c)=some (.ref C)/\Mk T.K C fa/\Binds T.K fd ps/\fG T j fa fd ps (Sq sp)/\j+1<=k| .fld c f,_=>∃ C:Addr,bI T.K aM (aD c)=some (some (.ref C))/\Cls T.K C/\je T.K C (aD f)| .fnX x sp,_=>∃ (fa:Addr) (fd:d7) (ps:List Str),T.mg x=some (.ref fa)/\pB T.K (.ref fa)=true/\Binds T.K fd ps/\fG T k fa fd ps sp| .amO c m sp,_=>∃ (C fa:Addr) (fd:d7) (ps:List Str),bI T.K aM (aD c)=some (some (.ref C))/\Cls T.K C/\Meth T.K C (aD m) fa/\Binds T.K fd ps/\fG T k fa fd ps sp| .mkX c sp,_=>∃ (C fa:Addr) (fd:d7) (ps:List Str) (j:Nat),bI T.K aM (aD c)=some (some (.ref C))/\T.mg (aD c)=some (.ref C)/\Mk T.K C fa/\Binds T.K fd ps/\fG T j fa fd ps sp/\j+1<=k| .din x ks,_=>anm T.K T.mg x ks| .dsp x ks sp,_=>ajT T k x ks sp| .hdl P tab,_=>ajS T.K T.mg P tab|_,_=>False
def vJ (X:Cx) (y:Rf) (sp:dz):Prop:=∃ k,cG k X.A/\qY X.T k y sp
def mX (X:Cx) (x:Str) (d:D):Prop:=∃ u:Value,X.T.mg x=some u/\∀ h θ μ,Rp h θ μ d u
structure q8 (X:Cx) (c:Ctx):Prop where
 N:X.N=c.N
 nd:c.N.Nodup
 vis:∀ x,c.vis x=true->wz X.env.scope x
 loc:∀ x,c.loc x=true->Sto X x
 isl:∀ x,isLocal c x=true->X.env.scope.names.lookup x=some .local
 Bt:∀ x,c.Bt x=true->Gl X x
 clo:∀ x,(c.names.lookup x=some .cell∨c.names.lookup x=some .free)->(X.env.kindOf x=some .cell∨X.env.kindOf x=some .free)
 blt:∀ x,c.iG.contains x=true->X.T.mg x=none
 calm:c.calm=true->X.calm=true
 room:∃ k,cG k X.A
section
variable {X:Cx} {c:Ctx} {i:Nat} {x:Str} {e a:Expr} {es:List Expr} {env:Env} {op:jd} {scope:Scope} {xs cs:List Str} {cap:List Nat} {tt:Bool} {w w':WE} {t t':WT}
theorem Hr (h:c.at_ i x=true):c.N[i]?=some x:=by
 unfold Ctx.at_ at h;split at h
 .rename_i y e;rw[e,of_decide_eq_true h]
 .cases h
theorem Aa (h:notStar e=true):fu (e::es) env=(false,eval e env)::fu es env:=by cases e<;>first|rfl|exact(fH h).elim
theorem U7:∀ {es:Es} {as:List Expr},qH c es as=true->m7 es=as.length
 | .nil,as,h=>by
  have:as=[]:=by simpa[qH]using h
  subst this;rfl
 | .cons e es,as,h=>by
  cases as with
  |nil=>simp[qH]at h|cons a as=>simp only[qH,bM]at h;simp[m7,U7 h.2]
theorem lg (h:gF x=false):(x==("__debug__":Str))=false/\(x==("__classdict__":Str))=false:=by unfold gF at h;exact Bool.or_eq_false_iff.mp h
theorem Ig (h:jP e=true):Pr op e=false:=by cases e<;>first|rfl|exact(fH h).elim
theorem Ep (h:jP e=true):∀ v,Qm e env v=pure v:=by intro v;cases e<;>first|rfl|exact(fH h).elim
theorem rU (h:eE e=true):Cg e:=by intro o i;cases e<;>first|rfl|exact(fH h).elim
theorem zX {t n} (h:iM e=true):yg e t n env=pure false:=by cases e<;>first|rfl|exact(fH h).elim
theorem PE.wk (h:PE X a w) (q:∀ ρ μ Q,w' ρ μ Q->w ρ μ Q):PE X a w':=fun i z f=>h i (q _ _ _ z) f
theorem PT.wk (h:PT X a t) (q:∀ ρ μ Q,t' ρ μ Q->t ρ μ Q):PT X a t':=fun i z f=>h i (q _ _ _ z) f
theorem PW.wk (h:PW X a t) (q:∀ ρ μ Q,t' ρ μ Q->t ρ μ Q):PW X a t':=fun wh=>fun i z f=>h wh i (q _ _ _ z) f
theorem Jz:PT X a (fun _ _ _=>False):=fun _ z _=>z.elim
theorem pw_no (h:∀ op vs pos,a≠.BoolOp op vs pos):∀ op vs pos,a= .BoolOp op vs pos->PW X a t:=fun op vs pos e=>absurd e (h op vs pos)
structure Snd (X:Cx) (e:DW.E) (a:Expr):Prop where
 pe:PE X a (wE e)
 pt:PT X a (wT e)
 pw:∀ op vs pos,a= .BoolOp op vs pos->PW X a (wT e)
theorem BX:∀ {cap:List Nat} {cs:List Str},lZ c cap=some cs->cs.length=cap.length/\∀ (j:Nat) (y:Str),cs[j]?=some y->∃ i,cap[j]?=some i/\c.N[i]?=some y
 |[],cs,h=>by simp only[lZ,qx]at h;subst h;exact⟨rfl,fun j y e=>by simp at e⟩|i::is,cs,h=>by
  simp only[lZ]at h;split at h
  .rename_i x r e1 e2
   simp only[qx]at h;subst h;obtain⟨h1,h2⟩:=BX e2;refine⟨by simp[h1],fun j y e=>?_⟩;cases j with
   |zero=>simp at e;subst e;exact⟨i,rfl,e1⟩|succ j=>obtain⟨i',a1,a2⟩:=h2 j y (by simpa using e);exact⟨i',by simpa using a1,a2⟩
  .cases h
theorem KN (C:q8 X c) (h1:lZ c cap=some cs) (h:KQ c scope (xs++cs) cs=true):wA X xs.length scope (xs++cs) cap:=by
 simp only[KQ,bM,Ql]at h;obtain⟨⟨⟨⟨⟨k1,k2⟩,k3⟩,k5⟩,k6⟩,k7⟩:=h;obtain⟨hl,hg⟩:=BX h1;refine⟨by simpa using k1,fun y hy hc=>?_,fun y hy hloc=>?_,of_decide_eq_true k5,fun j y e=>?_,by simp[hl],fun y hy hf=>?_⟩
 .have:=k2 y hy
  rw[hc]at this;simpa using this
 .have:=k3 y hy
  rw[hloc]at this;simpa using this
 .have e':cs[j]?=some y:=by rw[nQ (by lia)]at e;simpa using e
  obtain⟨i,a1,a2⟩:=hg j y e';refine⟨i,a1,by rw[C.N];exact a2,?_⟩;have:=k6 y (pC e');simpa using this
 .have:=k7 y hy
  rw[hf]at this;refine C.clo y.1 ?_;simpa using this
theorem qW (C:q8 X c) (h:KQ c scope (xs++cs) cs=true) (cl:List (Str×Addr)) (Ca:Addr):q8 (cX X (xs++cs) scope cl Ca) (c.in_ (xs++cs) scope.names):=by
 simp only[KQ,bM,Ql]at h;obtain⟨⟨⟨⟨⟨k1,k2⟩,k3⟩,k5⟩,k6⟩,k7⟩:=h;have cel:∀ y,scope.names.lookup y=some .cell->(Iw scope X.env).names.lookup y=some .cell:=fun y z=>rD z;have lk:∀ y,scope.names.lookup y=some .local->(Iw scope X.env).names.lookup y=some .local:=fun y z=>lookup_relabel_local z;refine⟨rfl,of_decide_eq_true k5,fun y hy=>?_,fun y hy=>?_,fun y hy=>?_,fun y hy=>?_,fun y hy=>?_,C.blt,C.calm,C.room⟩
 .unfold Ctx.vis at hy
  split at hy
  .rename_i z;exact .inl (lk y z)
  .rename_i z;exact .inr (.inl (cel y z))
  .rename_i z
   rcases fL (env:=X.env) z with q|q
   .exact .inr (.inr q)
   .exact .inr (.inl q)
  .cases hy
 .unfold Ctx.loc at hy
  split at hy
  .rename_i z;exact .inl (lk y z)
  .rename_i z;exact .inr ⟨cel y z,by show(scope.names.lookup y==some .cell)=true;rw[z];rfl⟩
  .cases hy
 .exact lk y (by simpa[isLocal]using hy)
 .unfold Ctx.Bt at hy
  split at hy
  .rename_i z
   show(Iw scope X.env).names.lookup y=some .globalImplicit;exact Aj z
  .cases hy
 .rcases hy with hy|hy
  .exact .inl (cel y hy)
  .exact(fL (env:=X.env) hy).symm
theorem JN (C:q8 X c):∀ {is:List Nat} {ts:List Expr},jR c is ts=true->PGs X ts is/\(rM ts X.env).length=is.length/\(rM ts X.env).findIdx? (·.1)=none
 |[],[],_=>⟨aia,rfl,rfl⟩|[],_::_,h=>by simp[jR]at h|_::_,[],h=>by simp[jR]at h|i::is,t::ts,h=>by
  simp only[jR,bM]at h;obtain⟨h1,h2⟩:=h;cases t with
  |Name x p=>
   simp only[bM]at h1;obtain⟨k1,k2,k3⟩:=JN C h2;refine⟨afL (by rw[C.N];exact C.nd) (by rw[C.N];exact Hr h1.1) (C.loc x h1.2) k1,?_,?_⟩
   .show(rM ts X.env).length+1=_
    rw[k2];rfl
   .show List.findIdx? (fun x=>x.1) ((false,rH (.Name x p) X.env)::rM ts X.env)=none
    rw[List.findIdx?_cons];simp[k3]
  |_=>simp at h1
theorem aap (C:q8 X c) {is:List Nat} (hcm:tt=true->c.calm=true) (h:mTg c is tt a=true):PG X a (fun d r k=>fB is tt d r k):=by
 cases tt with
 |false=>
  match is,h with
  |[i],h=>
   cases a with
   |Name x p=>simp only[mTg,jR,bM,Xj]at h;intro s ρ θ μ d u k R E i1 r q f;exact aib (j:=i) (pos:=p) (C.N▸C.nd) (C.N▸Hr h.1) (C.loc x h.2) i1 r q f|_=>simp[mTg,jR]at h
  |[],h=>simp[mTg,jR]at h|_::_::_,h=>simp[mTg,jR]at h
 |true=>
  cases a with
  |Tuple ts k p=>obtain⟨h1,h2,h3⟩:=JN C (show jR c is ts=true from h);exact ak4 (C.calm (hcm rfl)) h1 h2 h3|_=>simp[mTg]at h
theorem tgn (h:GR tt a=some xs):tt=false->xs.length=1:=fun z=>by
 subst z;cases a with
 |Name x p=>cases h;rfl
 |_=>cases h
end
end DW
namespace DW
open PySem PySem.Spec PyProof.Rows
open L2 (aP Key frs wz Loc Look Mod tL cG)
section
variable {X:Cx} {ρ:dH} {θ:Th} {μ:Mem} {s:aj} {d x y:D} {u v w:Value} {ds es as bs:List D} {us vs:List Value} {Qd:QD} {Q:Value->aj->Prop} {E:Value->aj->Prop} {a b e:Expr} {wa wb we:WE} {ws:WA} {j k n:Nat} {p2 pos:Pos} {m:Bool}
end
section
variable {X:Cx} {i j k:Nat} {x y z:Str} {a b e:Expr} {px py pz pt pt2 pos pos':Pos} {kt k2} {wa we:WE} {ws:WA} {op:jL} {env:Env}
end
end DW
namespace DW
open PySem PySem.Spec PyProof.Rows
section
variable {prog:aZ} {w:aQ} {A:aL} {E:Value->aj->Prop} {s:aj}
end
section
variable {prog:aZ} {w:aQ} {A:aL} {E:Value->aj->Prop} {s:aj}
end
open L2 (aP Key frs wz Loc Look Mod tL cG Bs)
section
variable {X:Cx} {V:Addr->Prop} {F:List Addr} {ρ:dH} {θ:Th} {μ:Mem} {s:aj} {h':Heap} {tk:Nat} {l:List Addr}
end
def ahi (t:Bool) (h:Heap) (it a:Addr) (i:Nat):Prop:=if t then h.IsTupleIter it a i else h.IsListIter it a i
theorem ahi.fld {t:Bool} {h:Heap} {it a:Addr} {i:Nat} (x:ahi t h it a i):∃ o n vs,h.get? it=some o/\o.cls= .type n/\o.data= .fields vs/\n≠"code":=by
 cases t
 .obtain⟨o,e,c,d⟩:h.IsListIter it a i:=x
  exact⟨o,_,_,e,c,d,by decide⟩
 .obtain⟨o,e,c,d⟩:h.IsTupleIter it a i:=x
  exact⟨o,_,_,e,c,d,by decide⟩
theorem ahi.at {t:Bool} {h h':Heap} {it a:Addr} {i:Nat} (x:ahi t h it a i) (k:∀ o,h.get? it=some o->h'.get? it=some o):ahi t h' it a i:=by
 cases t
 .obtain⟨o,e,r⟩:h.IsListIter it a i:=x
  exact(⟨o,k o e,r⟩:h'.IsListIter it a i)
 .obtain⟨o,e,r⟩:h.IsTupleIter it a i:=x
  exact(⟨o,k o e,r⟩:h'.IsTupleIter it a i)
section
variable {X:Cx} {a b l r:Addr} {wl wr:WE} {d0 e0:D} {as bs:List D} {g:Mem->Prop} {z TI TO i1 i2:Addr} {es:List Expr} {k:Nat} {p pos tp:Pos} {t:Bool}
end
end DW
namespace DW
open PySem PySem.Spec PyProof.Rows
open L2 (aP Key frs wz Loc Look Mod tL cG Cls je Meth Mk)
section
variable {X:Cx} {ρ:dH} {θ:Th} {μ:Mem} {s:aj} {m n k:Nat} {h:Heap}
theorem Km:∀ (ds:List D),flats m (ds.map (eY μ n))=true->∀ d∈ds,flat m (eY μ n d)=true
 |[],_,d,h=>by simp at h|e::ds,h,d,hd=>by
  have h':flat m (eY μ n e)=true/\flats m (ds.map (eY μ n))=true:=by simpa[flats]using h
  rcases bC.mp hd with rfl|hd
  .exact h'.1
  .exact Km ds h'.2 d hd
theorem readsAll_map:∀ (ds:List D) (us:List Value),dh h θ μ ds us->(∀ d∈ds,∀ u,Rp h θ μ d u->∃ as,Reads h u (pd (eY μ n d)) as)->∃ as,ReadsAll h us (MN (ds.map (eY μ n))) as
 |[],_,r,_=>by cases r.nil_inv;exact⟨_,by rw[aW];unfold MN;exact .nil⟩
 |d::ds,_,⟨u,r,e,x,y⟩,hh=>by obtain⟨as,ra⟩:=hh d (by simp) u x;obtain⟨bs,rb⟩:=readsAll_map ds r y fun e he=>hh e (by simp[he]);exact⟨as++bs,by rw[e,aX];unfold MN;exact .cons ra rb⟩
theorem rE (w:pL X.T θ μ h):∀ (n m:Nat) (d:D) (u:Value),Rp h θ μ d u->flat m (eY μ n d)=true->∃ as,Reads h u (pd (eY μ n d)) as
 |0,m,d,u,r,f=>eZ m d u r f|n+1,m,d,u,r,f=>by
  have ls:∀ {a:Addr} {us:List Value} {ds:List D},j8 h 1 a us->dh h θ μ ds us->flat m (.lst (ds.map (eY μ n)))=true->∃ as,Reads h (.ref a) (pd (.lst (ds.map (eY μ n)))) as:=by
   intro a us ds x rs f;cases m with
   |zero=>simp[flat]at f|succ m=>obtain⟨_,k,ho⟩:=x;obtain⟨as,ra⟩:=readsAll_map ds us rs fun d hd u r=>rE w n m d u r (Km ds (by simpa[flat]using f) d hd);exact⟨a::as,by unfold pd;exact .list ho rfl rfl (by simpa using ra)⟩
  cases d with
  |tup ds=>
   replace f:flat m (.tup (ds.map (eY μ n)))=true:=f;obtain⟨a,us,rfl,⟨_,o,k,ho,hc,hd,_⟩,_,rs⟩:=r;cases m with
   |zero=>simp[flat]at f|succ m=>obtain⟨as,ra⟩:=readsAll_map ds us rs fun d hd u r=>rE w n m d u r (Km ds (by simpa[flat]using f) d hd);exact⟨as,by show Reads _ _ (pd (.tup (ds.map (eY μ n)))) _;unfold pd;exact .tuple ho hc hd (by simpa using ra)⟩
  |lst ds=>obtain⟨a,us,rfl,x,_,rs⟩:=r;exact ls x rs f|loc k=>
   (have e:eY μ (n+1) (.loc k)=match μ[k]? with|some (.lst ds)=>.lst (ds.map (eY μ n))|_=>.loc k:=rfl);rw[e]at f ⊢;cases hk:μ[k]? with
   |none=>rw[hk]at f;simp[flat]at f|some c=>
    rw[hk]at f;cases c with
    |lst ds=>obtain⟨p,us,rfl,_,_,x,rs⟩:=Iv.lst w hk r;exact ls x rs f|_=>simp[flat]at f
  |non=>exact eZ m _ u r f|bl _=>exact eZ m _ u r f|int _=>exact eZ m _ u r f|str _=>exact eZ m _ u r f|ro _=>exact eZ m _ u r f|jZ _ _=>exact eZ m _ u r f
theorem agP (hr:cG k X.A) (neg:Bool):Op2 X (jM (if neg then .NotEq else .Eq)) (abb neg):=by
 intro s ρ θ μ d e u v Qd Q E i rd re ⟨f1,f2,q⟩ f;have hu:X.A.units+64<cLine:=hr.units;obtain⟨as,ra⟩:=rE i.dJ 8 60 d u rd f1;obtain⟨bs,rb⟩:=rE i.dJ 8 60 e v re f2;have dp:=BP _ _ f1;cases neg with
 |true=>refine ae3 ra rb (dY _ _ f1) (dY _ _ f2) (by lia) ?_;rw[zx _ _ _ _ f1 f2];exact f.at i Tv (by simpa using q)|false=>refine ae4 ra rb (dY _ _ f1) (dY _ _ f2) (by lia) ?_;rw[zx _ _ _ _ f1 f2];exact f.at i Tv (by simpa using q)
end
section
variable {X:Cx} {c:Ctx} {x y:Str} {e a:Expr} {es as:List Expr} {ws:WA} {b:String} {p pos:Pos}
theorem ahb:OpA X (fun us=>call (.type "list") us) (bQ "list"):=Ma (by decide) (fun {s ρ θ μ d u Qd Q E} i r hw f=>by
 simp only[bQ]at hw;split at hw
 .rename_i ds hq;exact T8 (m:=false) i r hq hw f
 .exact hw.elim) fun i x y hw f=>by simp[bQ]at hw
theorem ali (hx:b∈Q9) (ey:y=aha b) (hc:X.calm=true) (g:Gl X y) (m:X.T.mg y=none) (ha:Ar X (e::es) ws):PE X (.Call (.Name y p) (e::es) [] pos) (fun ρ μ Q=>ws ρ μ fun ds μ1=>bQ b ds μ1 Q):=by
 subst ey;simp only[Q9,bC,ur,or_false]at hx;rcases hx with rfl|rfl|rfl|rfl|rfl|rfl|rfl|rfl|rfl|rfl
 .exact n7 (by decide+kernel) (by decide+kernel) (by decide+kernel) ajb g m ha
 .exact n7 (by decide+kernel) (by decide+kernel) (by decide+kernel) (ajd hc) g m ha
 .exact n7 (by decide+kernel) (by decide+kernel) (by decide+kernel) (aja hc) g m ha
 .exact n7 (by decide+kernel) (by decide+kernel) (by decide+kernel) (ai9 hc) g m ha
 .exact Aq (by decide+kernel) (by decide+kernel) (by decide+kernel) (ahb) g m ha
 .exact Aq (by decide+kernel) (by decide+kernel) (by decide+kernel) aci g m ha
 .exact n7 (by decide+kernel) (by decide+kernel) (by decide+kernel) ZP g m ha
 .exact n7 (by decide+kernel) (by decide+kernel) (by decide+kernel) Vr g m ha
 .exact Aq (by decide+kernel) (by decide+kernel) (by decide+kernel) ai8 g m ha
 .exact Aq (by decide+kernel) (by decide+kernel) (by decide+kernel) ajc g m ha
theorem ani {it:It} {tt:Bool} (h:(c.calm||(Il it&& !tt))=true):c.calm=true∨Il it=true:=by
 rcases aeF.mp h with h|h
 .exact .inl h
 .exact .inr (Yr.mp h).1
theorem anh {it:It} {tt:Bool} (h:(c.calm||(Il it&& !tt))=true):tt=true->c.calm=true:=fun z=>by subst z;simpa using h
def isTup:Expr->Bool
 | .Tuple ..=>true|_=>false
theorem Ht {is:List Nat} {tt:Bool} {t:Expr} {it:It} (h:mTg c is tt t=true) (hz:wM tt it=true):wM (isTup t) it=true:=by
 cases it with
 |enum l=>simp only[wM]at hz ⊢;subst hz;cases t<;>first|rfl|exact(fH h).elim
 |_=>rfl
theorem aga {it:It} (h:mI c it a=true):jP a=true:=by
 cases it with
 |seq e=>simp only[mI,bM]at h;exact h.2|_=>obtain⟨t,e,_⟩:=au h;obtain⟨p,q,rfl⟩:=iJ e;rfl
theorem amF {w:WE} (he:∀ whole,rI a X.env whole=(do let v<-whole;IW a.pos;uz [v] (Ip v))) (pe:PE X a w):PT X a (fun ρ μ Q=>w ρ μ fun d μ1=>fV d μ1 Q):=fun i q f=>isTrue_plain (pe i q fun i1 g1 r1 h1=>by obtain⟨b,rfl,rfl,q⟩:=Gi r1 h1;exact nO (f i1 g1 rfl q)) (he _)
theorem pw_tru {e':DW.E} (pe:PE X a (wE e')) (he:∀ whole,rI a X.env whole=(do let v<-whole;IW a.pos;uz [v] (Ip v))) (h:∀ ρ μ Q,wT e' ρ μ Q->wE e' ρ μ fun d μ1=>fU d μ1 Q) (hb:∀ op vs pos,a≠.BoolOp op vs pos):Snd X e' a:=⟨pe,PT.wk (akU pe he) h,pw_no hb⟩
theorem pw_nev {e':DW.E} (pe:PE X a (wE e')) (h:∀ ρ μ Q,¬wT e' ρ μ Q) (hb:∀ op vs pos,a≠.BoolOp op vs pos):Snd X e' a:=⟨pe,PT.wk Jz fun ρ μ Q z=>h ρ μ Q z,pw_no hb⟩
end
mutual
theorem sE:∀ (e:E) {X:Cx} {c:Ctx} {a:Expr},q8 X c->mE c e a=true->cF (vJ X) (mX X) e->Snd X e a
 | .var i,X,c,a,C,h,_=>by have h:(opt (qg a) fun x=>c.at_ i x&&c.vis x&& !gF x)=true:=h;obtain⟨x,e,hh⟩:=au h;obtain⟨pos,rfl⟩:=nq e;have h:=hh;simp only[bM,wX]at h;obtain⟨⟨h1,h2⟩,h3⟩:=h;obtain⟨o1,o2⟩:=lg h3;exact pw_tru (ak5 (C.N▸Hr h1) (C.vis x h2) o1 o2) (fun _=>rfl) (fun ρ μ Q q=>by simp only[wT]at q;simp only[wE];exact q) (fun _ _ _ z=>by cases z)| .cst d,X,c,a,C,h,_=>by have h:(opt (V1 a) fun k=>mC k d)=true:=h;obtain⟨k,e,hh⟩:=au h;obtain⟨j,pos,rfl⟩:=V0 e;have h:=hh;exact pw_tru (alh h) (fun _=>rfl) (fun ρ μ Q q=>q) (fun _ _ _ z=>by cases z)| .gbl y d,X,c,a,C,h,ok=>by have h:(opt (qg a) fun x=>x==y&&c.Bt x&& !gF x)=true:=h;obtain⟨x,e,hh⟩:=au h;obtain⟨pos,rfl⟩:=nq e;have h:=hh;simp only[bM,wX,beq_iff_eq]at h;obtain⟨⟨rfl,h2⟩,h3⟩:=h;obtain⟨u,m,r⟩:=(show mX X x d from ok);exact pw_nev (aif (C.Bt x h2) m r (lg h3).1) (fun _ _ _ z=>z) (fun _ _ _ z=>by cases z)| .bin op l r,X,c,a,C,h,ok=>by have h:(opt (aj5 a) fun t=>op==t.2.1&&mE c l t.1&&mE c r t.2.2)=true:=h;obtain⟨⟨l',op',r'⟩,e,hh⟩:=au h;obtain⟨pos,rfl⟩:=acL e;have h:=hh;simp only[bM,beq_iff_eq]at h;obtain⟨⟨rfl,h1⟩,h2⟩:=h;exact pw_nev (alj (sE l C h1 ok.1).pe (sE r C h2 ok.2).pe) (fun _ _ _ z=>z) (fun _ _ _ z=>by cases z)| .neg l,X,c,a,C,h,ok=>by have h:(opt (aj3 a) fun t=>mE c l t)=true:=h;obtain⟨l',e,hh⟩:=au h;obtain⟨pos,rfl⟩:=acH e;have h:=hh;exact pw_nev (ak9 (sE l C h ok).pe) (fun _ _ _ z=>z) (fun _ _ _ z=>by cases z)| .not l,X,c,a,C,h,ok=>by have h:(opt (aj2 a) fun t=>mE c l t)=true:=h;obtain⟨l',e,hh⟩:=au h;obtain⟨pos,rfl⟩:=acG e;have h:=hh;have S1:=sE l C h ok;exact⟨ak8 S1.pe,akV S1.pt,pw_no (fun _ _ _ z=>by cases z)⟩| .cmp op l r,X,c,a,C,h,ok=>by have h:(opt (V2 a) fun t=>op==t.2.1&&mE c l t.1&&mE c r t.2.2&&jP t.2.2)=true:=h;obtain⟨⟨l',op',r'⟩,e,hh⟩:=au h;obtain⟨pos,rfl⟩:=Hz e;have h:=hh;simp only[bM,beq_iff_eq]at h;obtain⟨⟨⟨rfl,h1⟩,h2⟩,h3⟩:=h;have S1:=sE l C h1 ok.1;have S2:=sE r C h2 ok.2;obtain⟨k,hr⟩:=C.room;exact⟨afO (Fb hr op) S1.pe S2.pe (Ig h3),afC (Fb hr op) S1.pe S2.pe (Ig h3),pw_no (fun _ _ _ z=>by cases z)⟩| .RL n l r,X,c,a,C,h,ok=>by have h:(opt (V2 a) fun t=>(t.2.1==(if n then adp else CmpOp.Eq))&&mE c l t.1&&mE c r t.2.2&&jP t.2.2)=true:=h;obtain⟨⟨l',op',r'⟩,e,hh⟩:=au h;obtain⟨pos,rfl⟩:=Hz e;have h:=hh;simp only[bM,beq_iff_eq]at h;obtain⟨⟨⟨rfl,h1⟩,h2⟩,h3⟩:=h;have S1:=sE l C h1 ok.1;have S2:=sE r C h2 ok.2;obtain⟨k,hr⟩:=C.room;exact⟨afO (agP hr n) S1.pe S2.pe (Ig h3),afC (agP hr n) S1.pe S2.pe (Ig h3),pw_no (fun _ _ _ z=>by cases z)⟩| .chain p q l m r,X,c,a,C,h,ok=>by
  have h:(opt (acK a) fun t=>p==t.2.1&&q==t.2.2.1&&mE c l t.1&&mE c m t.2.2.2.1&&mE c r t.2.2.2.2&&jP t.2.2.2.2&&jP t.2.2.2.1)=true:=h;obtain⟨⟨l',p',q',m',r'⟩,e,hh⟩:=au h;obtain⟨pos,rfl⟩:=abe e;have h:=hh;simp only[bM,beq_iff_eq]at h;obtain⟨⟨⟨⟨⟨⟨rfl,rfl⟩,h1⟩,h2⟩,h3⟩,h4⟩,h5⟩:=h;have S1:=sE l C h1 ok.1;have S2:=sE m C h2 ok.2.1;have S3:=sE r C h3 ok.2.2;obtain⟨k,hr⟩:=C.room;have hm:Wy [p,q] [m',r']=false:=by show Pr q r'=false;exact Ig h4
  exact⟨afP (Fb hr p) (Fb hr q) S1.pe S2.pe S3.pe hm,afD (Fb hr p) (Fb hr q) S1.pe S2.pe S3.pe hm,pw_no (fun _ _ _ z=>by cases z)⟩
 | .and x y,X,c,a,C,h,ok=>by
  have h:(opt (aj6 a) fun t=>mE c x t.1&&mE c y t.2)=true:=h;obtain⟨⟨v,y'⟩,e,h⟩:=au h;simp only[bM]at h;have S1:=sE x C h.1 ok.1;have S2:=sE y C h.2 ok.2;rcases acM e with⟨pos,rfl⟩|⟨w,z,rest,pos,rfl,rfl⟩
  .have pw:PW X (.BoolOp .And [v,y'] pos) (wT (.and x y)):=pw_and S1.pt (pw_and1 S2.pt)
   exact⟨afQ S1.pe (afM S2.pe),pw.pt,fun _ _ _ _=>pw⟩
  .have pw:PW X (.BoolOp .And (v::w::z::rest) pos) (wT (.and x y)):=pw_and S1.pt (S2.pw _ _ _ rfl)
   exact⟨afQ S1.pe S2.pe,pw.pt,fun _ _ _ _=>pw⟩
 | .or x y,X,c,a,C,h,ok=>by
  have h:(opt (vOr a) fun t=>mE c x t.1&&mE c y t.2)=true:=h;obtain⟨⟨v,y'⟩,e,h⟩:=au h;simp only[bM]at h;have S1:=sE x C h.1 ok.1;have S2:=sE y C h.2 ok.2;rcases ahD e with⟨pos,rfl⟩|⟨w,z,rest,pos,rfl,rfl⟩
  .have pw:PW X (.BoolOp .Or [v,y'] pos) (wT (.or x y)):=pw_or S1.pt (pw_or1 S2.pt)
   exact⟨ajs S1.pe (afM S2.pe),pw.pt,fun _ _ _ _=>pw⟩
  .have pw:PW X (.BoolOp .Or (v::w::z::rest) pos) (wT (.or x y)):=pw_or S1.pt (S2.pw _ _ _ rfl)
   exact⟨ajs S1.pe S2.pe,pw.pt,fun _ _ _ _=>pw⟩
 | .ife t x y,X,c,a,C,h,ok=>by have h:(opt (vIf a) fun q=>mE c t q.1&&mE c x q.2.1&&mE c y q.2.2)=true:=h;obtain⟨⟨t',x',y'⟩,e,hh⟩:=au h;obtain⟨pos,rfl⟩:=ahE e;have h:=hh;simp only[bM]at h;exact pw_nev (afN (sE t C h.1.1 ok.1).pt (sE x C h.1.2 ok.2.1).pe (sE y C h.2 ok.2.2).pe) (fun _ _ _ z=>z) (fun _ _ _ z=>by cases z)| .call x sp as,X,c,a,C,h,ok=>by have h:(opt (lK a) fun t=>x==t.1&&c.Bt x&& !gF x&&qH c as t.2)=true:=h;obtain⟨⟨y,args⟩,e,hh⟩:=au h;obtain⟨p,pos,rfl⟩:=iJ e;have h:=hh;simp only[bM,wX,beq_iff_eq]at h;obtain⟨⟨⟨rfl,h1⟩,h2⟩,h3⟩:=h;obtain⟨k,hr,fa,fd,ps,q1,q2,q3,q4⟩:=ok.1;exact pw_tru (JgX.calm (ahZ q4 hr q3 (C.Bt x h1) q1 q2 (Tq as C h3 ok.2) (lg h2).1) fun _ _ _ z=>z) (fun _=>rfl) (fun ρ μ Q q=>q) (fun _ _ _ z=>by cases z)| .acj x l r,X,c,a,C,h,ok=>by have h:(opt (V4 a) fun t=>c.calm&&x=="max"&&t.1==aD "max"&&cT c t.1&&mE c l t.2.1&&notStar t.2.1&&(t.2.2.arg==some (aD "default"))&&mE c r t.2.2.value)=true:=h;obtain⟨⟨y,l',nm,b,kpos⟩,e,hh⟩:=au h;obtain⟨p,pos,rfl⟩:=V3 e;simp only[bM,beq_iff_eq,cT]at hh;obtain⟨⟨⟨⟨⟨⟨⟨hc,_⟩,h0⟩,h1,h2⟩,h3⟩,h4⟩,h5⟩,h6⟩:=hh;exact⟨ail h0 h5 (C.calm hc) (C.Bt y h1) (C.blt y h2) (sE l C h3 ok.1).pe (sE r C h6 ok.2).pe (Aa h4),Jz,pw_no (fun _ _ _ z=>by cases z)⟩| .blt x as,X,c,a,C,h,ok=>by
  have h:(opt (lK a) fun t=>c.calm&&Q9.contains x&&aha x==t.1&&cT c t.1&&qH c as t.2&& !t.2.isEmpty)=true:=h;obtain⟨⟨y,args⟩,e,hh⟩:=au h;obtain⟨p,pos,rfl⟩:=iJ e;have h:=hh;simp only[bM,wX,beq_iff_eq,cT]at h;obtain⟨⟨⟨⟨⟨hc,h0⟩,h1⟩,h2,h3⟩,h4⟩,h5⟩:=h;cases args with
  |nil=>simp at h5|cons a1 es=>exact pw_tru (ali (by simpa using h0) h1.symm (C.calm hc) (C.Bt y h2) (C.blt y h3) (Tq as C h4 ok)) (fun _=>rfl) (fun ρ μ Q q=>q) (fun _ _ _ z=>by cases z)
 | .isin l t,X,c,a,C,h,ok=>by have h:(opt (lK a) fun q=>opt (aj0 q.2) fun w=>opt (qg w.2) fun z=>(q.1==aD "isinstance")&&cT c q.1&&["int","bool","str","tuple","list","dict"].contains t&&(z==aD t)&&cT c z&&mE c l w.1&&notStar w.1)=true:=h;obtain⟨⟨y,args⟩,e,hh⟩:=au h;obtain⟨p,pos,rfl⟩:=iJ e;have h:=hh;obtain⟨⟨l',zz⟩,e2,hh⟩:=au h;obtain rfl:=acD e2;have h:=hh;obtain⟨z,e3,h⟩:=au h;obtain⟨p2,e4⟩:=nq e3;simp only at e4;subst e4;simp only[bM,beq_iff_eq,cT]at h;obtain⟨⟨⟨⟨⟨⟨rfl,h1,h2⟩,h3⟩,rfl⟩,h5,h6⟩,h7⟩,h8⟩:=h;have pe:PE X (.Call (.Name (aD "isinstance") p) [l',.Name (aD t) p2] [] pos) (wE (.isin l t)):=aie (sE l C h7 ok).pe (by simpa using h3) (C.Bt _ h1) (C.Bt _ h5) (C.blt _ h2) (C.blt _ h6) (Aa (es:=[.Name (aD t) p2]) h8);exact⟨pe,amF (fun _=>rfl) pe,pw_no (fun _ _ _ z=>by cases z)⟩| .isin l t (some ks),X,c,a,C,h,ok=>by have h:(opt (V2 a) fun w=>opt (qg w.2.2) fun z=>(w.2.1== .In)&&(z==aD t)&&c.Bt z&& !gF z&&mE c l w.1)=true:=h;obtain⟨⟨l',op',r'⟩,e,hh⟩:=au h;obtain⟨pos,rfl⟩:=Hz e;have h:=hh;obtain⟨z,e3,h⟩:=au h;obtain⟨p2,e4⟩:=nq e3;simp only at e4;subst e4;simp only[bM,beq_iff_eq,wX]at h;obtain⟨⟨⟨⟨h0,h1⟩,h2⟩,h3⟩,h4⟩:=h;subst h0 h1;obtain⟨⟨_,_,a,hm,hd,rfl⟩,ok2⟩:=ok;obtain⟨k1,k2⟩:=ale (p:=p2) (pos:=pos) (C.Bt _ h2) hm hd (sE l C h4 ok2).pe (lg h3).1;exact⟨k1,k2,pw_no (fun _ _ _ z=>by cases z)⟩| .meth m o as,X,c,a,C,h,ok=>by
  have h:(opt (zT a) fun t=>(if t.2.2.1.isEmpty then ["pop"].contains m else ["append","insert","extend","pop"].contains m)&&t.2.1==aD m&&m8 t.1&&t.2.2.2&&mE c o t.1&&qH c as t.2.2.1&&decide (t.2.2.1.length<30))=true:=h;obtain⟨⟨o',m',args,ln⟩,e,hh⟩:=au h;obtain⟨apos,pos,rfl,e2⟩:=vK e;have h:=hh;simp only[bM,beq_iff_eq]at h;obtain⟨⟨⟨⟨⟨⟨h0,rfl⟩,h3⟩,h4⟩,h5⟩,h6⟩,h7⟩:=h;have hm:m="append"∨m="insert"∨m="extend"∨m="pop":=by
   split at h0
   .exact .inr (.inr (.inr (by simpa using h0)))
   .simpa using h0
  exact pw_nev (aic hm (sE o C h5 ok.1).pe h3 (Tq as C h6 ok.2) (by rw[<-e2];exact h4) (of_decide_eq_true h7)) (fun _ _ _ z=>z) (fun _ _ _ z=>by cases z)
 | .S5 m o as,X,c,a,C,h,ok=>by
  have h:(opt (zT a) fun t=>["index","join","split","partition","startswith"].contains m&&t.2.1==aD m&&m8 t.1&&t.2.2.2&&mE c o t.1&&qH c as t.2.2.1&&decide (t.2.2.1.length<30)&&(t.2.2.1.isEmpty==(m=="clear")))=true:=h;obtain⟨⟨o',m',args,ln⟩,e,hh⟩:=au h;obtain⟨apos,pos,rfl,e2⟩:=vK e;have h:=hh;simp only[bM,beq_iff_eq]at h;obtain⟨⟨⟨⟨⟨⟨⟨h0,rfl⟩,h3⟩,h4⟩,h5⟩,h6⟩,h7⟩,h8⟩:=h;have hl:(apos.endLine==pos.line)=true:=by rw[<-e2];exact h4
  have h7':=of_decide_eq_true h7;have h0:m="index"∨m="join"∨m="split"∨m="partition"∨m="startswith":=by simpa using h0
  obtain⟨k,hr⟩:=C.room;have hu:=hr.units;refine pw_tru ?_ (fun _=>rfl) (fun ρ μ Q q=>q) (fun _ _ _ z=>by cases z);rcases h0 with rfl|rfl|rfl|rfl|rfl
  .exact xg (W:=fun μ d=>Lw "index" μ d=true) DQ YC PySem.F.type_list_index (af5 hu) ajq (sE o C h5 ok.1).pe h3 (Tq as C h6 ok.2) hl h7'
  .exact xg (W:=fun μ d=>Lw "join" μ d=true) QB ady PySem.F.type_str_join aiu Z9 (sE o C h5 ok.1).pe h3 (Tq as C h6 ok.2) hl h7'
  .exact xg (W:=fun μ d=>Lw "split" μ d=true) QB Pk PySem.F.type_str_split af4 Z9 (sE o C h5 ok.1).pe h3 (Tq as C h6 ok.2) hl h7'
  .exact xg (W:=fun μ d=>Lw "partition" μ d=true) QB adN PySem.F.type_str_partition Q5 Z9 (sE o C h5 ok.1).pe h3 (Tq as C h6 ok.2) hl h7'
  .exact xg (W:=fun μ d=>Lw "startswith" μ d=true) QB adR PySem.F.type_str_startswith Li Z9 (sE o C h5 ok.1).pe h3 (Tq as C h6 ok.2) hl h7'
 | .rmv o as,X,c,a,C,h,ok=>by have h:(opt (zT a) fun t=>c.calm&&t.2.1==aD "remove"&&m8 t.1&&t.2.2.2&&mE c o t.1&&qH c as t.2.2.1&&decide (t.2.2.1.length<30)&& !t.2.2.1.isEmpty)=true:=h;obtain⟨⟨o',m',args,ln⟩,e,hh⟩:=au h;obtain⟨apos,pos,rfl,e2⟩:=vK e;have h:=hh;simp only[bM,beq_iff_eq]at h;obtain⟨⟨⟨⟨⟨⟨⟨hc,rfl⟩,h3⟩,h4⟩,h5⟩,h6⟩,h7⟩,h8⟩:=h;obtain⟨k,hr⟩:=C.room;exact pw_nev (xg (W:=fun μ d=>Uq μ d=true) DQ afe PySem.F.type_list_remove (abA hr.units) ajq (sE o C h5 ok.1).pe h3 (Tq as C h6 ok.2) (by rw[<-e2];exact h4) (of_decide_eq_true h7)) (fun _ _ _ z=>z) (fun _ _ _ z=>by cases z)| .abW as,X,c,a,C,h,ok=>by have h:(opt (lK a) fun t=>c.calm&&(t.1==aD "min")&&cT c t.1&&qH c as t.2&& !t.2.isEmpty)=true:=h;obtain⟨⟨y,args⟩,e,hh⟩:=au h;obtain⟨p,pos,rfl⟩:=iJ e;have h:=hh;simp only[bM,wX,beq_iff_eq,cT]at h;obtain⟨⟨⟨⟨hc,rfl⟩,h2,h3⟩,h4⟩,h5⟩:=h;obtain⟨k,hr⟩:=C.room;exact pw_nev (n7 (id:="min") (by decide+kernel) (by decide+kernel) (by decide+kernel) (ahc (C.calm hc) (by have:=hr.units;show X.A.units+1<cLine;lia)) (C.Bt _ h2) (C.blt _ h3) (Tq as C h4 ok)) (fun _ _ _ z=>z) (fun _ _ _ z=>by cases z)| .dd3 k1 k2 k3 x y z,X,c,a,C,h,ok=>by
  cases k2 with
  |nil=>have h:(opt (NZ a) fun t=>(t.1.1==k1)&&(t.1.2==k3)&& !decide (k1=k3)&&aiM y&&mE c x t.2.1&&mE c z t.2.2)=true:=h;obtain⟨t,e,hh⟩:=au h;obtain⟨s1,j1,p1,s2,j2,p2,p,rfl,e1,e2⟩:=VN e;have h:=hh;simp only[bM,beq_iff_eq,wX,decide_eq_false_iff_not]at h;obtain⟨⟨⟨⟨⟨h1,h2⟩,h3⟩,h4⟩,h5⟩,h6⟩:=h;have ey:=agr h4;subst ey;exact pw_nev (alg (e1.trans h1) (e2.trans h2) h3 (sE x C h5 ok.1).pe (sE z C h6 ok.2.2).pe) (fun _ _ _ z=>z) (fun _ _ _ z=>by cases z)|cons u k=>
  have h:(opt (NT a) fun t=>(t.1.1==k1)&&(t.1.2.1==u::k)&&(t.1.2.2==k3)&& !decide (k1=u::k)&& !decide (k1=k3)&& !decide (u::k=k3)&&mE c x t.2.1&&mE c y t.2.2.1&&mE c z t.2.2.2)=true:=h;obtain⟨t,e,hh⟩:=au h;obtain⟨s1,j1,p1,s2,j2,p2,s3,j3,p3,p,rfl,e1,e2,e3⟩:=VL e;have h:=hh;simp only[bM,beq_iff_eq,wX,decide_eq_false_iff_not]at h;obtain⟨⟨⟨⟨⟨⟨⟨⟨h1,h2⟩,h3⟩,h4⟩,h5⟩,h6⟩,h7⟩,h8⟩,h9⟩:=h;exact pw_nev (alf (e1.trans h1) (e2.trans h2) (e3.trans h3) h4 h5 h6 (sE x C h7 ok.1).pe (sE y C h8 ok.2.1).pe (sE z C h9 ok.2.2).pe) (fun _ _ _ z=>z) (fun _ _ _ z=>by cases z)
 | .fld cn f o,X,c,a,C,h,ok=>by have h:(opt (HB a) fun t=>t.2==aD f&&m8 t.1&&mE c o t.1)=true:=h;obtain⟨⟨o',f'⟩,e,hh⟩:=au h;obtain⟨pos,rfl⟩:=Cv e;have h:=hh;simp only[bM,beq_iff_eq]at h;obtain⟨⟨rfl,h2⟩,h3⟩:=h;obtain⟨_,_,K,hc,hC,hN⟩:=ok.1;exact pw_tru (ald hc hC hN (sE o C h3 ok.2).pe h2) (fun _=>rfl) (fun ρ μ Q q=>q) (fun _ _ _ z=>by cases z)| .rW cn m sp o as,X,c,a,C,h,ok=>by have h:(opt (zT a) fun t=>t.2.1==aD m&&m8 t.1&&t.2.2.2&&mE c o t.1&&qH c as t.2.2.1&&decide (t.2.2.1.length<30))=true:=h;obtain⟨⟨o',m',args,ln⟩,e,hh⟩:=au h;obtain⟨apos,pos,rfl,e2⟩:=vK e;have h:=hh;simp only[bM,beq_iff_eq]at h;obtain⟨⟨⟨⟨⟨rfl,h3⟩,h4⟩,h5⟩,h6⟩,h7⟩:=h;obtain⟨k,hr,K,fa,fd,ps,q0,q1,q2,q3,q4⟩:=ok.1;exact pw_tru (JgX.calm (ahX q4 hr q3 q0 q1 q2 (sE o C h5 ok.2.1).pe h3 (Tq as C h6 ok.2.2) (by rw[<-e2];exact h4) (of_decide_eq_true h7)) fun _ _ _ z=>z) (fun _=>rfl) (fun ρ μ Q q=>q) (fun _ _ _ z=>by cases z)| .mk x sp as,X,c,a,C,h,ok=>by have h:(opt (lK a) fun t=>aD x==t.1&&c.Bt t.1&& !gF t.1&&qH c as t.2)=true:=h;obtain⟨⟨y,args⟩,e,hh⟩:=au h;obtain⟨p,pos,rfl⟩:=iJ e;have h:=hh;simp only[bM,wX,beq_iff_eq]at h;obtain⟨⟨⟨rfl,h1⟩,h2⟩,h3⟩:=h;obtain⟨k,hr,K,fa,fd,ps,j,q0,q1,q2,q3,q4,q5⟩:=ok.1;exact pw_nev (JgX.calm (ahY q2 q0 q4 (hr.mono q5) q3 (C.Bt _ h1) q1 (Tq as C h3 ok.2) (lg h2).1) fun _ _ _ z=>z) (fun _ _ _ z=>z) (fun _ _ _ z=>by cases z)| .idx x y,X,c,a,C,h,ok=>by have h:(opt (Cu a) fun t=>mE c x t.1&&mE c y t.2&&eE t.2)=true:=h;obtain⟨⟨x',y'⟩,e,hh⟩:=au h;obtain⟨pos,rfl⟩:=qe e;have h:=hh;simp only[bM]at h;exact pw_tru (alb (sE x C h.1.1 ok.1).pe (sE y C h.1.2 ok.2).pe (rU h.2)) (fun _=>rfl) (fun ρ μ Q q=>q) (fun _ _ _ z=>by cases z)| .slc m x lo hi,X,c,a,C,h,ok=>by have h:(opt (aj1 a) fun t=>mE c x t.1&&mO c lo t.2.1&&mO c hi t.2.2)=true:=h;obtain⟨⟨x',lo',hi'⟩,e,hh⟩:=au h;obtain⟨p2,pos,rfl⟩:=acF e;have h:=hh;simp only[bM]at h;exact pw_nev (ak7 m (sE x C h.1.1 ok.1).pe (sO lo C h.1.2 ok.2.1) (sO hi C h.2 ok.2.2)) (fun _ _ _ z=>z) (fun _ _ _ z=>by cases z)| .tup as,X,c,a,C,h,ok=>by have h:(opt (acE a) fun es=>qH c as es&&decide (es.length<=16777216))=true:=h;obtain⟨es,e,hh⟩:=au h;obtain⟨k,pos,rfl⟩:=Sh e;have h:=hh;simp only[bM]at h;exact pw_nev (ak6 (Tq as C h.1 ok)) (fun _ _ _ z=>z) (fun _ _ _ z=>by cases z)| .lst m as,X,c,a,C,h,ok=>by have h:(opt (aj4 a) fun es=>qH c as es&&decide (es.length<=16777216))=true:=h;obtain⟨es,e,hh⟩:=au h;obtain⟨pos,rfl⟩:=acI e;have h:=hh;simp only[bM]at h;exact pw_nev (ala (Tq as C h.1 ok)) (fun _ _ _ z=>z) (fun _ _ _ z=>by cases z)| .comp m n tt cap elt it cond,X,c,a,C,h,ok=>by have h:(opt (acJ a) fun t=>(c.calm||(Il it&& !tt))&&opt (GR tt t.2.1) fun xs=>opt (lZ c cap) fun cs=>n==xs.length&&KQ c t.2.2.2.2 (xs++cs) cs&&wM tt it&&mI c it t.2.2.1&&mTg (c.in_ (xs++cs) t.2.2.2.2.names) (aU n) tt t.2.1&&mE (c.in_ (xs++cs) t.2.2.2.2.names) elt t.1&&qH (c.in_ (xs++cs) t.2.2.2.2.names) cond t.2.2.2.1&&decide (t.2.2.2.1.length<=1))=true:=h;obtain⟨⟨Ry,tg,iter,ifs,scope⟩,e,hh⟩:=au h;obtain⟨pos,rfl⟩:=Mp e;have h:=hh;simp only[bM]at h;obtain⟨hcm,h⟩:=h;obtain⟨xs,hxs,h⟩:=au h;obtain⟨cs,hcs,h⟩:=au h;simp only[bM,beq_iff_eq]at h;obtain⟨⟨⟨⟨⟨⟨⟨hn,h1⟩,hz⟩,h2⟩,hg⟩,h3⟩,h4⟩,h5⟩:=h;have h5:=of_decide_eq_true h5;subst hn;exact pw_nev (aik (KN C hcs h1) (tgn hxs) (sI it C h2 ok.2.1 (Ht hg hz) (ani hcm)) (fun cl Ca=>aap (qW C h1 cl Ca) (anh hcm) hg) (fun cl Ca=>sTs cond (qW C h1 cl Ca) h4 h5 ok.2.2) (fun cl Ca=>(sE elt (qW C h1 cl Ca) h3 ok.1).pe) (Ep (aga h2))) (fun _ _ _ z=>z) (fun _ _ _ z=>by cases z)| .Gh x,X,c,a,C,h,ok=>by have S:=sE x C h ok;exact⟨alc S.pe,PT.wk Jz fun _ _ _ z=>z,fun op vs pos e=>fun wh=>fun i z f=>z.elim⟩| .ab5 t,X,c,a,C,h,ok=>by obtain⟨p,rfl⟩:=VP h;exact pw_nev aii (fun _ _ _ z=>z) (fun _ _ _ z=>by cases z)| .Zt x y,X,c,a,C,h,ok=>by have h:(opt (Cu a) fun t=>c.calm&&mE c x t.1&&mE c y t.2&&eE t.2)=true:=h;obtain⟨⟨x',y'⟩,e,hh⟩:=au h;obtain⟨pos,rfl⟩:=qe e;have h:=hh;simp only[bM]at h;obtain⟨⟨⟨hc,h1⟩,h2⟩,h3⟩:=h;obtain⟨k,hr⟩:=C.room;exact pw_nev (aij (by have:=hr.units;lia) (sE x C h1 ok.1).pe (sE y C h2 ok.2).pe (rU h3)) (fun _ _ _ z=>z) (fun _ _ _ z=>by cases z)
theorem Tq:∀ (es:Es) {X:Cx} {c:Ctx} {as:List Expr},q8 X c->qH c es as=true->fM (vJ X) (mX X) es->Ar X as (wEs es)
 | .nil,X,c,as,C,h,_=>by
  have:as=[]:=by simpa[qH]using h
  subst this;exact amc
 | .cons e es,X,c,as,C,h,ok=>by
  cases as with
  |nil=>simp[qH]at h|cons a as=>simp only[qH,bM]at h;exact aji (sE e C h.1.1 ok.1).pe (Tq es C h.2 ok.2) (Aa h.1.2)
theorem sO:∀ (es:Es) {X:Cx} {c:Ctx} {a:Option Expr},q8 X c->mO c es a=true->fM (vJ X) (mX X) es->PO X a (wO es)
 | .nil,X,c,a,C,h,_=>by
  cases a with
  |none=>exact ah6|some _=>simp[mO]at h
 | .cons e es,X,c,a,C,h,ok=>by
  cases a with
  |none=>simp[mO]at h|some a=>
   cases es with
   |nil=>exact ah5 (sE e C (by simpa[mO]using h) ok.1).pe|cons _ _=>simp[mO]at h
theorem sTs:∀ (es:Es) {X:Cx} {c:Ctx} {as:List Expr},q8 X c->qH c es as=true->as.length<=1->fM (vJ X) (mX X) es->PIf X as (wTs es)
 | .nil,X,c,as,C,h,_,_=>by
  have:as=[]:=by simpa[qH]using h
  subst this;exact ah8
 | .cons e es,X,c,as,C,h,hl,ok=>by
  cases as with
  |nil=>simp[qH]at h|cons a as=>
   simp only[qH,bM]at h;have:as=[]:=by
    cases as with
    |nil=>rfl|cons _ _=>simp at hl
   subst this;have:es= .nil:=by
    cases es with
    |nil=>rfl|cons _ _=>simp[qH]at h
   subst this;exact ah7 (sE e C h.1.1 ok.1).pt
theorem sI:∀ (it:It) {X:Cx} {c:Ctx} {a tg:Expr},q8 X c->mI c it a=true->okI (vJ X) (mX X) it->wM (isTup tg) it=true->(c.calm=true∨Il it=true)->PI X tg a (wI it)
 | .seq e,X,c,a,tg,C,h,ok,_,hcm=>by simp only[mI,bM]at h;exact ak1 (C.calm (hcm.resolve_right fH)) (sE e C h.1 ok).pe| .rng as,X,c,a,tg,C,h,ok,_,hcm=>by
  have h:(opt (lK a) fun t=>(t.1==aD "range")&&cT c t.1&&qH c as t.2&&(t.2.length==1||t.2.length==2||t.2.length==3))=true:=h;obtain⟨⟨y,args⟩,e,hh⟩:=au h;obtain⟨p,pos,rfl⟩:=iJ e;have h:=hh;simp only[bM,yF,beq_iff_eq,cT]at h;obtain⟨⟨⟨rfl,h1,h2⟩,h3⟩,h4⟩:=h;have hl:=U7 h3;cases args with
  |nil=>simp at h4|cons a1 es=>intro i q f;exact ak3 (Tq as C h3 ok) (C.Bt _ h1) (C.blt _ h2) (fun z=>C.calm (hcm.resolve_right fun y=>by have y:=of_decide_eq_true y;rw[hl]at y;simp[z]at y)) i (by simp only[wI,hl,bh]at q;exact q) f
 | .enum l,X,c,a,tg,C,h,ok,ht,hcm=>by
  have h:(opt (lK a) fun t=>match t.2 with|[l']=>(t.1==aD "enumerate")&&cT c t.1&&mE c l l' &&notStar l' |_=>false)=true:=h;obtain⟨⟨y,args⟩,e,hh⟩:=au h;obtain⟨p,pos,rfl⟩:=iJ e;have h:=hh
  match args,h with
  |[l'],h=>
   simp only[bM,beq_iff_eq,cT]at h;obtain⟨⟨⟨rfl,h1,h2⟩,h3⟩,h5⟩:=h;simp only[wM]at ht;cases tg with
   |Tuple es k tp=>exact ah9 (C.calm (hcm.resolve_right fH)) (C.Bt _ h1) (C.blt _ h2) (sE l C h3 ok).pe (by rw[Aa h5];rfl)|_=>exact(fH ht).elim
  |[],h=>exact(fH h).elim|_::_::_,h=>exact(fH h).elim
 | .rvd l,X,c,a,tg,C,h,ok,_,hcm=>by
  have h:(opt (lK a) fun t=>match t.2 with|[l']=>(t.1==aD "reversed")&&cT c t.1&&mE c l l' &&notStar l' |_=>false)=true:=h;obtain⟨⟨y,args⟩,e,hh⟩:=au h;obtain⟨p,pos,rfl⟩:=iJ e;have h:=hh
  match args,h with
  |[l'],h=>simp only[bM,beq_iff_eq,cT]at h;obtain⟨⟨⟨rfl,h1,h2⟩,h3⟩,h5⟩:=h;exact ak2 (C.calm (hcm.resolve_right fH)) (C.Bt _ h1) (C.blt _ h2) (sE l C h3 ok).pe (by rw[Aa h5];rfl)|[],h=>exact(fH h).elim|_::_::_,h=>exact(fH h).elim
end
end DW
namespace DW
open PySem PySem.Spec PyProof.Rows
open L2 (aP Key frs wz Loc Look Mod tL cG Cls je Meth Mk)
theorem ac3 {t e:Expr} {n env} (h:iM e=true):swapsWithSole [t] e n env=pure false:=zX h
theorem Oc {tg v:Expr} {env} (h:DY v=true):Xl [tg] v env=pure none:=by unfold Xl;cases tg<;>first|rfl|(cases v<;>first|rfl|exact(fH h).elim)
section
variable {X:Cx} {x:Str} {ks:List (List Nat)} {sp:qZ} {i e:Expr} {es:List Expr} {wi:WE} {ws:WA} {w:QX->WE} {p p2 pos:Pos} {k:Nat} {body:List Stmt} {hd:Xp} {wb:WS} {a:Stmt} {w1 w2:WS}
theorem PS.wk (h:PS X a w1) (q:∀ Z ρ μ,w2 Z ρ μ->w1 Z ρ μ):PS X a w2:=fun hp i z f=>h hp i (q _ _ _ z) f
theorem akT (hr:cG k X.A) (R:ajT X.T k x ks sp) (hg:Gl X x) (hi:PE X i wi) (hx:Cg i) (ha:Ar X (e::es) ws) (hdb:(x==("__debug__":Str))=false):
  JgX X (eval (.Call (.Subscript (.Name x p) i p2) (e::es) [] pos) X.env) (fun Xd ρ μ Q=>wi ρ μ fun d μ1=>isKey ks d/\ws ρ μ1 fun ds μ2=>sp (d::ds) μ2 Q Xd):=fun {s ρ θ μ Qd Xd Q E} i0 h fi fx=>by
 obtain⟨a,hm,hd,rfl,R⟩:=R;have ev:eval (.Call (.Subscript (.Name x p) i p2) (e::es) [] pos) X.env=(do OD pos (<-eval (.Subscript (.Name x p) i p2) X.env) [] (jo pos (fu (e::es) X.env)) (Dg pos (Dl [] X.env))):=rfl;rw[ev];refine aq (L2.aae Pz.lookup hx (vV i0 hg hm hdb (hi i0 h fun {d u s1 θ1 μ1} i1 g1 r1 h1=>?_)));obtain⟨hk,h1⟩:=h1;unfold isKey at hk;split at hk
 .rename_i t
  obtain⟨⟨tk,rfl⟩,_⟩:=id r1;rw[show t=(⟨t.toArray⟩:Str).cps.toList from rfl,<-sy,<-W5]at hk;obtain⟨fa,hfa⟩:=Ft.mp hk;refine⟨HX (Hl hd i1.Cp),ac0 (Hl hd i1.Cp) hfa fun u' hu=>?_⟩;subst hu;refine cw_ok (first:=[]) ha (agU hd hfa) (Iv.tok i1) h1 fun {ds us s2 θ2 μ2} i2 g2 r2 h2=>?_;obtain⟨t',r',fa',fd,ps,Tc,e1,e2,hb,F,h3⟩:=R _ _ _ _ h2;cases e1;rw[hfa]at e2;cases e2;have g:G0 X θ μ s θ2 μ2 s2:=g1.trans ((cW fun _ _ e=>e).trans g2);exact Wo F hr hb i2 r2 h3 (fi.mono g) (fx.mono g)
 .exact hk.elim
theorem ah3 (h:JgX X (eval e X.env) w):PS X (.Return (some e) pos) (fun Z ρ μ=>w (Z.xc ρ) ρ μ Z.rt):=fun hp i q f=>aee (h i q (fun i1 g1 r q=>f.rt i1 g1.gs r q) fun i1 g1 fl q=>f.xc i1 g1.gs fl q)
theorem ah1 (hb:VB X body wb):PS X (.Try body [hd] [] [] pos) (fun Z ρ μ=>wb {Z with xc:=fun _ _ _ _ _=>False} ρ μ):=fun hp i q f=>by refine wpAny_Try_except (hb PassesOwn.looking i q ⟨fun i1 g1 z=>PL (f.nx i1 g1 z),fun i1 g1 z=>f.bk i1 g1 z,fun i1 g1 z=>f.ct i1 g1 z,fun i1 g1 r z=>f.rt i1 g1 r z,fun _ _ _ z=>z.elim⟩)
end
theorem sXC:∀ (k:XC) {X:Cx} {c:Ctx} {a:Expr},q8 X c->mXC c k a=true->aby (vJ X) (mX X) k->JgX X (eval a X.env) (fun Xd ρ μ Q=>wXC k (fun _=>Xd) ρ μ Q)
 | .dsp x ks sp i as,X,c,a,C,h,ok=>by
  replace h:(opt (V6 a) fun t=>opt (Cu t.1) fun u=>opt (qg u.1) fun z=>z==x&&c.Bt x&& !gF x&&mE c i u.2&&eE u.2&&qH c as t.2&& !t.2.isEmpty)=true:=h;obtain⟨⟨f',args⟩,e,hh⟩:=au h;obtain⟨pos,rfl⟩:=V5 e;obtain⟨⟨g',i'⟩,e,hh⟩:=au hh;obtain⟨p2,e4⟩:=qe e;simp only at e4;subst e4;obtain⟨z,e,hh⟩:=au hh;obtain⟨p,e4⟩:=nq e;simp only at e4;subst e4;simp only[bM,wX,beq_iff_eq]at hh;obtain⟨⟨⟨⟨⟨⟨rfl,h1⟩,h2⟩,h3⟩,h4⟩,h5⟩,h6⟩:=hh;obtain⟨k,hr,R⟩:=ok.1;cases args with
  |nil=>simp at h6|cons e es=>exact akT hr R (C.Bt _ h1) (sE i C h3 ok.2.1).pe (rU h4) (Tq as C h5 ok.2.2) (lg h2).1
mutual
theorem sS:∀ (st:S) {X:Cx} {c:Ctx} {a:Stmt},q8 X c->mS c st a=true->okS (vJ X) (mX X) st->PS X a (wS st)
 | .set i e,X,c,a,C,h,ok=>by
  replace h:(opt (HJ a) fun t=>opt (qg t.1) fun x=>c.at_ i x&&c.loc x&&mE c e t.2&&(iM t.2||Rm e))=true:=h;obtain⟨⟨tg,v⟩,e1,hh⟩:=au h;obtain⟨x,e2,hh⟩:=au hh;obtain⟨p,rfl⟩:=nq (a:=tg) e2;obtain⟨pos,rfl⟩:=tR e1;replace h:=hh;simp only[bM]at h;obtain⟨⟨⟨h1,h2⟩,h3⟩,h4⟩:=h;have l1:=C.loc x h2;have hN:X.N.Nodup:=C.N▸C.nd;have hi:X.N[i]?=some x:=C.N▸Hr h1;have S:=sE e C h3 ok;by_cases hn:iM v=true
  .exact afG hN hi l1 S.pe (zX hn)
  .have h4:Rm e=true:=by
    rcases aeF.mp h4 with z|z
    .exact absurd z hn
    .exact z
   cases e with
   |comp m n tt cap elt it cond=>
    have hv:mE c (.comp m n tt cap elt it cond) v=true->∃ Ry tg iter ifs scope VH,v= .ListComp Ry [⟨tg,iter,ifs,0⟩] scope VH/\((c.calm||(Il it&& !tt))&&opt (GR tt tg) fun xs=>opt (lZ c cap) fun cs=>n==xs.length&&KQ c scope (xs++cs) cs&&wM tt it&&mI c it iter&&mTg (c.in_ (xs++cs) scope.names) (aU n) tt tg&&mE (c.in_ (xs++cs) scope.names) elt Ry&&qH (c.in_ (xs++cs) scope.names) cond ifs&&decide (ifs.length<=1))=true:=fun z=>by obtain⟨⟨Ry,tg,iter,ifs,scope⟩,e,hh⟩:=au z;obtain⟨VH,e⟩:=Mp e;exact⟨Ry,tg,iter,ifs,scope,VH,e,hh⟩
    obtain⟨Ry,tg,iter,ifs,scope,VH,rfl,h9⟩:=hv h3;replace h3:=h9;have hsw:yg (.ListComp Ry [⟨tg,iter,ifs,0⟩] scope VH) (some (.Name x p)) pos.line X.env=pure (X.env.blockKind== .function&&X.env.kindOf x==some .local&&p.line==(adE Ry [⟨tg,iter,ifs,0⟩] scope VH).pos.line&& !(scope.names.any fun(n,k)=>n==x&&(k== .local||k== .cell))):=rfl;cases hb:(X.env.blockKind== .function&&X.env.kindOf x==some .local&&p.line==(adE Ry [⟨tg,iter,ifs,0⟩] scope VH).pos.line&& !(scope.names.any fun(n,k)=>n==x&&(k== .local||k== .cell))) with
    |false=>rw[hb]at hsw;exact afG hN hi l1 S.pe hsw|true=>
     rw[hb]at hsw;have hl:X.env.scope.names.lookup x=some .local:=by simp only[bM,beq_iff_eq]at hb;exact hb.1.1.2
     simp only[bM]at h3;obtain⟨hcm,h3⟩:=h3;obtain⟨xs,hxs,h3⟩:=au h3;obtain⟨cs,hcs,h3⟩:=au h3;simp only[bM,beq_iff_eq]at h3;obtain⟨⟨⟨⟨⟨⟨⟨hn,k1⟩,kz⟩,k2⟩,kg⟩,k3⟩,k4⟩,k5⟩:=h3;have k5:=of_decide_eq_true k5;subst hn;have ok':cF (vJ X) (mX X) elt/\okI (vJ X) (mX X) it/\fM (vJ X) (mX X) cond:=ok;exact YW (KN C hcs k1) (tgn hxs) (sI it C k2 ok'.2.1 (Ht kg kz) (ani hcm)) (fun cl Ca=>aap (qW C k1 cl Ca) (anh hcm) kg) (fun cl Ca=>sTs cond (qW C k1 cl Ca) k4 k5 ok'.2.2) (fun cl Ca=>(sE elt (qW C k1 cl Ca) k3 ok'.1).pe) (Ep (aga k2)) hN hi hl hsw
   |_=>cases h4
 | .Tj is e,X,c,a,C,h,ok=>by replace h:(opt (HJ a) fun t=>opt (acE t.1) fun ts=>c.calm&&jR c is ts&&mE c e t.2&&iM t.2&&DY t.2)=true:=h;obtain⟨⟨tg,v⟩,e1,hh⟩:=au h;obtain⟨ts,e2,hh⟩:=au hh;obtain⟨k,p,rfl⟩:=Sh (a:=tg) e2;obtain⟨pos,rfl⟩:=tR e1;replace h:=hh;simp only[bM]at h;obtain⟨⟨⟨⟨hcm,h1⟩,h2⟩,h3⟩,h4⟩:=h;exact ak0 (sE e C h2 ok).pe (aap (a:=.Tuple ts k p) C (is:=is) (tt:=true) (fun _=>hcm) (show mTg c is true (.Tuple ts k p)=true from h1)) (ac3 h3) (Oc h4) rfl| .dput o i e,X,c,a,C,h,ok=>by replace h:(opt (HJ a) fun t=>opt (Cu t.1) fun u=>c.calm&&mE c o u.1&&mE c i u.2&&eE u.2&&mE c e t.2&&iM t.2)=true:=h;obtain⟨⟨tg,v⟩,e1,hh⟩:=au h;obtain⟨⟨o',i'⟩,e2,hh⟩:=au hh;obtain⟨p,rfl⟩:=qe (a:=tg) e2;obtain⟨pos,rfl⟩:=tR e1;replace h:=hh;simp only[bM]at h;obtain⟨⟨⟨⟨⟨hc,h1⟩,h2⟩,h3⟩,h4⟩,h5⟩:=h;obtain⟨k,hr⟩:=C.room;exact afF (ahv:=Hw) (fun i rx ry rz h f=>agS (by have:=hr.units;lia) i rx ry rz h f) (sE o C h1 ok.1).pe (sE i C h2 ok.2.1).pe (sE e C h4 ok.2.2).pe (zX h5)| .Nu op o i e,X,c,a,C,h,ok=>by replace h:(opt (acS a) fun t=>opt (Cu t.1) fun u=>op==t.2.1&&(op== .Add||op== .Sub)&&mE c o u.1&&mE c i u.2&&eE u.2&&mE c e t.2.2)=true:=h;obtain⟨⟨tg,op',v⟩,e1,hh⟩:=au h;obtain⟨⟨o',i'⟩,e2,hh⟩:=au hh;obtain⟨p,rfl⟩:=qe (a:=tg) e2;obtain⟨pos,rfl⟩:=Sx e1;replace h:=hh;simp only[bM,yF,beq_iff_eq]at h;obtain⟨⟨⟨⟨⟨rfl,h0⟩,h1⟩,h2⟩,h3⟩,h4⟩:=h;exact afH (sE o C h1 ok.1).pe (sE i C h2 ok.2.1).pe (sE e C h4 ok.2.2).pe (rU h3) (acn h3)| .Ih o i e,X,c,a,C,h,ok=>by replace h:(opt (HJ a) fun t=>opt (Cu t.1) fun u=>mE c o u.1&&mE c i u.2&&eE u.2&&mE c e t.2&&iM t.2)=true:=h;obtain⟨⟨tg,v⟩,e1,hh⟩:=au h;obtain⟨⟨o',i'⟩,e2,hh⟩:=au hh;obtain⟨p,rfl⟩:=qe (a:=tg) e2;obtain⟨pos,rfl⟩:=tR e1;replace h:=hh;simp only[bM]at h;obtain⟨⟨⟨⟨h1,h2⟩,h3⟩,h4⟩,h5⟩:=h;exact afF (ahv:=q9) (fun i rx ry rz h f=>Tn i rx ry rz h f) (sE o C h1 ok.1).pe (sE i C h2 ok.2.1).pe (sE e C h4 ok.2.2).pe (zX h5)| .exp e,X,c,a,C,h,ok=>by replace h:(opt (akb a) fun v=>mE c e v&&iM v)=true:=h;obtain⟨v,e1,hh⟩:=au h;obtain⟨pos,rfl⟩:=acR e1;replace h:=hh;simp only[bM]at h;exact akZ (sE e C h.1 ok).pe (zX h.2)| .ret e,X,c,a,C,h,ok=>by replace h:(opt (acP a) fun o=>opt o fun v=>mE c e v)=true:=h;obtain⟨o,e1,hh⟩:=au h;obtain⟨v,rfl,hh⟩:=au hh;obtain⟨pos,rfl⟩:=Sw e1;replace h:=hh;exact akX (sE e C h ok).pe| .ite t x y,X,c,a,C,h,ok=>by replace h:(opt (uIf a) fun u=>mE c t u.1&&Ec c x u.2.1&&Ec c y u.2.2)=true:=h;obtain⟨⟨t',x',y'⟩,e1,hh⟩:=au h;obtain⟨pos,rfl⟩:=ahG e1;replace h:=hh;simp only[bM]at h;exact amG (sE t C h.1.1 ok.1).pt (sSs x C h.1.2 ok.2.1) (sSs y C h.2 ok.2.2)| .for_ is tt it b,X,c,a,C,h,ok=>by replace h:(opt (aj9 a) fun u=>c.calm&&mTg c is tt u.1&&mI c it u.2.1&&Ec c b u.2.2&&jP u.2.1&&wM tt it)=true:=h;obtain⟨⟨t',i',b'⟩,e1,hh⟩:=au h;obtain⟨pos,rfl⟩:=acQ e1;replace h:=hh;simp only[bM]at h;obtain⟨⟨⟨⟨⟨hcm,h1⟩,h2⟩,h3⟩,h4⟩,hz⟩:=h;exact akY (sI it C h2 ok.1 (Ht h1 hz) (.inl hcm)) (aap C (fun _=>hcm) h1) (sSs b C h3 ok.2) (Ep h4)| .whl t b,X,c,a,C,h,ok=>by replace h:(opt (aj7 a) fun u=>mE c t u.1&&Ec c b u.2)=true:=h;obtain⟨⟨t',b'⟩,e1,hh⟩:=au h;obtain⟨pos,rfl⟩:=acN e1;replace h:=hh;simp only[bM]at h;exact akW (sE t C h.1 ok.1).pt (sSs b C h.2 ok.2)| .qt cn f o e,X,c,a,C,h,ok=>by replace h:(opt (HJ a) fun t=>opt (HB t.1) fun u=>u.2==aD f&&mE c o u.1&&mE c e t.2)=true:=h;obtain⟨⟨tg,v⟩,e1,hh⟩:=au h;obtain⟨⟨o',f'⟩,e2,hh⟩:=au hh;obtain⟨p,rfl⟩:=Cv (a:=tg) e2;obtain⟨pos,rfl⟩:=tR e1;replace h:=hh;simp only[bM,beq_iff_eq]at h;obtain⟨⟨rfl,h1⟩,h2⟩:=h;obtain⟨_,_,K,hc,hC,hN⟩:=ok.1;exact ah2 hc hC hN (sE o C h1 ok.2.1).pe (sE e C h2 ok.2.2).pe (by cases v<;>rfl)| .aco cn f op o e,X,c,a,C,h,ok=>by replace h:(opt (acS a) fun t=>opt (HB t.1) fun u=>u.2==aD f&&op==t.2.1&&(op== .Add||op== .Sub)&&mE c o u.1&&mE c e t.2.2)=true:=h;obtain⟨⟨tg,op',v⟩,e1,hh⟩:=au h;obtain⟨⟨o',f'⟩,e2,hh⟩:=au hh;obtain⟨p,rfl⟩:=Cv (a:=tg) e2;obtain⟨pos,rfl⟩:=Sx e1;replace h:=hh;simp only[bM,yF,beq_iff_eq]at h;obtain⟨⟨⟨⟨rfl,rfl⟩,h1⟩,h2⟩,h3⟩:=h;obtain⟨_,_,K,hc,hC,hN⟩:=ok.1;exact ah4 hc hC hN (sE o C h2 ok.2.1).pe (sE e C h3 ok.2.2).pe| .Y4,X,c,a,C,h,ok=>fun _ _ q _=>q.elim
 | .abt k,X,c,a,C,h,ok=>by replace h:(opt (acP a) fun o=>opt o fun v=>mXC c k v)=true:=h;obtain⟨o,e1,hh⟩:=au h;obtain⟨v,rfl,hh⟩:=au hh;obtain⟨pos,rfl⟩:=Sw e1;replace h:=hh;exact PS.wk (ah3 (sXC k C h ok)) fun Z ρ μ q=>by cases k;exact q
 | .abh P tab i b hs,X,c,a,C,h,ok=>by replace h:(opt (aj8 a) fun t=>Ec {c with rs:=false} b t.1)=true:=h;obtain⟨⟨body,hd⟩,e1,hh⟩:=au h;obtain⟨pos,rfl⟩:=acO e1;exact ah1 (sSs b (c:={c with rs:=false}) ⟨C.N,C.nd,C.vis,C.loc,C.isl,C.Bt,C.clo,C.blt,C.calm,C.room⟩ hh ok)
theorem sSs:∀ (st:Ss) {X:Cx} {c:Ctx} {as:List Stmt},q8 X c->Ec c st as=true->jO (vJ X) (mX X) st->VB X as (wSs st)
 | .nil,X,c,as,C,h,_=>by
  have:as=[]:=by simpa[Ec]using h
  subst this;exact ah0
 | .cons s r,X,c,as,C,h,ok=>by
  cases as with
  |nil=>simp[Ec]at h|cons a as=>simp only[Ec,bM]at h;exact afE (sS s C h.1 ok.1) (sSs r C h.2 ok.2)
end
end DW
namespace DW
open PySem PySem.Spec PyProof.Rows
open L2 (aP Key frs wz Loc Look Mod tL cG Cls je Meth Mk dj Vx Zn fQ bO aF)
noncomputable abbrev cO (T:Top) (k:Nat):Rf->dz->Prop:=qY T (k+16)
def gw (T:Top) (x:Str) (d:D):Prop:=∃ u:Value,T.mg x=some u/\∀ h θ μ,Rp h θ μ d u
theorem qY.up {T:Top} {j k:Nat} {x:Rf} {sp:dz} (h:qY T j x sp) (hk:j<=k):qY T k x sp:=by
 cases x with
 |fn x=>obtain⟨fa,fd,ps,h1,h2,h3,h4⟩:=h;exact⟨fa,fd,ps,h1,h2,h3,h4.mono hk⟩|rW c m=>obtain⟨C,fa,fd,ps,h0,h1,h2,h3,h4⟩:=h;exact⟨C,fa,fd,ps,h0,h1,h2,h3,h4.mono hk⟩|mk c=>obtain⟨C,fa,fd,ps,i,h0,h1,h2,h3,h4,h5⟩:=h;exact⟨C,fa,fd,ps,i,h0,h1,h2,h3,h4,gD h5 hk⟩|fld c f=>exact h|fnX x sp=>obtain⟨fa,fd,ps,h1,h2,h3,h4⟩:=h;exact⟨fa,fd,ps,h1,h2,h3,h4.mono hk⟩|amO c m sp=>obtain⟨C,fa,fd,ps,h0,h1,h2,h3,h4⟩:=h;exact⟨C,fa,fd,ps,h0,h1,h2,h3,h4.mono hk⟩|mkX c sp=>obtain⟨C,fa,fd,ps,i,h0,h1,h2,h3,h4,h5⟩:=h;exact⟨C,fa,fd,ps,i,h0,h1,h2,h3,h4,gD h5 hk⟩|din x ks=>exact h|dsp x ks sp=>obtain⟨a,h1,h2,h3,h4⟩:=h;refine⟨a,h1,h2,h3,fun ds μ Q X q=>?_⟩;obtain⟨t,r,fa,fd,ps,Tc,e1,e2,e3,e4,e5⟩:=h4 ds μ Q X q;exact⟨t,r,fa,fd,ps,Tc,e1,e2,e3,e4.mono hk,e5⟩|hdl P tab=>exact h|_=>exact h.elim
theorem cO.up {T:Top} {j k:Nat} {x:Rf} {sp:dz} (h:cO T j x sp) (hk:j<=k):cO T k x sp:=qY.up h (Nat.add_le_add_right hk 16)
theorem Bw {T:Top} {x:Str} {i:Int} {t:Tok} (h:T.mg x=some (.int i t)):gw T x (.int i):=⟨_,h,fun _ _ _=>⟨t,rfl⟩⟩
theorem fG.calm {T:Top} {k:Nat} {f:Addr} {fd:d7} {ps:List Str} {sp:dz} (F:fG T k f fd ps (fun ds μ Q X=>sp ds μ Q/\X=noX)):fG T k f fd ps (Sq sp):=
 ⟨fun q=>F.len ⟨q,rfl⟩,fun r e b rs q fx _=>F.run (Xd:=noX) r e b rs ⟨q,rfl⟩ fx fun _ _ _ q=>q.elim⟩
section
variable {T:Top} {k:Nat} {x qual:Str} {st:Stmt} {f:Addr} {fd:d7} {N ps iG:List Str} {i:Ss} {cm:Bool}
theorem body_okX {sp:qZ} (hcm:cm=true->16<=k) (F:Vx T.K x qual st f fd) (S:dj N ps (aF st)) (hmt:Ec ⟨N,(aF st).names,iG,cm,true⟩ i (bO st)=true) (zq:∀ y,iG.contains y=true->T.mg y=none)
  (ok:jO (qY T k) (gw T) i) (len:∀ {ds μ Q X},sp ds μ Q X->ds.length=ps.length) (hk:ahk N i sp):fG T (k+1) f fd ps sp:=by
 obtain⟨oc,od,kV,doc,pm,an,cdv,ct,osl,rfl,lk,hcd⟩:=F.ex;refine agH lk hcd S len hk fun A outer L hr=>?_;refine sSs i (X:=fX T N qual (aF st) L f cdv A outer) (c:=⟨N,(aF st).names,iG,cm,true⟩) ⟨rfl,S.nd,fun y hy=>?_,fun y hy=>?_,fun y hy=>?_,fun y hy=>?_,fun y hy=>hy,fun y hy=>zq y hy,fun z=>YL.mpr (hr.hd (hcm z)),⟨k,hr⟩⟩ hmt (jO.mono i (fun y Tc z=>⟨k,hr,z⟩) (fun y d z=>z) ok)
 .unfold Ctx.vis at hy
  split at hy
  .rename_i z;exact .inl z
  .rename_i z;exact .inr (.inl z)
  .rename_i z;exact .inr (.inr z)
  .cases hy
 .unfold Ctx.loc at hy
  split at hy
  .rename_i z;exact .inl z
  .rename_i z;exact .inr ⟨z,rfl⟩
  .cases hy
 .have hy':(aF st).names.lookup y=some .local:=by simpa[isLocal]using hy
  exact hy'
 .unfold Ctx.Bt at hy
  split at hy
  .rename_i z;exact z
  .cases hy
theorem Rv {sp:dz} (F:Vx T.K x qual st f fd) (S:dj N ps (aF st)) (hmt:Ec (Ctx.of N (aF st).names iG) i (bO st)=true) (zq:∀ y,iG.contains y=true->T.mg y=none)
  (ok:jO (cO T k) (gw T) i) (har:∀ ds μ Q,sp ds μ Q->ds.length=ps.length) (hk:Keeps N i sp):fG T (k+16+1) f fd ps (Sq sp):=
 fG.calm (body_okX (fun _=>Nat.le_add_left 16 k) F S hmt zq ok (fun q=>har _ _ _ q.1) fun ds μ Q X h=>by rw[h.2];exact hk ds μ Q h.1)
theorem Vx.bnd (F:Vx T.K x qual st f fd) (h:∀ (kV doc pm:Value) (an:Option Addr) (cdv ct:Value) (us:List Value),us.length=ps.length->rK (lN x qual (fQ st) (bO st) (aF st) .none kV doc pm an cdv ct) ⟨us,[]⟩=pure (ps.zip us)):Binds T.K fd ps:=by obtain⟨oc,od,kV,doc,pm,an,cdv,ct,osl,rfl,lk,hcd⟩:=F.ex;exact fun s us _ hl=>.of_eq (h kV doc pm an cdv ct us hl)
theorem ana {y:Str} {sp:dz} (F:Vx T.K x qual st f fd) (S:dj N ps (aF st)) (hmt:Ec (Ctx.of N (aF st).names iG) i (bO st)=true) (zq:∀ y,iG.contains y=true->T.mg y=none)
  (ok:jO (cO T k) (gw T) i) (har:∀ ds μ Q,sp ds μ Q->ds.length=ps.length) (hk:Keeps N i sp) (hm:T.mg y=some (.ref f)) (hb:Binds T.K fd ps):cO T (k+1) (.fn y) sp:=
 ⟨f,fd,ps,hm,F.kp,hb,(Rv F S hmt zq ok har hk).mono (by lia:k+16+1<=k+1+16)⟩
end
theorem Tt {h:Heap} {θ:Th} {μ:Mem}:∀ {vs:List Value} {ns:List Int},nU vs ns->dh h θ μ (ns.map D.int) vs
 |_,_,.nil=>.nil|_,_,.cons n t r=>.cons ⟨t,rfl⟩ (Tt r)
theorem Us:∀ {vs:List Value} {ns:List Int},nU vs ns->vs.length=ns.length
 |_,_,.nil=>rfl|_,_,.cons n t r=>by rw[bh,bh,Us r]
theorem JT {P:aZ} {w:aQ} {K:aV} {mg mb:Str->Option Value} {k:Nat} {fa a:Addr} {fd:d7} {x:Str} {s₁:aj} {vs:List Value} {ns:List Int}
  (KX:K.In s₁.heap) (hns:s₁.heap.Ns aM mg) (hb:s₁.heap.Ns Dj mb) (hbb:∀ x:Str,x≠"__name__"->mb x=yt x) (hlim:s₁.heap.NoLimit) (hsy:∃ mm,s₁.heap.Ns kW mm) (hg:s₁.gens= #[])
  (ha:s₁.heap.get? a=some {cls:=.type "list",data:=.seq vs.toArray}) (hi:nU vs ns) (hl:ns.length<=63) (hr:cG k callerA)
  (F:fG ⟨P,w,K,mg,s₁.heap⟩ k fa fd [x] (Sq Mv)) (hbind:∀ (s:aj) (u:Value),uD s fd ⟨[u],[]⟩ [(x,u)]):
  jK (aH P w) callerA (.call (.ref fa) ⟨[.ref a],[]⟩) (fun r s'=>r= .ok (.ret (.bool true))/\OldK s₁.heap s'.heap/\s'.os=s₁.os/\mJ s'.gens) s₁:=by
 have nl:∀ b,¬pN ⟨[],[]⟩ [] b:=fun b ⟨n,p,c,h,_⟩=>by simp at h
 have nv:∀ b,¬Mh ⟨[],[]⟩ [] b:=fun b z=>z.elim (fun z=>by simp at z) (nl b);have e0:E0 ⟨P,w,K,mg,s₁.heap⟩ callerA [] ⟨[],[]⟩ [] s₁:=⟨⟨KX,hns,⟨mb,hb,hbb⟩,hlim,hsy⟩,rfl,.of_eq hg,fun b o e=>⟨e,nl b⟩,fun e m=>by simp at m,
  ⟨rfl,fun b z=>by simp at z,fun m n p q c d b h=>by simp at h,fun b z=>(nv b z).elim,fun n c p h=>by simp at h⟩,fun v q=>nomatch q⟩
 have hle:vs.length<=sizeLine:=by rw[Us hi];exact gD hl (by decide)
 have r:dh s₁.heap ⟨[],[]⟩ [] [.ro (ns.map D.int)] [.ref a]:=.one ⟨a,vs,rfl,⟨hle,⟨_,_,ha,rfl,rfl,rfl⟩⟩,nv a,Tt hi⟩;refine F.run (us:=[.ref a]) (Qd:=fun d _=>d= .bl true) (Xd:=noX) hr e0 (hbind s₁ (.ref a)) r ⟨ns,rfl,hl,fun _=>rfl⟩ (fun {d u s' θ' μ'} e g r q=>?_) (fun _ _ _ q=>q.elim);subst q;obtain rfl:u=jF true:=r;refine⟨rfl,adC fun b o q=>?_,g.os,e.bare⟩;obtain⟨_,sl,q',z⟩:=g.keep b o q (nl b) id;rw[z (by simp[frs])]at q';exact q'
theorem agf {l:I4} {k:Nat} {q:aZ} {loose:List Str} {XP:(Str->Option Value)->Heap->Prop} {YP:aQ->Heap->Prop} {d:DefRec} {K:Params->aV} (hI:importsNone q=true) (hn:l.most=some 63) (hk:k<=200) (hdf:d.params.defaults=[])
  (hY:∀ (w:aQ) (h:Heap),YP w h->(K w.params).In h)
  (F:∀ (w:aQ) (mg:Str->Option Value) (fa:Addr) (h:Heap),(K w.params).In h->h.Ns aM mg->mg d.name=some (.ref fa)->
   ∃ fd:d7,(∀ (s:aj) (u:Value),uD s fd ⟨[u],[]⟩ [("script",u)])/\∀ base:Heap,(K w.params).In base->base.Ns aM mg->fG ⟨l.prog,w,K w.params,mg,base⟩ k fa fd ["script"] (Sq Mv)):
  WR q loose XP YP l.row.toRowW d [] (fun f vs=>W3 f vs):=by
 have hr:cG 200 callerA:=⟨fun _=>rfl,by decide,by decide,rfl⟩;refine Att.Gj hn hdf fun w s₀ s₁ mg mb fa o pm cd doc a vs ns G Y ho hd hcd hmg hobj hints hlen hg=>?_;have KX:=hY w _ Y;obtain⟨fd,hb,hF⟩:=F w mg fa _ KX G.T.g hmg;exact JT KX G.T.g G.T.b G.T.builtins G.T.nolimit (let⟨mm,z,_⟩:=(G.T.seer hI).mods;⟨mm,z⟩) hg hobj hints hlen (hr.mono hk) (hF _ KX G.T.g) hb
def aho (K:aV) (x:Str) (ks:List (List Nat)):Prop:=∃ a,bI K aM x=some (some (.ref a))/\Kq K a=true/\(qT K a).map (fun p=>p.1.cps.toList)=ks
theorem ajh {K:aV} {x:Str} {ks:List (List Nat)} {a:Addr} (h1:bI K aM x=some (some (.ref a))) (h2:Kq K a=true) (h3:(qT K a).map (fun p=>p.1.cps.toList)=ks):aho K x ks:=⟨a,h1,h2,h3⟩
def Ck (K:aV) (x:Str) (t:List Nat) (y:Str):Prop:=∃ a f,bI K aM x=some (some (.ref a))/\bI K aM y=some (some (.ref f))/\nR (⟨t.toArray⟩:Str) (qT K a)=some f
theorem wu {K:aV} {x y:Str} {t:List Nat} {a f:Addr} (h1:bI K aM x=some (some (.ref a))) (h2:bI K aM y=some (some (.ref f))) (h3:nR (⟨t.toArray⟩:Str) (qT K a)=some f):Ck K x t y:=⟨a,f,h1,h2,h3⟩
section
variable {T:Top} {k:Nat} {h:Heap} {x y:Str} {ks:List (List Nat)} {sp:dz} {spx:qZ}
theorem al3 (X:T.K.In h) (G:h.Ns aM T.mg) (A:aho T.K x ks):cO T k (.din x ks) spN:=by obtain⟨a,h1,h2,h3⟩:=A;exact⟨a,pq X G h1,h2,h3⟩
theorem cO.Sq (h:cO T k (.fn y) sp):cO T k (.fnX y (DW.Sq sp)) spN:=h
theorem al2 (X:T.K.In h) (G:h.Ns aM T.mg) (A:aho T.K x ks) (H:∀ ds μ Q Xq,spx ds μ Q Xq->∃ t r y Tc,ds= .str t::r/\Ck T.K x t y/\cO T k (.fnX y Tc) spN/\Tc r μ Q Xq):cO T k (.dsp x ks spx) spN:=by obtain⟨a,h1,h2,h3⟩:=A;refine⟨a,pq X G h1,h2,h3,fun ds μ Q Xq z=>?_⟩;obtain⟨t,r,y,Tc,e,⟨a',f,e1,e2,e3⟩,⟨fa,fd,ps,q1,_,q3,q4⟩,z⟩:=H ds μ Q Xq z;rw[h1]at e1;cases e1;rw[pq X G e2]at q1;cases q1;exact⟨t,r,f,fd,ps,Tc,e,e3,q3,q4,z⟩
end
section
variable {α:Type} {P:List α->Prop}
theorem len1 (h:∀ a,P [a]):∀ us:List α,us.length=1->P us
 |[a],_=>h a
theorem len2 (h:∀ a b,P [a,b]):∀ us:List α,us.length=2->P us
 |[a,b],_=>h a b
theorem amS (h:∀ a b c,P [a,b,c]):∀ us:List α,us.length=3->P us
 |[a,b,c],_=>h a b c
end
def bJ (K:aV) (x:Str) (st:Stmt):Prop:=∃ (f:Addr) (fd:d7),bI K aM x=some (some (.ref f))/\Vx K x x st f fd
theorem agY {K:aV} {x:Str} {st:Stmt} {f:Addr} {oc:Value} {od an:Option Addr} {osl:Array (Option Value)} {kV doc pm cdv ct:Value} (a:bI K aM x=some (some (.ref f)))
  (l:K.lookup f=some ⟨oc,od,.func (lN x x (fQ st) (bO st) (aF st) .none kV doc pm an cdv ct),osl⟩) (c:Dr K cdv x=true) (k:pB K (.ref f)=true):bJ K x st:=⟨f,_,a,Zn l c k⟩
theorem u9 {K:aV} {x:Str} {i:Int} {t:Tok} (h:bI K aM x=some (some (.int i t))):∃ t,bI K aM x=some (some (.int i t)):=⟨t,h⟩
def K7 (K:aV):List Str->Prop
 |[]=>True|x::xs=>bI K aM x=some none/\K7 K xs
theorem aaS {K:aV} {h:Heap} {mg:Str->Option Value} (X:K.In h) (G:h.Ns aM mg):∀ {xs:List Str},K7 K xs->∀ y,xs.contains y=true->mg y=none
 |[],_,y,h=>by simp at h|x::xs,F,y,h=>by
  by_cases e:y=x
  .subst e;exact PySem.W.mg_none_of X G F.1
  .exact aaS X G F.2 y (by simpa[e]using h)
theorem anb {T:Top} {h:Heap} {k:Nat} {x:Str} {st:Stmt} {N ps iG:List Str} {i:Ss} {sp:dz} (D:bJ T.K x st) (X:T.K.In h) (G:h.Ns aM T.mg) (S:dj N ps (aF st)) (hmt:Ec (Ctx.of N (aF st).names iG) i (bO st)=true) (zq:∀ y,iG.contains y=true->T.mg y=none)
  (hbd:∀ (kV doc pm:Value) (an:Option Addr) (cdv ct:Value) (us:List Value),us.length=ps.length->rK (lN x x (fQ st) (bO st) (aF st) .none kV doc pm an cdv ct) ⟨us,[]⟩=pure (ps.zip us))
  (har:∀ ds μ Q,sp ds μ Q->ds.length=ps.length) (hk:Keeps N i sp) (ok:jO (cO T k) (gw T) i):cO T (k+1) (.fn x) sp:=by
 obtain⟨f,fd,a,F⟩:=D;exact ana F S hmt zq ok har hk (pq X G a) (Vx.bnd F hbd)
def Hs (K:aV) (y x:Str):Prop:=∃ f:Addr,bI K aM y=some (some (.ref f))/\bI K aM x=some (some (.ref f))
theorem ZS {K:aV} {y x:Str} {f:Addr} (a:bI K aM y=some (some (.ref f))) (b:bI K aM x=some (some (.ref f))):Hs K y x:=⟨f,a,b⟩
theorem cO.other {T:Top} {h:Heap} {k:Nat} {x y:Str} {sp:dz} (A:Hs T.K y x) (X:T.K.In h) (G:h.Ns aM T.mg) (u:cO T k (.fn x) sp):cO T k (.fn y) sp:=by obtain⟨f,a,b⟩:=A;obtain⟨fa,fd,ps,h1,h2⟩:=u;exact⟨fa,fd,ps,by rw[pq X G a,<-pq X G b];exact h1,h2⟩
def spP (sp:Nat->dz):Nat->dz
 |0=>spN|d+1=>sp d
theorem Zo {T:Top} {k:Nat} {f:Addr} {fd:d7} {ps:List Str}:fG T k f fd ps (Sq spN):=⟨fun z=>z.elim,fun _ _ _ _ z=>z.elim⟩
def ClsAt (K:aV) (c:String):Prop:=∃ C:Addr,bI K aM (aD c)=some (some (.ref C))/\Cls K C/\Qe K C=true/\pB K (.ref C)=true
theorem ag7 {K:aV} {c:String} {C:Addr} (a:bI K aM (aD c)=some (some (.ref C))) (pg:Jl K C Str.empty=true) (hd:Qp K C=true) (po:Yi K C=true)
  (sa:nM K (.ref C) "__setattr__"=some (some (.builtin "object.__setattr__"))) (mk:Qe K C=true) (kc:pB K (.ref C)=true):ClsAt K c:=⟨C,a,⟨pg,hd,po,sa⟩,mk,kc⟩
def GP (K:aV) (c f:String):Prop:=∃ C:Addr,bI K aM (aD c)=some (some (.ref C))/\nM K (.ref C) (aD f)=some none
theorem ais {K:aV} {c f:String} {C:Addr} (a:bI K aM (aD c)=some (some (.ref C))) (n:nM K (.ref C) (aD f)=some none):GP K c f:=⟨C,a,n⟩
theorem alV {T:Top} {k:Nat} {c f:String} (Cl:ClsAt T.K c) (N:GP T.K c f):cO T k (.fld c f) spN:=by obtain⟨C,h1,h2,_⟩:=Cl;obtain⟨C',h3,h4⟩:=N;rw[h1]at h3;cases h3;exact⟨C,h1,h2,h4⟩
def gK (K:aV) (c m:String) (q:Str) (st:Stmt):Prop:=∃ (C f:Addr) (fd:d7),bI K aM (aD c)=some (some (.ref C))/\nM K (.ref C) (aD m)=some (some (.ref f))/\Je K (.ref f)=true/\Vx K (aD m) q st f fd
theorem af3 {K:aV} {c m:String} {q:Str} {st:Stmt} {C f:Addr} {oc:Value} {od an:Option Addr} {osl:Array (Option Value)} {kV doc pm cdv ct:Value} (a:bI K aM (aD c)=some (some (.ref C)))
  (b:nM K (.ref C) (aD m)=some (some (.ref f))) (i:Je K (.ref f)=true) (l:K.lookup f=some ⟨oc,od,.func (lN (aD m) q (fQ st) (bO st) (aF st) .none kV doc pm an cdv ct),osl⟩)
  (cd:Dr K cdv q=true) (k:pB K (.ref f)=true):gK K c m q st:=⟨C,f,_,a,b,i,Zn l cd k⟩
section
variable {T:Top} {k:Nat} {c m:String} {q:Str} {st:Stmt} {N ps iG:List Str} {i:Ss} {sp:dz} {h:Heap}
theorem Y9 (D:gK T.K c m q st) (Cl:ClsAt T.K c) (S:dj N ps (aF st)) (hmt:Ec (Ctx.of N (aF st).names iG) i (bO st)=true) (zq:∀ y,iG.contains y=true->T.mg y=none)
  (hbd:∀ (kV doc pm:Value) (an:Option Addr) (cdv ct:Value) (us:List Value),us.length=ps.length->rK (lN (aD m) q (fQ st) (bO st) (aF st) .none kV doc pm an cdv ct) ⟨us,[]⟩=pure (ps.zip us))
  (har:∀ ds μ Q,sp ds μ Q->ds.length=ps.length) (hk:Keeps N i sp) (ok:jO (cO T k) (gw T) i):cO T (k+1) (.rW c m) sp:=by
 obtain⟨C,f,fd,h1,h2,h3,F⟩:=D;obtain⟨C',h4,h5,_⟩:=Cl;rw[h1]at h4;cases h4;exact⟨C,f,fd,ps,h1,h5,⟨h2,h3,F.kp⟩,Vx.bnd F hbd,(Rv F S hmt zq ok har hk).mono (by lia:k+16+1<=k+1+16)⟩
theorem aaz {i:Nat->Ss} {sp:Nat->dz} (D:gK T.K c m q st) (Cl:ClsAt T.K c) (S:dj N ps (aF st)) (hmt:∀ d,Ec (Ctx.of N (aF st).names iG) (i d) (bO st)=true) (zq:∀ y,iG.contains y=true->T.mg y=none)
  (hbd:∀ (kV doc pm:Value) (an:Option Addr) (cdv ct:Value) (us:List Value),us.length=ps.length->rK (lN (aD m) q (fQ st) (bO st) (aF st) .none kV doc pm an cdv ct) ⟨us,[]⟩=pure (ps.zip us))
  (har:∀ d ds μ Q,sp d ds μ Q->ds.length=ps.length) (hk:∀ d,Keeps N (i d) (sp d)) (ok:∀ d j,k<=j->cO T j (.rW c m) (spP sp d)->jO (cO T j) (gw T) (i d)):∀ d,cO T (k+d+1) (.rW c m) (sp d)
 |0=>by refine Y9 D Cl S (hmt 0) zq hbd (har 0) (hk 0) (ok 0 k (aA _) ?_);obtain⟨C,f,fd,h1,h2,h3,F⟩:=D;obtain⟨C',h4,h5,_⟩:=Cl;rw[h1]at h4;cases h4;exact⟨C,f,fd,ps,h1,h5,⟨h2,h3,F.kp⟩,Vx.bnd F hbd,Zo⟩
 |d+1=>Y9 D Cl S (hmt (d+1)) zq hbd (har (d+1)) (hk (d+1)) (ok (d+1) (k+d+1) (by lia) (aaz D Cl S hmt zq hbd har hk ok d))
theorem amQ (X:T.K.In h) (G:h.Ns aM T.mg) (D:gK T.K c "__init__" q st) (Cl:ClsAt T.K c) (S:dj N ps (aF st)) (hmt:Ec (Ctx.of N (aF st).names iG) i (bO st)=true) (zq:∀ y,iG.contains y=true->T.mg y=none)
  (hbd:∀ (kV doc pm:Value) (an:Option Addr) (cdv ct:Value) (us:List Value),us.length=ps.length->rK (lN (aD "__init__") q (fQ st) (bO st) (aF st) .none kV doc pm an cdv ct) ⟨us,[]⟩=pure (ps.zip us))
  (har:∀ ds μ Q,sp ds μ Q->ds.length=ps.length) (hk:Keeps N i sp) (ok:jO (cO T k) (gw T) i):cO T (k+2) (.mk c) sp:=by
 obtain⟨C,f,fd,h1,h2,h3,F⟩:=D;obtain⟨C',h4,h5,h6,h7⟩:=Cl;rw[h1]at h4;cases h4;exact⟨C,f,fd,ps,k+16+1,h1,pq X G h1,⟨h6,h2,h3,h7⟩,Vx.bnd F hbd,Rv F S hmt zq ok har hk,by lia⟩
end
def acp (K:aV) (P:String) (tab:List String):Prop:=∃ CP,bI K aM (aD P)=some (some (.ref CP))/\∀ c∈tab,∃ C,bI K aM (aD c)=some (some (.ref C))/\adJ K (.ref C) (.ref CP)=some true
theorem acp.at {K:aV} {mg:Str->Option Value} {h:Heap} {P:String} {tab:List String} (X:K.In h) (G:h.Ns aM mg) (r:acp K P tab):ajS K mg P tab:=by obtain⟨C,h1,h2⟩:=r;exact⟨C,pq X G h1,h2⟩
end DW
namespace DW
open PySem
def tags:List (List Nat):=[[],[],[97],[98],[97,98],[98,97],[122],[97,98,99,100,101,102,103,104]]
def keyOk (k:Int):Prop:=-(10 ^ 40)<k/\k<10 ^ 40
def cA (x:Itm):Prop:=keyOk x.1/\x.2∈tags
def Bk (μ:Mem) (n:Nat):Prop:=∃ b:Int,μ[n]?=some (.lst [.int b])
def bx (μ:Mem) (n:Nat) (b:Int):Mem:=μ.set n (.lst [.int b])
def vQ:dz:=fun ds μ Q=>match ds with|[.ro xs,.int k]=>∃ ns:List Int,xs=ns.map D.int/\ns.length<1000/\0<=k/\∀ b,Q (.loc μ.length) (μ++[.lst [.int b]])|_=>False
def cj:dz:=fun ds μ Q=>match ds with|[.loc n,.int m]=>Bk μ n/\0<m/\m<2 ^ 500/\∀ d b,0<=d->d<m->Q (.int d) (bx μ n b)|_=>False
def vP:dz:=fun ds μ Q=>match ds with|[.loc n,.int m]=>Bk μ n/\0<=m/\m<1000/\∀ (r:List Itm) b,(r.length:Int)<=m->(∀ x∈r,cA x)->Q (.lst (r.map aK)) (bx μ n b)|_=>False
def aax:List Str:=["box","many","left","digit"]
def aaL:Ss:=(.cons (.Tj [2,3] (.blt "divmod" (.cons (.idx (.var 0) (.cst (.int 0))) (.cons (.var 1) .nil)))) (.cons (.Ih (.var 0) (.cst (.int 0)) (.var 2)) (.cons (.ret (.var 3)) .nil)))
theorem lW (h:Bk μ n):Bk (bx μ n b) n:=by obtain⟨c,h⟩:=h;exact⟨b,by unfold bx;rw[eU (bT.mp h).1]⟩
theorem aa1:bx (bx μ n b) n c=bx μ n c:=by simp[bx]
theorem aiH:Keeps aax aaL cj:=by
 intro ds μ Q h;unfold cj at h;split at h
 .obtain⟨⟨b,hb⟩,h0,hm,h⟩:=h
  rename_i n m;have hc:Nz m:=⟨h0,hm⟩;simp[aaL,aax,aC,bH,wSs,wS,wT,wE,wEs,dM,aB,hb,oV,bQ,hc,fB,q9];exact h _ _ (Int.emod_nonneg _ (by lia)) (Int.emod_lt_of_pos _ h0)
 .exact h.elim
def ga (r:List Itm) (p:Nat):Nat:=match r[p]? with|some x=>((r.take p).filter fun y=>gM x y).length|none=>0
def Kg (r:List Itm):List Int:=(aU r.length).map fun p=>(ga r p:Int)
def mx:List Int->Int
 |[]=>0|i::is=>is.foldl max i
def vN:dz:=fun ds μ Q=>∃ x y:Itm,ds=[aK x,aK y]/\Q (.bl (gM x y)) μ
def Cz:dz:=fun ds μ Q=>∃ x y:Itm,ds=[aK x,aK y]/\Q (.bl (gM x y)) μ
def kI:dz:=fun ds μ Q=>∃ (r:List Itm) (p:Nat),ds=[.lst (r.map aK),.int p]/\p<r.length/\Q (.int (ga r p)) μ
def ac4:dz:=fun ds μ Q=>∃ r:List Itm,ds=[.lst (r.map aK)]/\r.length<1000/\Q (.int (mx (Kg r))) μ
def agV (μ:Mem) (n:Nat):Bool:=match μ[n]? with|some (.jZ _ _)=>true|_=>false
theorem agT (h:agV μ n=true):tyOf μ (.loc n)=some "dict":=by
 unfold agV at h;simp only[tyOf];split at h
 .rename_i e;rw[e]
 .cases h
def Cy:dz:=fun ds μ Q=>match ds with|[.int _]=>Q (.bl true) μ|[.loc n]=>agV μ n=true/\Q (.bl false) μ|[.ro _]=>False|[_]=>Q (.bl false) μ|_=>False
def posR (x:Itm) (l:List Itm):Nat->Nat
 |0=>0|n+1=>match l[n]? with|some y=>if gM x y=true then posR x l n else n+1|none=>n+1
def su (x:Itm) (l:List Itm):List Itm:=l.take (posR x l l.length)++x::l.drop (posR x l l.length)
def GX (r:List Itm):List Itm:=r.foldl (fun l x=>su x l) []
def nJ:dz:=fun ds μ Q=>∃ r:List Itm,ds=[.lst (r.map aK)]/\r.length<1000/\Q (.lst ((GX r).map aK)) (μ++[.gone])
def af0:List Str:=["one","other"]
def agt:Ss:=(.cons (.ret (.cmp .Lt (.var 0) (.var 1))) .nil)
def tB:List Str:=["row","place"]
def tD:Ss:=(.cons (.ret (.blt "len" (.cons (.comp false 1 false [0,1] (.var 0) (.seq (.slc false (.var 0) .nil (.cons (.var 1) .nil))) (.cons (.call "less" vN (.cons (.idx (.var 1) (.var 2)) (.cons (.var 0) .nil))) .nil)) .nil))) .nil)
def ajv:List Str:=["row"]
def ajz:Ss:=(.cons (.ret (.acj "max" (.comp false 1 false [0] (.call "greater_ahead" kI (.cons (.var 1) (.cons (.var 0) .nil))) (.rng (.cons (.blt "len" (.cons (.var 0) .nil)) .nil)) .nil) (.cst (.int 0)))) .nil)
def TQ:List Str:=["one","other"]
def Uy:Ss:=(.cons (.ret (.or (.cmp .Lt (.idx (.var 0) (.cst (.int 0))) (.idx (.var 1) (.cst (.int 0)))) (.and (.cmp .Eq (.idx (.var 0) (.cst (.int 0))) (.idx (.var 1) (.cst (.int 0)))) (.cmp .Lt (.idx (.var 0) (.cst (.int 1))) (.idx (.var 1) (.cst (.int 1))))))) .nil)
def lq:List Str:=["row","found","item","at"]
def lA:Ss:=(.cons (.set 1 (.lst true .nil)) (.cons (.for_ [2] false (.seq (.var 0)) (.cons (.set 3 (.blt "len" (.cons (.var 1) .nil))) (.cons (.whl (.and (.cmp .Gt (.var 3) (.cst (.int 0))) (.call "_law_under" Cz (.cons (.var 2) (.cons (.idx (.var 1) (.bin .Sub (.var 3) (.cst (.int 1)))) .nil)))) (.cons (.set 3 (.bin .Sub (.var 3) (.cst (.int 1)))) .nil)) (.cons (.exp (.meth "insert" (.var 1) (.cons (.var 3) (.cons (.var 2) .nil)))) .nil)))) (.cons (.ret (.Gh (.var 1))) .nil)))
def Ba:List Str:=["thing"]
def Bp:Ss:=(.cons (.ret (.and (.isin (.var 0) "int") (.not (.isin (.var 0) "bool")))) .nil)
theorem alG:Keeps af0 agt vN:=by
 rintro ds μ Q ⟨x,y,rfl,h⟩;simp[agt,af0,aC,bH,wSs,wS,wT,wE,wEs,aK,cP,M8,wJ,mq,sc2];by_cases e:x.1=y.1
 .simp[gM,e]at h
  by_cases e2:x.2=y.2
  .rw[e2,JR]at h
   simp[e,e2];exact h
  .simp[e,e2];exact h
 .simp[gM,e]at h
  simp[e];exact h
theorem agl:Keeps TQ Uy Cz:=by
 rintro ds μ Q ⟨x,y,rfl,h⟩;simp[Uy,TQ,aC,bH,wSs,wS,wT,wE,wEs,aK,cP,dM,aB,oV,M8,fV,flat,mq];by_cases e:x.1=y.1
 .simp[gM,e]at h
  simp[e];exact h
 .simp[gM,e]at h
  by_cases e2:x.1<y.1
  .simp[e2]at h ⊢;exact h
  .simp[e2]at h ⊢;simp[e];exact h
theorem agk:Keeps Ba Bp Cy:=by
 intro ds μ Q h;unfold Cy at h;split at h
 .simpa[Bp,Ba,aC,bH,wSs,wS,wE,tM,tyOf,Ls,fV]using h
 .simpa[Bp,Ba,aC,bH,wSs,wS,wE,tM,agT h.1,Ls,fV]using h.2
 .exact h.elim
 .rename_i d h1 h2 h3
  cases d with
  |int i=>exact absurd rfl (h1 i)|loc i=>exact absurd rfl (h2 i)|ro i=>exact absurd rfl (h3 i)|_=>simpa[Bp,Ba,aC,bH,wSs,wS,wE,tM,tyOf,Ls,fV]using h
 .exact h.elim
theorem Gu:Keeps tB tD kI:=by
 rintro ds μ Q ⟨r,p,rfl,hp,h⟩;simp only[tD,tB,aC,bH,wSs,wS,wE,wEs,wI,wO,zR,Gq,newL,mz,wTs,wT,aX,aW,bh,aN,bB,aO,aJ,bA];have e:cutD (r.map aK) none (some (p:Int))=(r.take p).map aK:=by
  have h2:¬((p:Int)<0):=by lia
  have h3:min p r.length=p:=by lia
  simp[cutD,kO,h2,h3,Jf]
 rw[e];refine gO aK (fun y=>gM r[p] y) aK trivial _ _ ?_ ?_
 .intro y _ Y N q
  have e2:(r.map aK)[p]?=some (aK r[p]):=by simp[hp]
  simp[bindC,dM,aB,gG hp,hp];refine⟨r[p],y,rfl,?_⟩;simpa[fU,truth]using q
 .have e3:r[p]?=some r[p]:=dw hp
  simp[ga,e3]at h;simpa[bQ,lenOf,aB]using h
theorem agD (h:Q ((Kg r).map D.int) μ):
  iW (fun d k=>bindC 1 false d [some (.lst (r.map aK))] k) (fun ρ' μ' Q'=>Q' true μ') (fun ρ' μ' Q'=>wE (.call "greater_ahead" kI (.cons (.var 1) (.cons (.var 0) .nil))) ρ' μ' Q') (fun _=>True) (fj 0 r.length) [] μ Q:=by
 rw[CV];refine dI _ (fun p=>D.int (ga r p)) trivial _ _ ?_ ?_
 .intro p hp Y N q
  simp[bindC,wE,wEs];exact⟨r,p,rfl,by simpa using hp,by simpa using q⟩
 .simpa[Kg,Dw]using h
theorem agB (r:List Itm):lX ((Kg r).map D.int)=some (Kg r):=by simpa using Ni (fun i:Int=>i) (Kg r)
theorem amW:Keeps ajv ajz ac4:=by
 rintro ds μ Q ⟨r,rfl,hl,h⟩;simp[ajz,ajv,aC,bH,wSs,wS,wE,wEs,wI,wTs,newL,bQ,lenOf,aB,Cq,m7];refine⟨by simp only[lim];lia,agD ?_⟩;simp[amu,Mj,cC,aB,agB];cases e:Kg r with
 |nil=>rw[e]at h;exact h|cons i is=>rw[e]at h;exact h
theorem QV (x:Itm) (l:List Itm):∀ n,posR x l n<=n
 |0=>aA 0|n+1=>by
  unfold posR;split
  .split
   .exact yL (QV x l n)
   .exact aA _
  .exact aA _
theorem Ka (x:Itm) (l:List Itm):(su x l).length=l.length+1:=by have:=QV x l l.length;simp[su];lia
theorem af7:y∈su x l<->y=x∨y∈l:=by
 have:y∈l<->y∈l.take (posR x l l.length)∨y∈l.drop (posR x l l.length):=by rw[<-iY,Jw]
 simp[su,this];constructor
 .rintro(h|h|h)
  .exact .inr (.inl h)
  .exact .inl h
  .exact .inr (.inr h)
 .rintro(h|h|h)
  .exact .inr (.inl h)
  .exact .inl h
  .exact .inr (.inr h)
theorem SX (r:List Itm):∀ l:List Itm,(r.foldl (fun l x=>su x l) l).length=l.length+r.length/\∀ y,y∈r.foldl (fun l x=>su x l) l<->y∈l∨y∈r:=by
 induction r with
 |nil=>intro l;simp|cons x r ih=>
  intro l;obtain⟨h1,h2⟩:=ih (su x l);refine⟨by rw[qu,h1,Ka];simp;lia,fun y=>?_⟩;rw[qu,h2,af7];simp;constructor
  .rintro((h|h)|h)
   .exact .inr (.inl h)
   .exact .inl h
   .exact .inr (.inr h)
  .rintro(h|h|h)
   .exact .inl (.inr h)
   .exact .inl (.inl h)
   .exact .inr h
theorem aag (r:List Itm):(GX r).length=r.length:=by simpa[GX]using(SX r []).1
theorem aix:y∈GX r<->y∈r:=by simpa[GX]using(SX r []).2 y
theorem qJ:Keeps lq lA nJ:=by
 rintro ds μ Q ⟨r,rfl,hl,h⟩;simp[lA,lq,aC,bH,wSs,wS,wE,wEs,wI,newL,mz,lim];refine cV (fun ds ρ μ'=>∃ (l r2:List Itm) (u v:Option D),ds=r2.map aK/\μ'=μ++[.lst (l.map aK)]/\l.length+r2.length<1000/\r2.foldl (fun l x=>su x l) l=GX r/\ρ=[some (.lst (r.map aK)),some (.loc μ.length),u,v]) ?_ ?_ _ _ _ ⟨[],r,none,none,rfl,rfl,by simpa using hl,rfl,rfl⟩
 .rintro d ds ρ μ' N hN ⟨l,r2,u,v,e,rfl,h1,h2,rfl⟩
  cases r2 with
  |nil=>simp at e|cons x r2=>
   simp at e;obtain⟨rfl,rfl⟩:=e;refine⟨trivial,?_⟩;simp[fB,bQ,lenOf,aB];refine⟨fun m ρ μ'=>m<=l.length/\posR x l m=posR x l l.length/\μ'=μ++[.lst (l.map aK)]/\ρ=[some (.lst (r.map aK)),some (.loc μ.length),some (aK x),some (.int m)],⟨l.length,by simp⟩,?_⟩;rintro m ρ μ' ⟨hm,hq,rfl,rfl⟩;simp[wT,wE,wEs,cP,fV,jC];cases m with
   |zero=>
    simp[isCell,dB,bU,lim];refine⟨by simp at h1;lia,?_⟩;refine hN _ _ ⟨su x l,r2,_,_,rfl,?_,?_,?_,rfl⟩
    .simp[su,<-hq,posR]
    .rw[Ka];simp at h1;lia
    .simpa using h2
   |succ m=>
    (have hml:m<l.length:=by lia);(have e1:((m+1:Nat):Int) -1=(m:Int):=by lia);(have e2:(l.map aK)[m]?=some (aK l[m]):=by simp[hml]);(have e3:0<((m+1:Nat):Int):=by lia);simp only[e3,e1];simp[dM,aB,gG hml,e2,hml];have e4:posR x l (m+1)=if gM x l[m]=true then posR x l m else m+1:=by simp[posR,hml]
    refine⟨x,l[m],rfl,?_⟩;simp[fU,truth];by_cases hx:gM x l[m]=true
    .simp[hx]
     refine⟨m,by lia,by lia,?_,?_⟩
     .rw[<-hq,e4,if_pos hx]
     .simp
    .simp[hx,isCell,dB,bU,lim]
     rw[if_neg hx]at e4;refine⟨by lia,by lia,by simp at h1;lia,?_⟩;refine hN _ _ ⟨su x l,r2,_,_,rfl,?_,?_,?_,rfl⟩
     .have:((m:Int)+1).toNat=m+1:=by lia
      simp[su,<-hq,e4,this,Jf,Pq]
     .rw[Ka];simp at h1;lia
     .simpa using h2
 .rintro ρ μ' ⟨l,r2,u,v,e,rfl,h1,h2,rfl⟩
  cases r2 with
  |cons x r2=>simp at e|nil=>refine⟨trivial,?_⟩;simp at h2;subst h2;simpa[R8]using h
theorem alR (r:List Itm):∀ i∈Kg r,0<=i:=by intro i hi;simp[Kg]at hi;obtain⟨p,_,rfl⟩:=hi;lia
end DW
namespace DW
theorem abU (x:Itm) (l:List Itm):(su x l).Perm (x::l):=by unfold su;refine(X4).trans ?_;rw[Jw]
theorem Le (r:List Itm):∀ l:List Itm,(r.foldl (fun l x=>su x l) l).Perm (l++r):=by
 induction r with
 |nil=>intro l;simp|cons x r ih=>intro l;rw[qu];refine(ih _).trans (((abU x l).append_right r).trans ?_);exact X4.symm
theorem SQ (r:List Itm):(GX r).Perm r:=by simpa[GX]using Le r []
theorem MK (x:Itm) (l:List Itm):∀ n,n<=l.length->(∀ i (h:i<l.length),posR x l n<=i->i<n->gM x l[i]=true)/\(∀ i (h:i<l.length),i+1=posR x l n->gM x l[i]=false)
 |0,_=>⟨fun i h h1 h2=>by lia,fun i h h1=>by simp[posR]at h1⟩|n+1,hn=>by
  have hl:n<l.length:=by lia
  have e:l[n]?=some l[n]:=dw hl;unfold posR;rw[e];simp only;by_cases c:gM x l[n]=true
  .rw[if_pos c]
   obtain⟨h1,h2⟩:=MK x l n (by lia);refine⟨fun i h a b=>?_,h2⟩;by_cases z:i=n
   .subst z;exact c
   .exact h1 i h a (by lia)
  .rw[if_neg c]
   refine⟨fun i h a b=>by lia,fun i h a=>?_⟩;(have:i=n:=by lia);subst this;simpa using c
theorem Uu (x:Itm) (l:List Itm) (h:j5 l):j5 (su x l):=by
 obtain⟨h1,h2⟩:=MK x l l.length (aA _);have hp:=QV x l l.length;unfold su;generalize posR x l l.length=t at h1 h2 hp;have hl:=YJ.mp h;have lo:∀ y∈l.take t,gM x y=false:=by
  intro y hy;obtain⟨i,hi,rfl⟩:=DN.mp hy;have hi2:i<t/\i<l.length:=by simp at hi;lia
  rw[List.getElem_take];have hz:=h2 (t -1) (by lia) (by lia);by_cases q:i=t -1
  .subst q;exact hz
  .exact jz _ _ _ (hl i (t -1) hi2.2 (by lia) (by lia)) hz
 have hi:∀ y∈l.drop t,gM y x=false:=by
  intro y hy;obtain⟨i,hi,rfl⟩:=DN.mp hy;rw[List.getElem_drop];have:t+i<l.length:=by simp at hi;lia
  exact qI _ _ (h1 (t+i) this (by lia) this)
 have parts:=h;rw[<-Jw t l]at parts;obtain⟨p1,p2,p3⟩:=Ju.mp parts;refine Ju.mpr ⟨p1,yM.mpr ⟨fun y hy=>hi y hy,p2⟩,fun a ha b hb=>?_⟩;simp at hb;rcases hb with rfl|hb
 .exact lo a ha
 .exact p3 a ha b hb
theorem H6 (r:List Itm):j5 (GX r):=by
 have:∀ (r l:List Itm),j5 l->j5 (r.foldl (fun l x=>su x l) l):=by
  intro r;induction r with
  |nil=>intro l h;exact h|cons x r ih=>intro l h;exact ih _ (Uu x l h)
 exact this r [] .nil
theorem akp (p:a.Perm r) (h:j5 a):a=GX r:=Fp (p.trans (SQ r).symm) h (H6 r)
def cnt (A:List Itm) (x:Itm):Nat:=(A.filter (gM x)).length
def gf:List Itm->List Itm->List Int
 |_,[]=>[]|A,x::l=>(cnt A x:Int)::gf (A++[x]) l
theorem ajC:∀ (l A:List Itm),gf A l=(aU l.length).map fun p=>(ga (A++l) (A.length+p):Int)
 |[],A=>rfl|x::l,A=>by
  have h:=ajC l (A++[x]);rw[gf,h,bh,List.range_succ_eq_map,aX,jN];congr 1
  .simp[ga,cnt]
  .refine Jt fun p _=>?_
   simp[Nat.add_assoc,Nat.add_comm 1 p]
theorem agC (r:List Itm):Kg r=gf [] r:=by rw[ajC];simp[Kg]
def La (l:List Int):Int:=l.foldr max 0
theorem Eb:∀ l:List Int,0<=La l
 |[]=>O6 _|i::l=>by have:=Eb l;show 0<=max i (La l);lia
theorem yS:∀ a b:List Int,La (a++b)=max (La a) (La b)
 |[],b=>by have:=Eb b;show La b=max 0 (La b);lia|i::a,b=>by show max i (La (a++b))=max (max i (La a)) (La b);rw[yS a b];lia
theorem U5:∀ (l:List Int) (i:Int),0<=i->l.foldl max i=max i (La l)
 |[],i,h=>by show i=max i 0;lia|j::l,i,h=>by rw[qu,U5 l (max i j) (by lia)];show max (max i j) (La l)=max i (max j (La l));lia
theorem amN (l:List Int) (h:∀ i∈l,0<=i):mx l=La l:=by
 cases l with
 |nil=>rfl|cons i l=>exact U5 l i (h i (by simp))
theorem Q0 (r:List Itm):mx (Kg r)=La (gf [] r):=by rw[amN _ (alR r),agC]
theorem ag5 (p:A.Perm B) (x:Itm):cnt A x=cnt B x:=(p.filter _).length_eq
theorem Vo (A:List Itm) (x y:Itm):cnt (A++[x]) y=cnt A y+if gM y x=true then 1 else 0:=by
 unfold cnt;rw[List.filter_append,eO];by_cases h:gM y x=true
 .simp[h]
 .simp[h]
theorem aaQ:∀ (l:List Itm) {A B:List Itm},A.Perm B->gf A l=gf B l
 |[],A,B,_=>rfl|x::l,A,B,p=>by rw[gf,gf,ag5 p,aaQ l (p.append_right [x])]
theorem En:∀ (B A C:List Itm),gf A (B++C)=gf A B++gf (A++B) C
 |[],A,C=>by simp[gf]|x::B,A,C=>by simp[gf,En B (A++[x]) C]
theorem ag6 (h:gM x y=true):∀ A:List Itm,cnt A y<=cnt A x
 |[]=>aA _|z::A=>by
  have ih:=ag6 h A;unfold cnt at ih ⊢;by_cases q:gM y z=true
  .have q2:gM x z=true:=by
    cases q3:gM x z with
    |true=>rfl|false=>have:=jz z x y q3 (qI _ _ h);rw[q]at this;cases this
   rw[Jx q,Jx q2,bh,bh];lia
  .rw[QC q]
   by_cases q2:gM x z=true
   .rw[Jx q2,bh];lia
   .rw[QC q2];exact ih
theorem exchanged (A B:List Itm) (x y:Itm) (h:gM x y=true):
  (Kg (A++y::x::B)).sum=(Kg (A++x::y::B)).sum+1/\mx (Kg (A++x::y::B))<=mx (Kg (A++y::x::B))/\mx (Kg (A++y::x::B)) -1<=mx (Kg (A++x::y::B))/\1<=mx (Kg (A++y::x::B))/\1<=(Kg (A++y::x::B)).sum:=by
 have e:gf (A++[y]++[x]) B=gf (A++[x]++[y]) B:=aaQ B (by simp only[qy];exact List.Perm.append_left A (List.Perm.swap x y []))
 have c1:cnt (A++[y]) x=cnt A x+1:=by rw[Vo,if_pos h]
 have c2:cnt (A++[x]) y=cnt A y:=by rw[Vo,if_neg (by rw[qI _ _ h];simp)];rfl
 have c3:=ag6 h A;have nn:∀ l A,(0:Int)<=(gf A l).sum:=by
  intro l;induction l with
  |nil=>intro A;exact O6 _|cons z l ih=>intro A;have:=ih (A++[z]);rw[gf,yu];lia
 have n1:=nn A [];have n2:=nn B (A++[x]++[y]);rw[Q0,Q0];simp only[agC,En,gf,aO,c1,c2,e,List.sum_append,yu,yS];have m1:=Eb (gf [] A);have m2:=Eb (gf (A++[x]++[y]) B);simp only[La,adU]at m1 m2 ⊢;lia
def Adj (r:List Itm):Prop:=∀ i (h:i+1<r.length),gM (r[i+1]'h) (r[i]'(by lia))=false
theorem Wq (h:j5 r):Adj r:=fun i hi=>(YJ.mp h) i (i+1) (by lia) hi (by lia)
open PySem
def wV:dz:=fun ds μ Q=>∃ r:List Itm,ds=[.lst (r.map aK)]/\r.length<64/\Q (.loc μ.length) (μ++[.lst ((GX r).map aK)])
def Ay:List Str:=["row"]
def Bm:Ss:=(.cons (.ret (.blt "msorted" (.cons (.var 0) .nil))) .nil)
theorem Rb:Keeps Ay Bm wV:=by rintro ds μ Q ⟨r,rfl,hl,h⟩;simp[Bm,Ay,aC,bH,wSs,wS,wE,wEs,bQ,cC,aB];refine⟨r,rfl,hl,fun r' p o=>?_⟩;rw[akp p o];simpa[newL]using h
end DW
namespace DW.VD
open PySem DW
end DW.VD
namespace DW
open PySem DW.VD
mutual
noncomputable def good (μ:Mem):D->Bool
 | .str x=>x.all (·<1114112)| .tup ds=>agx μ ds| .lst ds=>agx μ ds| .jZ _ _=>false| .loc n=>agV μ n| .ro _=>false|_=>true
noncomputable def agx (μ:Mem):List D->Bool
 |[]=>true|d::ds=>good μ d&&agx μ ds
end
def letter (c:Nat):Bool:=decide (97<=c)&&decide (c<=122)
theorem ab1 (h:cA x):flat 60 (aK x)=true:=by
 have:∀ t∈tags,t.all (·<1114112)=true:=by decide
 have:=this _ h.2;simp[aK,flat,flats];simpa using this
end DW
namespace DW
open PySem
def zp:D->Bool
 | .str t=>decide (t.length<=8)&&t.all letter|_=>false
def dF:dz:=fun ds μ Q=>match ds with|[.int _]=>Q (.bl true) μ|[.loc n]=>agV μ n=true/\Q (.bl false) μ|[.ro _]=>False|[_]=>Q (.bl false) μ|_=>False
def Cw:dz:=fun ds μ Q=>∃ d,ds=[d]/\good μ d=true/\Q (.bl (zp d)) μ
def Y7:List Str:=["thing"]
def Zi:Ss:=(.cons (.ret (.and (.isin (.var 0) "int") (.not (.isin (.var 0) "bool")))) .nil)
def TG:List Str:=["thing"]
def Uw:Ss:=(.cons (.ite (.or (.not (.isin (.var 0) "str")) (.cmp .Gt (.blt "len" (.cons (.var 0) .nil)) (.gbl "MOST_LETTERS" (.int 8)))) (.cons (.ret (.cst (.bl false))) .nil) .nil) (.cons (.ret (.blt "all" (.cons (.comp false 1 false [] (.chain .LtE .LtE (.cst (.str [97])) (.var 0) (.cst (.str [122]))) (.seq (.var 0)) .nil) .nil))) .nil))
theorem Ze:Keeps Y7 Zi dF:=by have e:dF=Cy:=rfl;rw[e];exact agk
theorem agi:Keeps TG Uw Cw:=by
 rintro ds μ Q ⟨d,rfl,hg,h⟩;simp only[Uw,TG,aC,bH,wSs,wS,wT,wE,wEs,wI,wTs,aX,aW,bh,aN,bB,aO,aJ];cases d with
 |str t=>
  have ht:t.all (·<1114112)=true:=by simpa[good]using hg
  simp only[tM,tyOf,Ls,fV,bQ,lenOf,cP,zp]at h ⊢;simp;by_cases h8:t.length<=8
  .have h8':¬(8<t.length):=by lia
   (have alQ:¬(8:Int)<t.length:=by lia);rw[decide_eq_true h8,mR]at h;simp[h8',alQ];simp only[mz,chars];refine dI _ (fun c=>D.bl (letter c)) trivial _ _ ?_ ?_
   .intro c _ Y N q
    have e1:(!dO [c] [97])=decide (97<=c):=by
     have z:dO [c] [97]=decide (c<97):=by
      simp only[dO];by_cases e:c=97
      .subst e;decide
      .rw[if_neg e]
     rw[z];by_cases q:c<97
     .have:¬97<=c:=by lia
      simp[q]
     .have:97<=c:=by lia
      simp[q,this]
    have e2:(!dO [122] [c])=decide (c<=122):=by
     have z:dO [122] [c]=decide (122<c):=by
      simp only[dO];by_cases e:122=c
      .subst e;decide
      .rw[if_neg e]
     rw[z];by_cases q:122<c
     .have:¬c<=122:=by lia
      simp[q]
     .have:c<=122:=by lia
      simp[q,this]
    simp only[bindC,if_true,aJ,e1,e2];(have e3:dO [c] [97]= !decide (97<=c):=by rw[<-e1];simp);rw[e3];by_cases q1:97<=c
    .simp[q1]
     simpa[letter,q1]using q
    .simp[q1]
     simpa[letter,q1]using q
   .have ea:∀ l:List Nat,allB (l.map fun c=>D.bl (letter c))=some (l.all letter):=by
     intro l;induction l with
     |nil=>rfl|cons c l ih=>simp[allB,ih]
    simp[newL,cC,aB,ea];exact h
  .have h8':8<t.length:=by lia
   (have alQ:(8:Int)<t.length:=by lia);rw[decide_eq_false h8]at h;simpa[h8',alQ]using h
 |loc n=>simp only[good]at hg;simpa[tM,agT hg,Ls,fV,zp]using h|ro n=>simp[good]at hg|jZ n m=>simp[good]at hg|_=>simpa[tM,tyOf,Ls,fV,zp]using h
open DW.VD
structure LL (μ:Mem) (b n:Nat) (ls:List Nat) (rs:List (List Itm)):Prop where
 lo:b<=n
 at_:μ[n]?=some (.lst (ls.map D.loc))
 len:ls.length=rs.length
 sub:∀ l∈ls,b<=l/\l≠n
 row:∀ (i l:Nat) (r:List Itm),ls[i]?=some l->rs[i]?=some r->μ[l]?=some (.lst (r.map aK))
theorem LL.app (h:LL μ b n ls rs) (ν:Mem):LL (μ++ν) b n ls rs:=
 ⟨h.lo,by rw[dU (bT.mp h.at_).1];exact h.at_,h.len,h.sub,fun i l r h1 h2=>by have:=h.row i l r h1 h2;rw[dU (bT.mp this).1];exact this⟩
def lM (rs:List (List Itm)):List D:=rs.map fun r=>.lst (r.map aK)
theorem T4 {α β:Type} {l:List α} {m:List β} {p:α×β} (h:p∈l.zip m):∃ i:Nat,l[i]?=some p.1/\m[i]?=some p.2:=by
 obtain⟨i,hi,rfl⟩:=DN.mp h;refine⟨i,?_⟩;have h1:i<l.length/\i<m.length:=by simp at hi;lia
 simp[h1.1,h1.2]
def gJ (st:List (List Itm)) (x:Itm):List (List Itm):=match st.getLast? with|none=>st++[[x]]|some l=>match l.getLast? with|none=>st++[[x]]|some y=>if gM x y=true then st++[[x]]else st.dropLast++[l++[x]]
def bG (r:List Itm):List (List Itm):=r.foldl gJ []
theorem RK (st:List (List Itm)) (x:Itm):∃ a l,gJ st x=a++[l++[x]]:=by
 unfold gJ;split
 .exact⟨st,[],by simp⟩
 .rename_i l hl
  split
  .exact⟨st,[],by simp⟩
  .split
   .exact⟨st,[],by simp⟩
   .exact⟨st.dropLast,l,rfl⟩
theorem zF (a:List (List Itm)) (l:List Itm) (y x:Itm):gJ (a++[l++[y]]) x=if gM x y=true then a++[l++[y]]++[[x]]else a++[l++[y]++[x]]:=by simp[gJ]
theorem Vj (st:List (List Itm)) (x:Itm):(gJ st x).length<=st.length+1/\(gJ st x).flatten=st.flatten++[x]:=by
 unfold gJ;split
 .simp
 .rename_i l hl
  split
  .simp
  .split
   .simp
   .obtain⟨a,rfl⟩:=List.getLast?_eq_some_iff.mp hl
    simp
theorem lU (r:List Itm) (x:Itm):bG (r++[x])=gJ (bG r) x:=by simp[bG]
theorem snoc_ind {α:Type} {P:List α->Prop} (h0:P []) (h1:∀ l x,P l->P (l++[x])) (l:List α):P l:=by
 have:∀ l:List α,P l.reverse:=by
  intro l;induction l with
  |nil=>exact h0|cons x l ih=>rw[Jr];exact h1 _ _ ih
 have:=this l.reverse;rwa[List.reverse_reverse]at this
theorem ju (r:List Itm):(bG r).length<=r.length/\(bG r).flatten=r:=by refine snoc_ind (P:=fun r=>(bG r).length<=r.length/\(bG r).flatten=r) (by simp[bG]) (fun r x ih=>?_) r;rw[lU];obtain⟨h1,h2⟩:=Vj (bG r) x;refine⟨by simp;lia,by rw[h2,ih.2]⟩
theorem uP (r:List Itm) (y:Itm):∃ a l,bG (r++[y])=a++[l++[y]]:=by rw[lU];exact RK _ _
theorem yU (h:l∈bG r):∀ x∈l,x∈r:=fun x hx=>by rw[<-(ju r).2];exact List.mem_flatten.mpr ⟨l,h,hx⟩
theorem Rj (xs:List α) (x:α):(oV (xs++[x]).length (-1)).bind ((xs++[x])[·]?)=some x:=by
 have e:oV (xs++[x]).length (-1)=some xs.length:=by
  have h1:¬(0:Int)<=-1:=by decide
  have h2: -(((xs++[x]).length:Nat):Int)<=-1:=by simp;lia
  have h3:((-1:Int)+((xs++[x]).length:Int)).toNat=xs.length:=by simp;lia
  simp only[oV,h1,h2,if_true,if_false,h3]
 rw[e];simp
end DW
namespace DW
open PySem
theorem acW (μ:Mem) (n:Nat) (ds:List D):eY μ (n+1) (.tup ds)= .tup (ds.map (eY μ n)):=rfl
theorem HN (μ:Mem) (n:Nat) (ds:List D):eY μ (n+1) (.lst ds)= .lst (ds.map (eY μ n)):=rfl
theorem HS (h:μ[k]?=some (.lst ds)) (n:Nat):eY μ (n+1) (.loc k)= .lst (ds.map (eY μ n)):=by show(match μ[k]? with|some (.lst ds)=>D.lst (ds.map (eY μ n))|_=>.loc k)=_;rw[h]
theorem acY (μ:Mem) (n:Nat) (i:Int):eY μ n (.int i)= .int i:=by cases n<;>rfl
theorem acX (μ:Mem) (n:Nat) (x:List Nat):eY μ n (.str x)= .str x:=by cases n<;>rfl
theorem aac (μ:Mem) (n:Nat) (x:Itm):eY μ n (aK x)=aK x:=by
 cases n with
 |zero=>rfl|succ n=>simp[aK,acW,acY,acX]
theorem SJ (μ:Mem) (n:Nat) (f:α->D) (h:∀ x,eY μ n (f x)=f x) (l:List α):(l.map f).map (eY μ n)=l.map f:=by rw[jN];exact Jt fun x _=>h x
theorem acC (h1:flat 60 x=true) (h2:flat 60 y=true) (h:Q (.bl (!mq x y)) μ):cP .NotEq x y μ Q:=by
 unfold cP;cases x with
 |loc n=>simp[flat]at h1|_=>exact⟨h1,h2,h⟩
end DW
namespace DW.K25
open PySem DW DW.VD
def aY (q:Nat):D:=.int (q:Int)
def dZ:dz:=fun ds μ Q=>match ds with|[.int i,.int n]=>Q (.bl (decide (0<=i/\i<n))) μ|_=>False
def eG:dz:=fun ds μ Q=>∃ m:Int,ds=[.int m]/\1<=m/\m<=50/\Q .non μ
def oF:List Str:=["thing","many"]
def oK:Ss:=(.cons (.ret (.and (.call "is_whole" dF (.cons (.var 0) .nil)) (.chain .LtE .Lt (.cst (.int 0)) (.var 0) (.var 1)))) .nil)
def jQ:List Str:=["thing"]
def jW:Ss:=(.cons (.ite (.or (.not (.call "is_whole" dF (.cons (.var 0) .nil))) (.not (.chain .LtE .LtE (.cst (.int 1)) (.var 0) (.gbl "MOST_ROOM" (.int 50))))) (.cons .Y4 .nil) .nil) .nil)
theorem JZ:Keeps oF oK dZ:=by
 intro ds μ Q h;unfold dZ at h;split at h
 .rename_i i n
  simp[oK,oF,aC,bH,wSs,wS,wE,wEs,dF,fV,cP,M8];by_cases h0:0<=i
  .simpa[h0]using h
  .simpa[h0]using h
 .exact h.elim
theorem rZ:Keeps jQ jW eG:=by rintro ds μ Q ⟨m,rfl,h1,h2,h⟩;simpa[jW,jQ,aC,bH,wSs,wS,wT,wE,wEs,dF,fV,cP,fU,truth,h1,h2]using h
end DW.K25
namespace DW.CHO
open PySem DW DW.VD DW.K25
noncomputable abbrev Tk:=Option Itm
def xV:Tk->D
 |none=>.tup [.str [101,110,100]]|some x=>.tup [.str [111,117,116],aK x]
def FW:Option Itm->D
 |none=>.non|some x=>aK x
structure Ch where
 room:Nat
 kept:List Itm
 last:Option Itm
def FT (last:Option Itm) (x:Itm):Bool:=match last with|none=>true|some l=>!gM x l
def Ed (a:Itm) (l:List Itm):Itm:=l.foldl (fun a x=>if gM x a=true then x else a) a
def bK (l:List Itm):Itm:=match l with|[]=>(0,[])|a::r=>Ed a (a::r)
def able (c:Ch):List Itm:=c.kept.filter (FT c.last)
def src (c:Ch):List Itm:=if able c=[]then c.kept else able c
def outF (c:Ch):List Tk×Ch:=((if able c=[]then [none]else [])++[some (bK (src c))],⟨c.room,c.kept.erase (bK (src c)),some (bK (src c))⟩)
def gH (c:Ch) (x:Itm):List Tk×Ch:=if c.kept.length=c.room then((outF c).1,⟨c.room,(outF c).2.kept++[x],(outF c).2.last⟩)else([],⟨c.room,c.kept++[x],c.last⟩)
def jY:Nat->Ch->List Tk×Ch
 |0,c=>([],c)|n+1,c=>if c.kept=[]then([],c)else((outF c).1++(jY n (outF c).2).1,(jY n (outF c).2).2)
def wK (c:Ch):List Tk×Ch:=(if(jY c.kept.length c).1=[]then []else(jY c.kept.length c).1++[none],⟨c.room,[],none⟩)
theorem pG:∀ (l:List Itm) (a:Itm),(Ed a l=a∨Ed a l∈l)/\gM a (Ed a l)=false/\∀ z∈l,gM z (Ed a l)=false
 |[],a=>⟨.inl rfl,Bg a,by simp⟩|x::l,a=>by
  unfold Ed;rw[qu];by_cases c:gM x a=true
  .rw[if_pos c]
   obtain⟨h1,h2,h3⟩:=pG l x;refine⟨.inr ?_,?_,?_⟩
   .rcases h1 with h1|h1
    .exact bC.mpr (.inl h1)
    .exact bC.mpr (.inr h1)
   .exact jz _ _ _ h2 (qI _ _ c)
   .intro z hz
    rcases bC.mp hz with rfl|hz
    .exact h2
    .exact h3 z hz
  .rw[if_neg c]
   obtain⟨h1,h2,h3⟩:=pG l a;refine⟨?_,h2,?_⟩
   .rcases h1 with h1|h1
    .exact .inl h1
    .exact .inr (bC.mpr (.inr h1))
   .intro z hz
    rcases bC.mp hz with rfl|hz
    .exact jz _ _ _ h2 (by simpa using c)
    .exact h3 z hz
theorem Ng (h:l≠[]):bK l∈l:=by
 cases l with
 |nil=>exact absurd rfl h|cons a r=>
  rcases(pG (a::r) a).1 with q|q
  .exact bC.mpr (.inl q)
  .exact q
theorem least_le (h:l≠[]):∀ z∈l,gM z (bK l)=false:=by
 cases l with
 |nil=>exact absurd rfl h|cons a r=>exact(pG (a::r) a).2.2
theorem Ua (hy:y∈l) (h:∀ z∈l,gM z y=false):y=bK l:=by
 have hne:l≠[]:=fun e=>by subst e;simp at hy
 exact aaB _ _ (least_le hne y hy) (h _ (Ng hne))
theorem Og (h:c.kept≠[]):src c≠[]:=by
 unfold src;split
 .exact h
 .assumption
theorem ahN:∀ x∈src c,x∈c.kept:=by
 unfold src;split
 .exact fun x hx=>hx
 .exact fun x hx=>(uJ.mp hx).1
theorem Av (h:c.kept≠[]):bK (src c)∈c.kept:=ahN _ (Ng (Og h))
theorem lC (h:c.kept≠[]):(outF c).2.kept.length+1=c.kept.length:=by have:=List.length_erase_of_mem (Av h);have:=Yn.mpr h;simp only[outF];lia
def Wf (c:Ch):Prop:=1<=c.room/\c.room<=50/\c.kept.length<=c.room/\(c.kept=[]->c.last=none)/\(∀ x∈c.kept,cA x)/\∀ x,c.last=some x->cA x
def lV (μ:Mem) (n:Nat) (c:Ch):Prop:=μ[n]?=some (.ins "Chooser" [("room",.int (c.room:Int)),("kept",.loc (n+1)),("last",FW c.last)])/\μ[n+1]?=some (.lst (c.kept.map aK))
def Fr (μ μ':Mem) (n:Nat):Prop:=μ.length<=μ'.length/\∀ i,i<μ.length->i≠n->i≠n+1->μ'[i]?=μ[i]?
theorem Fr.refl (μ:Mem) (n:Nat):Fr μ μ n:=⟨aA _,fun _ _ _ _=>rfl⟩
theorem Fr.trans (a:Fr μ μ' n) (b:Fr μ' NK n):Fr μ NK n:=⟨gD a.1 b.1,fun i h1 h2 h3=>by rw[b.2 i (f9 h1 a.1) h2 h3,a.2 i h1 h2 h3]⟩
theorem Fr.push (a:Fr μ μ' n) (c:Cell):Fr μ (μ' ++[c]) n:=⟨by have:=a.1;simp;lia,fun i h1 h2 h3=>by rw[dU (f9 h1 a.1)];exact a.2 i h1 h2 h3⟩
theorem Fr.set (a:Fr μ μ' n) (c:Cell) (h:μ.length<=t∨t=n∨t=n+1):Fr μ (μ'.set t c) n:=⟨by have:=a.1;simp;lia,fun i h1 h2 h3=>by rw[cU (by lia)];exact a.2 i h1 h2 h3⟩
theorem lV.push (h:lV μ n c) (x:Cell):lV (μ++[x]) n c:=by obtain⟨h1,h2⟩:=h;exact⟨by rw[dU (bT.mp h1).1];exact h1,by rw[dU (bT.mp h2).1];exact h2⟩
theorem lV.other (h:lV μ n c) (x:Cell) (h1:t≠n) (h2:t≠n+1):lV (μ.set t x) n c:=⟨by rw[cU h1];exact h.1,by rw[cU h2];exact h.2⟩
theorem qQ (h:lV μ n c) (q:Q (.loc (n+1)) μ):iI "Chooser" "kept" (.loc n) μ Q:=by simpa[iI,dG,h.1,bF]using q
theorem agI (h:lV μ n c) (q:Q (.int (c.room:Int)) μ):iI "Chooser" "room" (.loc n) μ Q:=by simpa[iI,dG,h.1,bF]using q
theorem Bx (h:lV μ n c) (q:Q (FW c.last) μ):iI "Chooser" "last" (.loc n) μ Q:=by simpa[iI,dG,h.1,bF]using q
theorem Tg (h:lV μ n c) (q:∀ μ',μ'=μ.set n (.ins "Chooser" [("room",.int (c.room:Int)),("kept",.loc (n+1)),("last",FW l)])->lV μ' n ⟨c.room,c.kept,l⟩->k μ'):lJ "Chooser" "last" (.loc n) (FW l) μ k:=by have hl:=(bT.mp h.1).1;have:=q _ rfl ⟨by rw[eU hl],by rw[cU (by lia)];exact h.2⟩;simpa[lJ,dG,h.1,putD]using this
theorem u6 (h:lV μ n c) (h1:m≠"room") (h2:m≠"kept") (h3:m≠"last"):iz μ "Chooser" m (.loc n):=by simp[iz,dG,h.1,bF,bL h1,bL h2,bL h3]
def sZ:dz:=fun ds μ Q=>∃ (μ0:Mem) (m:Nat),ds=[.loc μ0.length,.int (m:Int)]/\μ=μ0++[.ins "Chooser" []]/\1<=m/\m<=50/\Q .non (μ0++[.ins "Chooser" [("room",.int (m:Int)),("kept",.loc (μ0.length+1)),("last",.non)],.lst []])
def o7:dz:=fun ds μ Q=>∃ (n:Nat) (x:Itm) (c:Ch),ds=[.loc n,aK x]/\lV μ n c/\Q (.bl (FT c.last x)) μ
def jm:dz:=fun ds μ Q=>∃ (n:Nat) (c:Ch),ds=[.loc n]/\lV μ n c/\c.kept≠[]/\c.kept.length<=50/\∀ μ' t,Fr μ μ' n->lV μ' n (outF c).2->μ.length<=t->μ'[t]?=some (.lst ((outF c).1.map xV))->Q (.loc t) μ'
def s8:dz:=fun ds μ Q=>∃ (n:Nat) (x:Itm) (c:Ch),ds=[.loc n,aK x]/\lV μ n c/\Wf c/\∀ μ' t,Fr μ μ' n->lV μ' n (gH c x).2->μ.length<=t->μ'[t]?=some (.lst ((gH c x).1.map xV))->Q (.loc t) μ'
def o8:dz:=fun ds μ Q=>∃ (n:Nat) (c:Ch),ds=[.loc n]/\lV μ n c/\Wf c/\∀ μ' t,Fr μ μ' n->lV μ' n (wK c).2->μ.length<=t->μ'[t]?=some (.lst ((wK c).1.map xV))->Q (.loc t) μ'
def uY:List Str:=["self","room"]
def vq:Ss:=(.cons (.exp (.call "check_room" eG (.cons (.var 1) .nil))) (.cons (.qt "Chooser" "room" (.var 0) (.var 1)) (.cons (.qt "Chooser" "kept" (.var 0) (.lst true .nil)) (.cons (.qt "Chooser" "last" (.var 0) (.cst .non)) .nil))))
def uZ:List Str:=["self","item","told"]
def vA:Ss:=(.cons (.set 2 (.lst true .nil)) (.cons (.ite (.cmp .Eq (.blt "len" (.cons (.fld "Chooser" "kept" (.var 0)) .nil)) (.fld "Chooser" "room" (.var 0))) (.cons (.set 2 (.rW "Chooser" "let_out" jm (.var 0) .nil)) .nil) .nil) (.cons (.exp (.meth "append" (.fld "Chooser" "kept" (.var 0)) (.cons (.var 1) .nil))) (.cons (.ret (.var 2)) .nil))))
def qG:List Str:=["self","told"]
def qO:Ss:=(.cons (.set 1 (.lst true .nil)) (.cons (.whl (.fld "Chooser" "kept" (.var 0)) (.cons (.exp (.meth "extend" (.var 1) (.cons (.rW "Chooser" "let_out" jm (.var 0) .nil) .nil))) .nil)) (.cons (.ite (.var 1) (.cons (.exp (.meth "append" (.var 1) (.cons (.tup (.cons (.cst (.str [101,110,100])) .nil)) .nil))) .nil) .nil) (.cons (.qt "Chooser" "last" (.var 0) (.cst .non)) (.cons (.ret (.var 1)) .nil)))))
def pF:List Str:=["self","told","able"]
def pK:Ss:=(.cons (.set 1 (.lst true .nil)) (.cons (.set 2 (.comp false 1 false [0] (.var 0) (.seq (.fld "Chooser" "kept" (.var 0))) (.cons (.rW "Chooser" "may_go" o7 (.var 1) (.cons (.var 0) .nil)) .nil))) (.cons (.ite (.not (.var 2)) (.cons (.exp (.meth "append" (.var 1) (.cons (.tup (.cons (.cst (.str [101,110,100])) .nil)) .nil))) (.cons (.set 2 (.fld "Chooser" "kept" (.var 0))) .nil)) .nil) (.cons (.qt "Chooser" "last" (.var 0) (.abW (.cons (.var 2) .nil))) (.cons (.exp (.rmv (.fld "Chooser" "kept" (.var 0)) (.cons (.fld "Chooser" "last" (.var 0)) .nil))) (.cons (.exp (.meth "append" (.var 1) (.cons (.tup (.cons (.cst (.str [111,117,116])) (.cons (.fld "Chooser" "last" (.var 0)) .nil))) .nil))) (.cons (.ret (.var 1)) .nil)))))))
def qF:List Str:=["self","item"]
def qN:Ss:=(.cons (.ret (.or (.cmp .Is (.fld "Chooser" "last" (.var 0)) (.cst .non)) (.not (.call "less" vN (.cons (.var 1) (.cons (.fld "Chooser" "last" (.var 0)) .nil)))))) .nil)
theorem J4:Keeps uY vq sZ:=by rintro ds μ Q ⟨μ0,m,rfl,rfl,h1,h2,h⟩;simp only[vq,uY,aC,bH,wSs,wS,wE,wEs,newL,lim,aX,aW,bh,aN,bB,aO,aJ,bA];refine⟨m,rfl,by lia,by lia,?_⟩;simp[lJ,dG,putD];simpa using h
theorem El:Keeps qF qN o7:=by
 rintro ds μ Q ⟨n,x,c,rfl,hc,h⟩;simp only[qN,qF,aC,bH,wSs,wS,wE,wEs,aX,aW,bh,aN,bB,aO,aJ,bA];refine Bx hc ?_;cases hl:c.last with
 |none=>rw[hl]at h;simpa[FW,cP,pI,fV,FT]using h|some l=>rw[hl]at h;simp[FW,cP,pI,aK,fV];refine Bx hc ?_;rw[hl];refine⟨x,l,rfl,?_⟩;simpa[FT]using h
theorem Fd (h:μ[t]?=some (.lst (l.map xV))) (hl:l.length<1000) (q:Q .non (μ.set t (.lst ((l++[x]).map xV)))):dB "append" (.loc t) [xV x] μ Q:=by simp only[dB,h,bU,aR];exact⟨by simp only[lim];lia,by simpa using q⟩
theorem Bj:Keeps pF pK jm:=by
 rintro ds μ Q ⟨n,c,rfl,hc,hne,hl,h⟩;have hn1:n+1<μ.length:=(bT.mp hc.2).1;simp only[pK,pF,aC,bH,wSs,wS,wE,wEs,wI,newL,lim,aX,aW,bh,aN,bB,aO,aJ,bA,bD,bZ,bY,uL];refine⟨by lia,?_⟩;have f1:Fr μ (μ++[Cell.lst []]) n:=(Fr.refl μ n).push _;have c1:=hc.push (Cell.lst []);have t1:(μ++[Cell.lst []])[μ.length]?=some (.lst (([]:List Tk).map xV)):=by simp
 generalize μ++[Cell.lst []]=μ1 at f1 c1 t1;refine qQ c1 ?_;simp only[mz,c1.2];refine gO aK (FT c.last) aK c1.2 _ _ ?_ ?_
 .intro x hx Y N z
  simp only[bindC,wTs,wT,wE,wEs,aJ,bA];refine⟨u6 c1 (by decide) (by decide) (by decide),n,x,c,rfl,c1,?_⟩;simpa[fU,truth]using z
 .have ea:c.kept.filter (FT c.last)=able c:=rfl
  rw[aO,ea];simp only[wT,fU,truth,lenOf,aB,gR,aR,aJ,bA];have fin:∀ (μ2:Mem) (tk:List Tk) (a:D),Fr μ μ2 n->lV μ2 n c->μ2[μ.length]?=some (.lst (tk.map xV))->tk.length<10->cC μ2 a=some ((src c).map aK)->tk++[some (bK (src c))]=(outF c).1->
    R7 [a] μ2 fun v μ1=>lJ "Chooser" "last" (.loc n) v μ1 fun μ3=>iI "Chooser" "kept" (.loc n) μ3 fun x μ1=>Uq μ1 x=true/\iI "Chooser" "last" (.loc n) μ1 fun d μ1=>acB x [d] μ1 fun d μ1=>isCell μ1 (.loc μ.length)=true/\iI "Chooser" "last" (.loc n) μ1 fun d μ1=>[D.str [111,117,116],d].length<=16777216/\dB "append" (.loc μ.length) [.tup [.str [111,117,116],d]] μ1 fun d μ1=>Q (.loc μ.length) μ1:=by
   intro μ2 tk a f2 c2 t2 tl ha et;simp only[R7,ha];refine⟨src c,rfl,Og hne,fun y hy hle=>?_⟩;have ey:=Ua hy hle;subst ey;refine Tg (l:=some (bK (src c))) c2 fun μ3 e3 c3=>?_;(have f3:Fr μ μ3 n:=by rw[e3];exact f2.set _ (.inr (.inl rfl)));(have t3:μ3[μ.length]?=some (.lst (tk.map xV)):=by rw[e3,cU (by lia)];exact t2);clear e3;refine qQ c3 ⟨by simp[Uq,c3.2],Bx c3 ?_⟩;simp only[acB,c3.2];refine⟨c.kept,bK (src c),rfl,rfl,Av hne,?_⟩;(have hn3:n+1<μ3.length:=by have:=f3.1;lia);have c4:lV (μ3.set (n+1) (Cell.lst ((c.kept.erase (bK (src c))).map aK))) n (outF c).2:=⟨by rw[cU (by lia)];exact c3.1,by rw[eU hn3];rfl⟩;have f4:Fr μ (μ3.set (n+1) (Cell.lst ((c.kept.erase (bK (src c))).map aK))) n:=f3.set _ (.inr (.inr rfl));(have t4:(μ3.set (n+1) (Cell.lst ((c.kept.erase (bK (src c))).map aK)))[μ.length]?=some (.lst (tk.map xV)):=by rw[cU (by lia)];exact t3);generalize μ3.set (n+1) (Cell.lst ((c.kept.erase (bK (src c))).map aK))=μ4 at c4 f4 t4;refine⟨by simp[isCell,t4],Bx c4 ⟨by simp,?_⟩⟩;refine Fd (x:=some (bK (src c))) t4 (by lia) ?_;have hm4:μ.length<μ4.length:=(bT.mp t4).1;refine h _ _ (f4.set _ (.inl (aA _))) (c4.other _ (by lia) (by lia)) (aA _) ?_;rw[eU hm4,et]
  by_cases ce:able c=[]
  .have e0:((able c).length !=0)=false:=by rw[ce];rfl
   simp only[e0,mU,if_true,wSs,wS,wE,wEs,aJ,bA,isCell,t1,true_and];refine⟨by decide,?_⟩;refine Fd (x:=none) t1 (by decide) ?_;have hm1:μ.length<μ1.length:=(bT.mp t1).1;have c2:=c1.other (t:=μ.length) (Cell.lst (([]++[none]:List Tk).map xV)) (by lia) (by lia);have f2:=f1.set (t:=μ.length) (Cell.lst (([]++[none]:List Tk).map xV)) (.inl (aA _));(have t2:(μ1.set μ.length (Cell.lst (([]++[none]:List Tk).map xV)))[μ.length]?=some (.lst (([none]:List Tk).map xV)):=by rw[eU hm1];rfl);generalize μ1.set μ.length (Cell.lst (([]++[none]:List Tk).map xV))=μ2 at c2 f2 t2;refine qQ c2 ?_;refine fin μ2 [none] (.loc (n+1)) f2 c2 t2 (by decide) (by simp[cC,aB,c2.2,src,ce]) (by simp[outF,ce])
  .have e0:((able c).length !=0)=true:=by
    cases q:able c with
    |nil=>exact absurd q ce|cons a r=>rfl
   simp only[e0,kY,cg,if_false,wSs,wS,wE,wEs,aJ,bA];refine fin μ1 [] (.lst ((able c).map aK)) f1 c1 t1 (by decide) (by simp[cC,aB,src,ce]) (by simp[outF,ce])
theorem J5:Keeps uZ vA s8:=by
 rintro ds μ Q ⟨n,x,c,rfl,hc,hw,h⟩;obtain⟨w1,w2,w3,w4,w5,w6⟩:=hw;have hn1:n+1<μ.length:=(bT.mp hc.2).1;simp only[vA,uZ,aC,bH,wSs,wS,wT,wE,wEs,newL,lim,aX,aW,bh,aN,bB,aO,aJ,bA,bD,bZ,bY];refine⟨by lia,?_⟩;have f1:Fr μ (μ++[Cell.lst []]) n:=(Fr.refl μ n).push _;have c1:=hc.push (Cell.lst []);have t1:(μ++[Cell.lst []])[μ.length]?=some (.lst (([]:List Tk).map xV)):=by simp
 generalize μ++[Cell.lst []]=μ1 at f1 c1 t1;refine qQ c1 ?_;simp only[bQ,lenOf,aB,c1.2,gR,aR];refine agI c1 ?_;simp only[cP,flat,true_and,fV];have fin:∀ (μ2:Mem) (t:Nat) (tk:List Tk) (k:List Itm) (la:Option Itm),Fr μ μ2 n->lV μ2 n ⟨c.room,k,la⟩->k.length<=50->μ.length<=t->μ2[t]?=some (.lst (tk.map xV))->gH c x=(tk,⟨c.room,k++[x],la⟩)->
   iI "Chooser" "kept" (.loc n) μ2 fun x_1 μ1=>isCell μ1 x_1=true/\dB "append" x_1 [aK x] μ1 fun d μ1=>Q (.loc t) μ1:=by
  intro μ2 t tk k la f2 c2 kl ht t2 eg;refine qQ c2 ⟨by simp[isCell,c2.2],?_⟩;have hn2:n+1<μ2.length:=by have:=f2.1;lia
  simp only[dB,c2.2,bU,aR];refine⟨by simp only[lim];lia,?_⟩;refine h _ t (f2.set _ (.inr (.inr rfl))) ?_ ht ?_
  .rw[eg]
   exact⟨by rw[cU (by lia)];exact c2.1,by rw[eU hn2];simp⟩
  .rw[eg,cU (by lia)];exact t2
 by_cases ce:c.kept.length=c.room
 .have e0:mq (.int (c.kept.length:Int)) (.int (c.room:Int))=true:=by simp[mq,ce]
  have hne:c.kept≠[]:=fun z=>by rw[z]at ce;simp at ce;lia
  simp only[e0,if_true,wSs,wS,wE,wEs,aJ,bA];refine⟨u6 c1 (by decide) (by decide) (by decide),n,c,rfl,c1,hne,by lia,fun μ2 t f2 c2 ht t2=>?_⟩;have ol:=lC hne;exact fin μ2 t _ (outF c).2.kept (outF c).2.last (f1.trans f2) c2 (by lia) (by have:=f1.1;lia) t2 (by simp only[gH,ce,if_true])
 .have e0:mq (.int (c.kept.length:Int)) (.int (c.room:Int))=false:=by simp only[mq];(have:¬((c.kept.length:Int)=(c.room:Int)):=by lia);simpa using this
  simp only[e0,cg,if_false,wSs];exact fin μ1 μ.length [] _ _ f1 c1 (by lia) (aA _) t1 (by simp only[gH,ce,if_false])
theorem Ko:∀ (m:Nat) (c:Ch),c.kept.length<=m->(jY m c).1.length<=2*c.kept.length/\(jY m c).2.kept=[]/\((jY m c).2.room=c.room)
 |0,c,h=>by have:c.kept=[]:=Ao.mp (by lia);simp[jY,this]|m+1,c,h=>by
  simp only[jY];by_cases e:c.kept=[]
  .rw[if_pos e];exact⟨by simp,e,rfl⟩
  .rw[if_neg e]
   have ol:=lC e;obtain⟨i1,i2,i3⟩:=Ko m (outF c).2 (by lia);refine⟨?_,i2,by rw[i3];rfl⟩;(have:(outF c).1.length<=2:=by simp only[outF];split<;>simp);rw[eO];lia
theorem Em:Keeps qG qO o8:=by
 rintro ds μ Q ⟨n,c,rfl,hc,hw,h⟩;obtain⟨w1,w2,w3,w4,w5,w6⟩:=hw;have hn1:n+1<μ.length:=(bT.mp hc.2).1;have fl:=Ko c.kept.length c (aA _);simp only[qO,qG,aC,bH,wSs,wS,wE,wEs,newL,lim,aX,aW,bh,aN,bB,aO,aJ,bA,bD,bZ,bY];refine⟨by lia,?_⟩;have f1:Fr μ (μ++[Cell.lst []]) n:=(Fr.refl μ n).push _;have c1:=hc.push (Cell.lst []);have t1:(μ++[Cell.lst []])[μ.length]?=some (.lst (([]:List Tk).map xV)):=by simp
 generalize μ++[Cell.lst []]=μ1 at f1 c1 t1;refine⟨fun M ρ μ'=>∃ (c':Ch) (tk:List Tk),M=c'.kept.length/\c'.kept.length<=50/\c'.room=c.room/\Fr μ μ' n/\lV μ' n c'/\μ'[μ.length]?=some (.lst (tk.map xV))/\tk++(jY M c').1=(jY c.kept.length c).1/\ρ=[some (.loc n),some (.loc μ.length)],
  ⟨_,c,[],rfl,by lia,rfl,f1,c1,t1,rfl,rfl⟩,?_⟩
 rintro M ρ μ' ⟨c',tk,rfl,hl,er,f2,c2,t2,et,rfl⟩;simp only[wT,wE,aJ];refine qQ c2 ?_;simp only[fU,truth,lenOf,aB,c2.2,gR,aR];by_cases ce:c'.kept=[]
 .have e0:(c'.kept.length !=0)=false:=by rw[ce];rfl
  simp only[e0,cg,if_false,wSs,wS,wT,wE,wEs,aJ,bA,fU,truth,lenOf,aB,t2,gR,aR];have et':tk=(jY c.kept.length c).1:=by
   rw[<-et];cases q:c'.kept.length with
   |zero=>simp[jY]|succ k=>rw[ce]at q;simp at q
  have hm2:μ.length<μ'.length:=(bT.mp t2).1;have fin:∀ (μ3:Mem),Fr μ μ3 n->lV μ3 n c'->μ3[μ.length]?=some (.lst ((wK c).1.map xV))->lJ "Chooser" "last" (.loc n) .non μ3 fun μ3=>Q (.loc μ.length) μ3:=by intro μ3 f3 c3 t3;refine Tg (l:=none) c3 fun μ4 e4 c4=>?_;refine h μ4 μ.length (by rw[e4];exact f3.set _ (.inr (.inl rfl))) ?_ (aA _) (by rw[e4,cU (by lia)];exact t3);rw[ce,er]at c4;exact c4
  by_cases ck:tk=[]
  .have e1:(tk.length !=0)=false:=by rw[ck];rfl
   simp only[e1,cg,if_false];refine fin μ' f2 c2 ?_;rw[t2,ck];(have:(jY c.kept.length c).1=[]:=by rw[<-et',ck]);simp[wK,this]
  .have e1:(tk.length !=0)=true:=by
    cases tk with
    |nil=>exact absurd rfl ck|cons a r=>rfl
   simp only[e1,if_true,isCell,t2,true_and];refine⟨by simp,?_⟩;refine Fd (x:=none) t2 (by rw[et'];lia) ?_;refine fin _ (f2.set _ (.inl (aA _))) (c2.other _ (by lia) (by lia)) ?_;rw[eU hm2];(have:¬(jY c.kept.length c).1=[]:=by rw[<-et'];exact ck);simp[wK,this,et']
 .have e0:(c'.kept.length !=0)=true:=by
   cases q:c'.kept with
   |nil=>exact absurd q ce|cons a r=>rfl
  simp only[e0,if_true,wSs,wS,wE,wEs,aJ,bA];refine⟨by simp[isCell,t2],u6 c2 (by decide) (by decide) (by decide),n,c',rfl,c2,ce,hl,fun μ3 t f3 c3 ht t3=>?_⟩;have hm2:μ.length<μ'.length:=(bT.mp t2).1;have t3':μ3[μ.length]?=some (.lst (tk.map xV)):=by rw[f3.2 _ hm2 (by lia) (by lia)];exact t2
  have hm3:μ.length<μ3.length:=(bT.mp t3').1;have ol:=lC ce;have ek:tk++(outF c').1++(jY (outF c').2.kept.length (outF c').2).1=(jY c.kept.length c).1:=by rw[<-et,<-ol,jY,if_neg ce,qy]
  have aql:tk.length+(outF c').1.length<=100:=by have:=congrArg dR ek;simp only[eO]at this;lia
  simp only[dB,t3',bU,wlT,ahx,t3,aR];refine⟨by simp only[lim];lia,(outF c').2.kept.length,by lia,(outF c').2,tk++(outF c').1,rfl,by lia,by rw[<-er];rfl,(f2.trans f3).set _ (.inl (aA _)),c3.other _ (by lia) (by lia),?_,ek,trivial⟩;rw[eU hm3];simp
def kK:iH:=.inr [107,101,112,116]
def kL:iH:=.inr [108,97,115,116]
def kR:iH:=.inr [114,111,111,109]
def abR (μ:Mem) (n:Nat) (c:Ch):Prop:=μ[n]?=some (.jZ [kK,kL,kR] [.loc (n+1),FW c.last,.int (c.room:Int)])/\μ[n+1]?=some (.lst (c.kept.map aK))
theorem abR.push (h:abR μ n c) (x:Cell):abR (μ++[x]) n c:=by obtain⟨h1,h2⟩:=h;exact⟨by rw[dU (bT.mp h1).1];exact h1,by rw[dU (bT.mp h2).1];exact h2⟩
theorem abR.other (h:abR μ n c) (x:Cell) (h1:t≠n) (h2:t≠n+1):abR (μ.set t x) n c:=⟨by rw[cU h1];exact h.1,by rw[cU h2];exact h.2⟩
def xT (tk:List Tk):Prop:=∀ x,some x∈tk->cA x
theorem afS (hne:c.kept≠[]) (h:∀ x∈c.kept,cA x):(∀ x∈(outF c).2.kept,cA x)/\xT (outF c).1/\∀ x,(outF c).2.last=some x->cA x:=by
 have hm:=h _ (Av hne);refine⟨fun x hx=>h x (aeX hx),fun x hx=>?_,fun x hx=>?_⟩
 .simp only[outF]at hx
  rcases iY.mp hx with hx|hx
  .split at hx<;>simp at hx
  .have:=cH.mp hx
   cases this;exact hm
 .simp only[outF,qx]at hx
  subst hx;exact hm
theorem aaT:∀ (m:Nat) (c:Ch),c.kept.length<=m->(∀ x∈c.kept,cA x)->xT (jY m c).1/\((jY m c).1=[]<->c.kept=[])
 |0,c,hl,_=>by have:c.kept=[]:=Ao.mp (by lia);simp[jY,this,xT]|m+1,c,hl,h=>by
  simp only[jY];by_cases e:c.kept=[]
  .rw[if_pos e];simp[xT,e]
  .rw[if_neg e]
   obtain⟨o1,o2,o3⟩:=afS e h;have ol:=lC e;obtain⟨i1,_⟩:=aaT m (outF c).2 (by lia) o1;refine⟨fun x hx=>?_,?_⟩
   .rcases iY.mp hx with hx|hx
    .exact o2 x hx
    .exact i1 x hx
   .constructor
    .intro z
     have:=congrArg dR z;simp[outF]at this
    .intro z;exact absurd z e
theorem aaP (hw:Wf c) (hx:cA x):Wf (gH c x).2/\xT (gH c x).1:=by
 obtain⟨w1,w2,w3,w4,w5,w6⟩:=hw;unfold gH;by_cases ce:c.kept.length=c.room
 .rw[if_pos ce]
  have hne:c.kept≠[]:=fun z=>by rw[z]at ce;simp at ce;lia
  obtain⟨o1,o2,o3⟩:=afS hne w5;have ol:=lC hne;refine⟨⟨w1,w2,by simp;lia,fun z=>by simp at z,fun y hy=>?_,o3⟩,o2⟩;rcases iY.mp hy with hy|hy
  .exact o1 y hy
  .have:=cH.mp hy;subst this;exact hx
 .rw[if_neg ce]
  refine⟨⟨w1,w2,by simp;lia,fun z=>by simp at z,fun y hy=>?_,w6⟩,by simp[xT]⟩;rcases iY.mp hy with hy|hy
  .exact w5 y hy
  .have:=cH.mp hy;subst this;exact hx
theorem alW (hw:Wf c):Wf (wK c).2/\xT (wK c).1:=by
 obtain⟨w1,w2,w3,w4,w5,w6⟩:=hw;have fo:=aaT c.kept.length c (aA _) w5;refine⟨⟨w1,w2,jG _,fun _=>rfl,by simp[wK],by simp[wK]⟩,fun x hx=>?_⟩;simp only[wK]at hx;split at hx
 .simp at hx
 .rcases iY.mp hx with hx|hx
  .exact fo.1 x hx
  .simp at hx
def fW:List Tk->List Itm->List (List Itm)
 |[],_=>[]|none::r,run=>run::fW r []|some x::r,run=>fW r (run++[x])
def cu:Ch->List Itm->List Tk×Ch
 |c,[]=>([],c)|c,x::r=>((gH c x).1++(cu (gH c x).2 r).1,(cu (gH c x).2 r).2)
def lR (m:Nat):Ch:=⟨m,[],none⟩
def Fj (row:List Itm) (m:Nat):List Tk:=(cu (lR m) row).1++(wK (cu (lR m) row).2).1
def lG (row:List Itm) (m:Nat):List (List Itm):=fW (Fj row m) []
def Pre (μ μ':Mem):Prop:=μ.length<=μ'.length/\∀ i,i<μ.length->μ'[i]?=μ[i]?
theorem Pre.refl (μ:Mem):Pre μ μ:=⟨aA _,fun _ _=>rfl⟩
theorem Pre.trans (h:Pre a b) (k:Pre b c):Pre a c:=⟨gD h.1 k.1,fun i hi=>by rw[k.2 i (f9 hi h.1),h.2 i hi]⟩
theorem Pre.app (μ ν:Mem):Pre μ (μ++ν):=⟨by simp,fun i hi=>dU hi⟩
theorem Pre.set (h:Pre μ μ') (c:Cell) (ht:μ.length<=t):Pre μ (μ'.set t c):=⟨by have:=h.1;simp;lia,fun i hi=>by rw[cU (by lia)];exact h.2 i hi⟩
theorem Pre.fr (h:Pre μ μ') (f:Fr μ' NK n) (hn:μ.length<=n):Pre μ NK:=⟨gD h.1 f.1,fun i hi=>by rw[f.2 i (f9 hi h.1) (by lia) (by lia)];exact h.2 i hi⟩
theorem Pre.get {μ μ':Mem} {i:Nat} {c:Cell} (h:Pre μ μ') (g:μ[i]?=some c):μ'[i]?=some c:=by rw[h.2 i (bT.mp g).1];exact g
def Ad:dz:=fun ds μ Q=>∃ (t:Nat) (tk:List Tk),ds=[.loc t]/\μ[t]?=some (.lst (tk.map xV))/\tk.length<=1000/\∀ μ' n ls,Pre μ μ'->LL μ' μ.length n ls (fW tk [])->Q (.loc n) μ'
def Mu:dz:=fun ds μ Q=>∃ (row:List Itm) (m:Nat),ds=[.lst (row.map aK),.int (m:Int)]/\row.length<=300/\1<=m/\m<=50/\(∀ x∈row,cA x)/\∀ μ' n ls,Pre μ μ'->LL μ' μ.length n ls (lG row m)->Q (.loc n) μ'
def TJ:List Str:=["row","room","chooser","told","item"]
def Ux:Ss:=(.cons (.set 2 (.mk "Chooser" sZ (.cons (.var 1) .nil))) (.cons (.set 3 (.lst true .nil)) (.cons (.for_ [4] false (.seq (.var 0)) (.cons (.exp (.meth "extend" (.var 3) (.cons (.rW "Chooser" "give" s8 (.var 2) (.cons (.var 4) .nil)) .nil))) .nil)) (.cons (.exp (.meth "extend" (.var 3) (.cons (.rW "Chooser" "finish" o8 (.var 2) .nil) .nil))) (.cons (.ret (.call "runs_told" Ad (.cons (.var 3) .nil))) .nil)))))
def FJ:List Str:=["told","runs","run","deed"]
def Gd:Ss:=(.cons (.set 1 (.lst true .nil)) (.cons (.set 2 (.lst true .nil)) (.cons (.for_ [3] false (.seq (.var 0)) (.cons (.ite (.cmp .Eq (.idx (.var 3) (.cst (.int 0))) (.cst (.str [111,117,116]))) (.cons (.exp (.meth "append" (.var 2) (.cons (.idx (.var 3) (.cst (.int 1))) .nil))) .nil) (.cons (.exp (.meth "append" (.var 1) (.cons (.var 2) .nil))) (.cons (.set 2 (.lst true .nil)) .nil))) .nil)) (.cons (.ret (.var 1)) .nil))))
theorem Ug:Keeps FJ Gd Ad:=by
 rintro ds μ Q ⟨t,tk,rfl,ht,hl,h⟩;have htl:t<μ.length:=(bT.mp ht).1;simp only[Gd,FJ,aC,bH,wSs,wS,wE,wEs,wI,newL,lim,mz,aX,aW,bh,aN,bB,aO,aJ,bA,bD,bZ,bY];refine⟨by lia,by lia,?_⟩;have p2:Pre μ (μ++[Cell.lst []]++[Cell.lst []]):=by rw[qy];exact Pre.app _ _
 have t2:=p2.get ht;rw[t2];simp only;have g0:(μ++[Cell.lst []]++[Cell.lst []])[μ.length]?=some (.lst (([]:List Nat).map D.loc)):=by simp
 have g1:(μ++[Cell.lst []]++[Cell.lst []])[μ.length+1]?=some (.lst (([]:List Itm).map aK)):=by simp
 have e1:(μ++[Cell.lst []]).length=μ.length+1:=by simp
 rw[e1];generalize μ++[Cell.lst []]++[Cell.lst []]=μ2 at p2 t2 g0 g1;refine cV (fun ds ρ μ'=>∃ (rest:List Tk) (ls:List Nat) (done:List (List Itm)) (q:Nat) (run:List Itm) (a:Option D),ds=rest.map xV/\run.length+rest.length<=1000/\done.length+rest.length<=1000/\Pre μ μ'/\LL μ' μ.length μ.length ls done/\μ.length<q/\q∉ls/\μ'[q]?=some (.lst (run.map aK))/\done++fW rest run=fW tk []/\
  ρ=[some (.loc t),some (.loc μ.length),some (.loc q),a]) ?_ ?_ _ _ _ ⟨tk,[],[],μ.length+1,[],none,rfl,by simpa using hl,by simpa using hl,p2,⟨aA _,g0,rfl,by simp,by simp⟩,by lia,by simp,g1,rfl,rfl⟩
 .rintro d ds ρ μ1 N hN ⟨rest,ls,done,q,run,a,e,h1,h2,hp,hL,hq,hqn,gq,er,rfl⟩
  have ql:q<μ1.length:=(bT.mp gq).1;cases rest with
  |nil=>simp at e|cons y rest=>
   simp only[aX,m6]at e;obtain⟨rfl,rfl⟩:=e;simp only[bh]at h1 h2;refine⟨hp.get ht,?_⟩;cases y with
   |none=>
    (have nl:μ.length<μ1.length:=by lia);simp[xV,fB,wT,wE,dM,aB,oV,cP,flat,mq,fV,isCell,hL.at_,dB,bU,newL,lim];refine⟨by rw[hL.len];lia,?_⟩;refine hN _ _ ⟨rest,ls++[q],done++[run],μ1.length,[],_,rfl,by simp;lia,by simp;lia,?_,?_,by lia,?_,by simp,by rw[<-er];simp[fW],rfl⟩
    .exact(hp.set _ (aA _)).trans (Pre.app _ _)
    .refine LL.app ⟨aA _,by rw[eU nl];simp,by simp[hL.len],fun l hl'=>?_,fun i l r i1 i2=>?_⟩ _
     .rcases iY.mp hl' with hl' |hl'
      .exact hL.sub l hl'
      .have:=cH.mp hl';subst this;exact⟨by lia,by lia⟩
     .have hne:l≠μ.length:=by
       rcases iY.mp (pC i1)with z|z
       .exact(hL.sub l z).2
       .have:=cH.mp z;lia
      rw[cU (bL hne)];rcases Dn i ls.length with z|z
      .rw[dU z]at i1
       rw[dU (by rw[<-hL.len];exact z)]at i2;exact hL.row i l r i1 i2
      .have hi:i=ls.length:=by have:=(bT.mp i1).1;simp at this;lia
       subst hi;rw[nQ (aA _)]at i1;rw[hL.len,nQ (aA _)]at i2;simp at i1 i2;subst i1 i2;exact gq
    .intro z
     rcases iY.mp z with z|z
     .obtain⟨i,hi,ei⟩:=DN.mp z
      (have hir:i<done.length:=by rw[<-hL.len];exact hi);have:=hL.row i ls[i] done[i] (dw hi) (dw hir);have:=(bT.mp this).1;lia
     .have:=cH.mp z;lia
   |some x=>simp[xV,fB,wT,wE,dM,aB,oV,cP,flat,mq,fV,isCell,gq,dB,bU,lim];refine⟨by lia,?_⟩;refine hN _ _ ⟨rest,ls,done,q,run++[x],_,rfl,by simp;lia,by lia,hp.set _ (by lia),⟨hL.lo,by rw[cU (by lia)];exact hL.at_,hL.len,hL.sub,fun i l r i1 i2=>?_⟩,hq,hqn,by rw[eU ql];simp,by rw[<-er];rfl,rfl⟩;have hne:l≠q:=fun z=>hqn (z▸pC i1);rw[cU (bL hne)];exact hL.row i l r i1 i2
 .rintro ρ μ1 ⟨rest,ls,done,q,run,a,e,h1,h2,hp,hL,hq,hqn,gq,er,rfl⟩
  have:rest=[]:=by simpa using e.symm
  subst this;refine⟨hp.get ht,?_⟩;simp only[aJ,bA];rw[show done=fW tk [] by rw[<-er];simp[fW]]at hL;exact h μ1 _ ls hp hL
theorem Bu:∀ (row:List Itm) (c:Ch),Wf c->(∀ x∈row,cA x)->Wf (cu c row).2/\xT (cu c row).1/\(cu c row).1.length<=2*row.length
 |[],c,hw,_=>⟨hw,by simp[cu,xT],by simp[cu]⟩|x::row,c,hw,h=>by
  obtain⟨g1,g2⟩:=aaP hw (h x (by simp));obtain⟨i1,i2,i3⟩:=Bu row (gH c x).2 g1 fun y hy=>h y (by simp[hy]);refine⟨i1,fun y hy=>?_,?_⟩
  .rcases iY.mp hy with hy|hy
   .exact g2 y hy
   .exact i2 y hy
  .have:(gH c x).1.length<=2:=by
    unfold gH;split
    .simp only[outF];split<;>simp
    .simp
   simp only[cu,eO,bh];lia
theorem agK (hw:Wf c):(wK c).1.length<=101:=by
 have:=(Ko c.kept.length c (aA _)).1;have:=hw.2.1;have:=hw.2.2.1;simp only[wK];split
 .simp
 .simp;lia
theorem QW (h1:1<=m) (h2:m<=50):Wf (lR m):=⟨h1,h2,jG _,fun _=>rfl,by simp[lR],by simp[lR]⟩
theorem agj:Keeps TJ Ux Mu:=by
 rintro ds μ Q ⟨row,m,rfl,hl,m1,m2,hok,h⟩;simp only[Ux,TJ,aC,bH,wSs,wS,wE,wEs,wI,newL,lim,mz,aX,aW,bh,aN,bB,aO,aJ,bA,bD,bZ,bY];refine⟨μ,m,rfl,rfl,m1,m2,rfl,by lia,?_⟩;have el:(μ++[Cell.ins "Chooser" [("room",D.int (m:Int)),("kept",D.loc (μ.length+1)),("last",D.non)],Cell.lst []]).length=μ.length+2:=by simp
 rw[el];have p2:Pre μ (μ++[Cell.ins "Chooser" [("room",D.int (m:Int)),("kept",D.loc (μ.length+1)),("last",D.non)],Cell.lst []]++[Cell.lst []]):=by rw[qy];exact Pre.app _ _
 have c2:lV (μ++[Cell.ins "Chooser" [("room",D.int (m:Int)),("kept",D.loc (μ.length+1)),("last",D.non)],Cell.lst []]++[Cell.lst []]) μ.length (lR m):=⟨by simp[lR,FW],by simp[lR]⟩;have t2:(μ++[Cell.ins "Chooser" [("room",D.int (m:Int)),("kept",D.loc (μ.length+1)),("last",D.non)],Cell.lst []]++[Cell.lst []])[μ.length+2]?=some (.lst (([]:List Tk).map xV)):=by simp
 generalize μ++[Cell.ins "Chooser" [("room",D.int (m:Int)),("kept",D.loc (μ.length+1)),("last",D.non)],Cell.lst []]++[Cell.lst []]=μ2 at p2 c2 t2;have go:=Bu row (lR m) (QW m1 m2) hok;refine cV (fun ds ρ μ'=>∃ (rest:List Itm) (c:Ch) (tk:List Tk) (a:Option D),ds=rest.map aK/\(∀ x∈rest,cA x)/\tk.length+2*rest.length<=600/\Pre μ μ'/\lV μ' μ.length c/\Wf c/\μ'[μ.length+2]?=some (.lst (tk.map xV))/\tk++(cu c rest).1=(cu (lR m) row).1/\(cu c rest).2=(cu (lR m) row).2/\
  ρ=[some (.lst (row.map aK)),some (.int (m:Int)),some (.loc μ.length),some (.loc (μ.length+2)),a]) ?_ ?_ _ _ _ ⟨row,lR m,[],none,rfl,hok,by simp;lia,p2,c2,QW m1 m2,t2,rfl,rfl,rfl⟩
 .rintro d ds ρ μ1 N hN ⟨rest,c,tk,a,e,ok1,tl,hp,hc,hw,gt,e1,e2,rfl⟩
  cases rest with
  |nil=>simp at e|cons x rest=>
   simp only[aX,m6]at e;obtain⟨rfl,rfl⟩:=e;simp only[bh]at tl;refine⟨trivial,?_⟩;simp only[fB,bZ,bY,aJ,bA];refine⟨by simp[isCell,gt],u6 hc (by decide) (by decide) (by decide),μ.length,x,c,rfl,hc,hw,fun μ3 t f3 c3 ht t3=>?_⟩;have gl:μ.length+2<μ1.length:=(bT.mp gt).1;(have gt3:μ3[μ.length+2]?=some (.lst (tk.map xV)):=by rw[f3.2 _ gl (by lia) (by lia)];exact gt);have gl3:μ.length+2<μ3.length:=(bT.mp gt3).1;have gle:(gH c x).1.length<=2:=by
    unfold gH;split
    .simp only[outF];split<;>simp
    .simp
   simp only[dB,gt3,bU,wlT,ahx,t3,aR];refine⟨by simp only[lim];lia,?_⟩;refine hN _ _ ⟨rest,(gH c x).2,tk++(gH c x).1,_,rfl,fun y hy=>ok1 y (by simp[hy]),by simp;lia,(hp.fr f3 (aA _)).set _ (by lia),c3.other _ (by lia) (by lia),(aaP hw (ok1 x (by simp))).1,by rw[eU gl3];simp,by rw[<-e1];simp[cu],by rw[<-e2];rfl,rfl⟩
 .rintro ρ μ1 ⟨rest,c,tk,a,e,ok1,tl,hp,hc,hw,gt,e1,e2,rfl⟩
  have:rest=[]:=by simpa using e.symm
  subst this;simp only[cu,pX]at e1 e2;subst e2;refine⟨trivial,?_⟩;simp only[aJ,bA,wE,wEs];refine⟨by simp[isCell,gt],u6 hc (by decide) (by decide) (by decide),μ.length,_,rfl,hc,hw,fun μ3 t f3 c3 ht t3=>?_⟩;have gl:μ.length+2<μ1.length:=(bT.mp gt).1;have gt3:μ3[μ.length+2]?=some (.lst (tk.map xV)):=by rw[f3.2 _ gl (by lia) (by lia)];exact gt
  have gl3:μ.length+2<μ3.length:=(bT.mp gt3).1;have fle:=agK hw;simp only[dB,gt3,bU,wlT,ahx,t3,aR];refine⟨by simp only[lim];lia,?_⟩;have p4:Pre μ (μ3.set (μ.length+2) (Cell.lst (tk.map xV++(wK (cu (lR m) row).2).1.map xV))):=(hp.fr f3 (aA _)).set _ (by lia);refine⟨μ.length+2,Fj row m,rfl,by rw[eU gl3,Fj,<-e1];simp,by rw[Fj,<-e1];simp;simp at tl;lia,fun μ5 n ls p5 hL=>?_⟩;refine h μ5 n ls (p4.trans p5) ?_;exact⟨by have:=hL.lo;have:=p4.1;lia,hL.at_,hL.len,fun l hl'=>⟨by have:=(hL.sub l hl').1;have:=p4.1;lia,(hL.sub l hl').2⟩,hL.row⟩
def Ru:Nat->Ch->List Itm->List Tk
 |0,_,_=>[]|n+1,c,ws=>if c.kept=[]then []else(outF c).1++Ru n ⟨c.room,(outF c).2.kept++ws.take 1,(outF c).2.last⟩ (ws.drop 1)
theorem agy:∀ (n:Nat) (c:Ch),c.kept.length<=n->Ru n c []=(jY c.kept.length c).1
 |0,c,h=>by
  have:c.kept.length=0:=by lia
  rw[this];rfl
 |n+1,c,h=>by
  by_cases e:c.kept=[]
  .simp[Ru,e,jY]
  .have ol:=lC e
   rw[Ru,if_neg e,<-ol,jY,if_neg e];(have e2:(⟨c.room,(outF c).2.kept++([]:List Itm).take 1,(outF c).2.last⟩:Ch)=(outF c).2:=by simp[outF]);rw[e2];show _++Ru n (outF c).2 []=_;rw[agy n (outF c).2 (by lia)]
theorem UW:∀ (ws:List Itm) (c:Ch) (n:Nat),1<=c.room->(c.kept.length=c.room∨ws=[])->c.kept.length+ws.length<=n->
  (cu c ws).1++(jY (cu c ws).2.kept.length (cu c ws).2).1=Ru n c ws
 |[],c,n,h1,_,h=>by simp only[cu,aO];exact(agy n c (by simpa using h)).symm|x::ws,c,n,h1,hf,h=>by
  have hf:c.kept.length=c.room:=hf.resolve_right (by simp);have ne:c.kept≠[]:=fun z=>by rw[z]at hf;simp at hf;lia
  have ol:=lC ne;cases n with
  |zero=>simp at h|succ n=>(have eg:gH c x=((outF c).1,⟨c.room,(outF c).2.kept++[x],(outF c).2.last⟩):=by unfold gH;rw[if_pos hf]);rw[Ru,if_neg ne];simp only[cu,eg,aeP,List.take_zero,aeE,Xx,qy];rw[UW ws ⟨c.room,(outF c).2.kept++[x],(outF c).2.last⟩ n h1 (.inl (by simp;lia)) (by simp at h ⊢;lia)]
theorem fill:∀ (as bs ks:List Itm) (m:Nat),ks.length+as.length<=m->cu ⟨m,ks,none⟩ (as++bs)=cu ⟨m,ks++as,none⟩ bs
 |[],bs,ks,m,_=>by simp|x::as,bs,ks,m,h=>by
  have hne:¬ks.length=m:=by simp at h;lia
  have eg:gH ⟨m,ks,none⟩ x=([],⟨m,ks++[x],none⟩):=by unfold gH;rw[if_neg hne]
  simp only[bB,cu,eg,aO];rw[fill as bs (ks++[x]) m (by simp at h ⊢;lia)];simp
def c0 (row:List Itm) (m:Nat):Ch:=⟨m,row.take m,none⟩
theorem Kf:∀ (ws:List Itm) (c:Ch),1<=c.room->c.kept≠[]->(c.kept.length=c.room∨ws=[])->(cu c ws).2.kept≠[]
 |[],c,_,h,_=>h|x::ws,c,h1,h,hf=>by
  have hf:c.kept.length=c.room:=hf.resolve_right (by simp);have ol:=lC h;have eg:gH c x=((outF c).1,⟨c.room,(outF c).2.kept++[x],(outF c).2.last⟩):=by unfold gH;rw[if_pos hf]
  simp only[cu,eg];exact Kf ws _ h1 (by simp) (.inl (by simp;lia))
theorem ahK (m1:1<=m):Fj row m=if row=[]then []else Ru row.length (c0 row m) (row.drop m)++[none]:=by
 have e0:cu (lR m) row=cu (c0 row m) (row.drop m):=by have:=fill (row.take m) (row.drop m) [] m (by simp;lia);rw[Jw]at this;simpa[lR,c0]using this
 unfold Fj;rw[e0];by_cases e:row=[]
 .subst e
  simp[cu,c0,wK,jY]
 .rw[if_neg e]
  have hl:1<=row.length:=by cases row with|nil=>exact absurd rfl e|cons=>simp
  have hor:(c0 row m).kept.length=(c0 row m).room∨row.drop m=[]:=by
   by_cases q:m<=row.length
   .exact .inl (by simp[c0];lia)
   .exact .inr (Yx (by lia))
  have hk:(c0 row m).kept≠[]:=fun z=>by have z:row.take m=[]:=z;have:=congrArg dR z;rw[qw]at this;simp only[aN]at this;lia
  have hg:=UW (row.drop m) (c0 row m) row.length m1 hor (by simp[c0];lia);have hk2:=Kf (row.drop m) (c0 row m) m1 hk hor;rw[<-hg,qy];congr 1;unfold wK;have:(jY (cu (c0 row m) (row.drop m)).2.kept.length (cu (c0 row m) (row.drop m)).2).1≠[]:=by have ol:=lC hk2;rw[<-ol,jY,if_neg hk2];simp[outF]
  rw[if_neg this]
def SN (p:List (List Itm)×List Itm):Tk->List (List Itm)×List Itm
 |none=>(p.1++[p.2],[])|some x=>(p.1,p.2++[x])
theorem CG:∀ (tk:List Tk) (cl:List (List Itm)) (run:List Itm),cl++fW (tk++[none]) run=(tk.foldl SN (cl,run)).1++[(tk.foldl SN (cl,run)).2]
 |[],cl,run=>by simp[fW]|none::tk,cl,run=>by simp only[bB,fW,qu,SN];rw[<-CG tk (cl++[run]) []];simp|some x::tk,cl,run=>by simp only[bB,fW,qu,SN];exact CG tk cl (run++[x])
theorem U6:∀ {r:List Itm} {y:Itm},y∈r->∃ j,r[j]?=some y/\(∀ m,m<j->r[m]?≠some y)/\r.take j++r.drop (j+1)=r.erase y
 |[],y,h=>by simp at h|a::r,y,h=>by
  by_cases e:a=y
  .subst e
   exact⟨0,by simp,fun m hm=>by lia,by simp⟩
  .have h':y∈r:=by
    rcases bC.mp h with h|h
    .exact absurd h.symm e
    .exact h
   obtain⟨j,h1,h2,h3⟩:=U6 h';refine⟨j+1,by simpa using h1,fun m hm=>?_,?_⟩
   .cases m with|zero=>simpa using e|succ m=>simpa using h2 m (by lia)
   .rw[List.erase_cons_tail (by simpa using e)]
    simp[h3]
theorem Oj:∀ (tk:List Tk) (run:List Itm),∀ r∈fW tk run,r.length<=run.length+tk.length
 |[],run,r,hr=>by simp[fW]at hr|none::tk,run,r,hr=>by
  simp only[fW,bC]at hr;rcases hr with rfl|hr
  .simp
  .have:=Oj tk [] r hr
   simp at this ⊢;lia
 |some y::tk,run,r,hr=>by simp only[fW]at hr;have:=Oj tk (run++[y]) r hr;simp at this ⊢;lia
end DW.CHO
namespace DW
open PySem
def dg (m:Nat):List Nat:=(Nat.toDigits 10 m).map I7
theorem vB (h:c∈dg m):48<=c/\c<=57:=by
 obtain⟨ch,hch,e⟩:=j9.mp h;have r:=Nat.isDigit_of_mem_toDigits (b:=10) (by decide) (by decide) hch;have:48<=ch.toNat/\ch.toNat<=57:=by simp only[Char.isDigit,bM,decide_eq_true_eq]at r;exact⟨r.1,r.2⟩
 lia
theorem U9 (m:Nat):dg m≠[]:=fun e=>Nat.toDigits_ne_nil (List.map_eq_nil_iff.mp e)
theorem Er (h:m<10 ^ 40):(dg m).length<=40:=by unfold dg;rw[aR];exact(Nat.length_toDigits_le_iff (by decide) (by decide)).mpr h
theorem agX:∀ m:Nat,m<10->dg m=[48+m]:=by decide
theorem al4 (h:10<=m):dg m=dg (m/10)++dg (m%10):=by have t:=Nat.toDigits_append_toDigits (b:=10) (n:=m/10) (d:=m%10) (by decide) (by lia) (Nat.mod_lt m (by decide));rw[Nat.div_add_mod]at t;unfold dg;rw[<-t,m5]
theorem aaY:∀ {m:Nat},m≠0->(dg m).head?≠some 48:=by
 intro m;induction m using Nat.strongRecOn with
 |_ m ih=>
  intro h0;by_cases h:m<10
  .rw[agX m h];simp;lia
  .rw[al4 (by lia)]
   have:=ih (m/10) (by lia) (by lia);cases q:dg (m/10) with
   |nil=>exact absurd q (U9 _)|cons a r=>rw[q]at this;simpa using this
theorem vC (m:Nat):jB (m:Int)=dg m:=akJ m
theorem agZ (m:Nat):jB (-((m+1:Nat):Int))=45::dg (m+1):=by unfold jB dg;have e:toString (-((m+1:Nat):Int))="-"++Nat.repr (m+1):=rfl;rw[e,Yy];simp[Nat.toList_repr]
theorem qU (k:Int):(∃ m:Nat,k=m/\jB k=dg m)∨∃ m:Nat,k= -((m+1:Nat):Int)/\jB k=45::dg (m+1):=by
 by_cases h:0<=k
 .obtain⟨m,rfl⟩:=afc h
  exact .inl ⟨m,rfl,vC m⟩
 .refine .inr ⟨(-k).toNat -1,by lia,?_⟩
  have:k= -(((-k).toNat -1+1:Nat):Int):=by lia
  conv=>lhs;rw[this]
  exact agZ _
theorem Va (h:c∈jB k):c=45∨(48<=c/\c<=57):=by
 rcases qU k with⟨m,_,e⟩|⟨m,_,e⟩<;>rw[e]at h
 .exact .inr (vB h)
 .rcases bC.mp h with h|h
  .exact .inl h
  .exact .inr (vB h)
theorem al5 (k:Int):jB k≠[]:=by
 rcases qU k with⟨m,_,e⟩|⟨m,_,e⟩<;>rw[e]
 .exact U9 m
 .simp
theorem vY (h1: -(10 ^ 40)<k) (h2:k<10 ^ 40):(jB k).length<=41:=by
 rcases qU k with⟨m,e1,e⟩|⟨m,e1,e⟩<;>rw[e]
 .have:=Er (m:=m) (by lia);lia
 .have:=Er (m:=m+1) (by lia);simp;lia
theorem Vb (h1: -(10 ^ 40)<k) (h2:k<10 ^ 40):intText? ⟨(jB k).toArray⟩=some k:=by
 have hl:=vY h1 h2;rcases qU k with⟨m,e1,e⟩|⟨m,e1,e⟩
 .rw[e]at hl ⊢
  have:=intText_digits (x:=⟨(dg m).toArray⟩) (by intro c hc;exact vB (by simpa using hc)) (by simpa using U9 m) (by simp[eN];lia);rw[this,e1];congr 2;simpa[dg]using aeR m
 .rw[e]at hl ⊢
  have:=intText_neg (x:=⟨(45::dg (m+1)).toArray⟩) (cs:=dg (m+1)) (by simp) (by intro c hc;exact vB hc) (U9 _) (by simp[eN]at hl ⊢;lia);rw[this,e1];congr 2;have:=aeR (m+1);simpa[dg]using congrArg (fun n:Nat=>(n:Int)) this
def ab2 (t:List Nat):Bool:=decide (1<=t.length/\t.length<=40)&&(!(t.head?==some 48&&t !=[48])&&t.all fun c=>decide (48<=c/\c<=57))
def keyB (t:List Nat):Bool:=if t.head?==some 45 then t !=[45,48]&&ab2 (t.drop 1)else ab2 t
theorem Zu (h:m<10 ^ 40):ab2 (dg m)=true:=by
 have hl:=Er h;have hp:1<=(dg m).length:=by
  rcases aes (dg m).length with q|q
  .exact absurd (Ao.mp q) (U9 m)
  .exact q
 unfold ab2;have h1:decide (1<=(dg m).length/\(dg m).length<=40)=true:=decide_eq_true ⟨hp,hl⟩;have h3:((dg m).all fun c=>decide (48<=c/\c<=57))=true:=Ql.mpr fun c hc=>decide_eq_true (vB hc);rw[h1,h3];by_cases h0:m=0
 .subst h0;decide
 .have:=aaY h0
  have:((dg m).head?==some 48)=false:=by simpa using this
  rw[this];rfl
theorem aiY (h1: -(10 ^ 40)<k) (h2:k<10 ^ 40):keyB (jB k)=true:=by
 unfold keyB;rcases qU k with⟨m,e1,e⟩|⟨m,e1,e⟩<;>rw[e]
 .have hn:((dg m).head?==some 45)=false:=by
   cases q:dg m with
   |nil=>rfl|cons a r=>have:=vB (m:=m) (c:=a) (by rw[q];simp);simp;lia
  rw[hn];exact Zu (by lia)
 .have:((45::dg (m+1))!=[45,48])=true:=by have:=aaY (m:=m+1) (by lia);simp;intro q;rw[q]at this;exact this rfl
  simp only[List.head?_cons,beq_self_eq_true,if_true,this,mR,aeE,Xx];exact Zu (by lia)
end DW
namespace DW.TX
open PySem DW DW.VD
def wH (t:List Nat):Prop:=t.all (·<1114112)=true
theorem lE:wH t<->∀ c∈t,c<1114112:=by unfold wH;simp
theorem vR (ha:wH a) (hb:wH b):wH (a++b):=by
 rw[lE]at*;intro c hc;rcases iY.mp hc with h|h
 .exact ha c h
 .exact hb c h
theorem G3 (hb:wH b) (h:∀ c∈a,c∈b):wH a:=by rw[lE]at*;exact fun c hc=>hb c (h c hc)
def jD:dz:=fun ds μ Q=>∃ t:List Nat,ds=[.str t]/\wH t/\Q (.bl (ab2 t)) μ
def xH:List Str:=["text"]
def tlA:Ss:=(.cons (.ret (.blt "all" (.cons (.comp false 1 false [] (.chain .LtE .LtE (.cst (.str [48])) (.var 0) (.cst (.str [57]))) (.seq (.var 0)) .nil) .nil))) .nil)
def xP:Ss:=(.cons (.ite (.or (.not (.chain .LtE .LtE (.cst (.int 1)) (.blt "len" (.cons (.var 0) .nil)) (.gbl "MOST_FIGURES" (.int 40)))) (.and (.cmp .Eq (.idx (.var 0) (.cst (.int 0))) (.cst (.str [48]))) (.cmp .NotEq (.var 0) (.cst (.str [48]))))) (.cons (.ret (.cst (.bl false))) .nil) .nil) tlA)
theorem K4 (p:α->Bool):∀ l:List α,allB (l.map fun x=>D.bl (p x))=some (l.all p)
 |[]=>rfl|x::l=>by simp[allB,K4 p l]
theorem als (a b:Nat):dO [a] [b]=decide (a<b):=by
 simp only[dO];by_cases e:a=b
 .subst e;simp
 .rw[if_neg e]
theorem acV (q:Q (.bl (t.all fun c=>decide (48<=c/\c<=57))) μ):wSs tlA (bH Q) [some (.str t)] μ:=by
 simp only[tlA,bH,wSs,wS,wE,wEs,wI,newL,aW,aJ,mz,chars];refine dI (fun c=>D.str [c]) (fun c=>D.bl (decide (48<=c/\c<=57))) trivial _ _ ?_ ?_
 .intro c _ Y N z
  simp only[bindC,wTs,aJ,cP,fV,als,if_true];by_cases c1:c<48
  .have:¬(48<=c/\c<=57):=by lia
   simp only[c1,this,decide_true,decide_false,kY,cg,if_false]at z ⊢;exact z
  .simp only[c1,decide_false,mU,if_true]
   (have:(!decide (57<c))=decide (48<=c/\c<=57):=by rw[PN];simp;lia);rw[this];exact z
 .simp only[aO,bQ,cC,aB,lO,K4]
  exact q
theorem iB (h:wH t) (n:Nat):flat n (.str t)=true:=by cases n<;>exact h
theorem eq_str (a b:List Nat):mq (.str a) (.str b)=(a==b):=rfl
theorem Lq:Keeps xH xP jD:=by
 rintro ds μ Q ⟨t,rfl,ht,q⟩;have ln:∀ (ν:Mem) (Q:QD),bQ "len" [.str t] ν Q=Q (.int (t.length:Int)) ν:=fun ν Q=>by simp[bQ,lenOf]
 simp only[xP,xH,aC,wSs,wS,wT,wE,wEs,aX,aW,bh,aN,bB,aO,aJ,bD,ln,cP,fV];unfold ab2 at q;by_cases h1:1<=t.length
 .have h1':decide ((1:Int)<=(t.length:Int))=true:=decide_eq_true (by lia)
  simp only[h1',if_true];by_cases h2:t.length<=40
  .have h2':decide ((t.length:Int)<=40)=true:=decide_eq_true (by lia)
   have h12:decide (1<=t.length/\t.length<=40)=true:=decide_eq_true ⟨h1,h2⟩;rw[h12,mR]at q;simp only[h2',kY,cg,if_false];cases t with
   |nil=>simp at h1|cons a r=>
    (have hi:∀ (ν:Mem) (Q:QD),dM (.str (a::r)) (.int 0) ν Q=Q (.str [a]) ν:=fun ν Q=>by simp[dM,oV]);have ha:wH [a]:=G3 ht (by simp);rw[hi];refine⟨iB ha 60,by decide,?_⟩;(have e1:mq (.str [a]) (.str [48])=decide (a=48):=by rw[eq_str,PN];simp);rw[e1];(have e2:((a::r).head?==some 48)=decide (a=48):=by rw[PN];simp);rw[e2]at q;by_cases h48:a=48
    .simp only[h48,decide_true,if_true,mR]at q ⊢
     rw[h48]at ht;refine⟨iB ht 60,by decide,?_⟩;rw[eq_str];by_cases hr:(48::r)=[48]
     .have hb:((48::r)==[48])=true:=by rw[hr];rfl
      (have hb2:((48::r)!=[48])=false:=by rw[hr];rfl);simp only[hb,hb2,kY,mU,mR,cg,if_false]at q ⊢;exact acV q
     .have hb:((48::r)==[48])=false:=by simpa using hr
      (have hb2:((48::r)!=[48])=true:=by simpa using hr);simp only[hb,hb2,kY,mU,yC,if_true,wSs,wS,wE,bH]at q ⊢;exact q
    .simp only[h48,decide_false,yC,mU,mR,cg,if_false]at q ⊢
     exact acV q
  .have h2':decide ((t.length:Int)<=40)=false:=decide_eq_false (by lia)
   have h12:decide (1<=t.length/\t.length<=40)=false:=decide_eq_false (by lia);rw[h12,yC]at q;simp only[h2',mU,if_true,wSs,wS,wE,bH];exact q
 .have h1':decide ((1:Int)<=(t.length:Int))=false:=decide_eq_false (by lia)
  have h12:decide (1<=t.length/\t.length<=40)=false:=decide_eq_false (by lia);rw[h12,yC]at q;simp only[h1',cg,if_false,mU,if_true,wSs,wS,wE,bH];exact q
def nH:dz:=fun ds μ Q=>∃ t:List Nat,ds=[.str t]/\wH t/\Q (.bl (keyB t)) μ
def xu:List Str:=["text"]
def xM:Ss:=(.cons (.ite (.S5 "startswith" (.var 0) (.cons (.cst (.str [45])) .nil)) (.cons (.ret (.and (.cmp .NotEq (.var 0) (.cst (.str [45,48]))) (.call "are_figures" jD (.cons (.slc false (.var 0) (.cons (.cst (.int 1)) .nil) .nil) .nil)))) .nil) .nil) (.cons (.ret (.call "are_figures" jD (.cons (.var 0) .nil))) .nil))
theorem amx (q:Q (.bl (t.head?==some c)) μ):wC "startswith" (.str t) [.str [c]] μ Q:=q
theorem wN (m:String) (h:¬(m="get"∨m="pop"∨m="clear")) (h2:txM m=true) (t:List Nat) (μ:Mem):Lw m μ (.str t)=true:=by unfold Lw;rw[if_neg h,if_pos h2];rfl
theorem Ln:Keeps xu xM nH:=by
 rintro ds μ Q ⟨t,rfl,ht,q⟩;simp only[xM,xu,aC,bH,wSs,wS,wT,wE,wEs,wO,zR,aX,aW,bh,aN,bB,aO,aJ,bD];refine⟨wN _ (by decide) (by decide) _ _,amx ?_⟩;simp only[fU,truth];unfold keyB at q;by_cases h:t.head?=some 45
 .have hb:(t.head?==some 45)=true:=by rw[h];rfl
  rw[hb]at q;simp only[hb,if_true]at q ⊢;refine acC (iB ht 60) (by decide) ?_;rw[eq_str];by_cases h2:t=[45,48]
  .subst h2
   exact q
  .have hb1:(t==[45,48])=false:=by simpa using h2
   (have hb2:(t !=[45,48])=true:=by simpa using h2);simp only[hb1,hb2,mU,mR,fV,if_true]at q ⊢;have hl:1<=t.length:=by
    cases t with
    |nil=>simp at h|cons a r=>simp
   refine Dh (Dh ?_ (Dh ?_ ?_)) ?_
   .intro i hi
    cases hi;decide
   .intro i hi
    cases hi
   .show min (1:Int).toNat t.length<=t.length;lia
   .rw[acf _ (by decide)]
    exact⟨_,rfl,G3 ht fun c hc=>DK hc,q⟩
 .have hb:(t.head?==some 45)=false:=by simpa using h
  rw[hb]at q;simp only[hb,cg,if_false]at q ⊢;exact⟨t,rfl,ht,q⟩
def kp (t:List Nat):List Nat:=if 58∈t then Lg 58 t else t
def tp (t:List Nat):List Nat:=if 58∈t then postC 58 t else []
def aiL (t:List Nat):Bool:=!(decide (58∈t)&&tp t==[])&&(keyB (kp t)&&zp (.str (tp t)))
theorem alA:∀ c∈kp t,c∈t:=by
 unfold kp Lg;split
 .exact fun c hc=>(List.takeWhile_sublist _).subset hc
 .exact fun c hc=>hc
theorem akd:∀ c∈tp t,c∈t:=by
 unfold tp postC;split
 .exact fun c hc=>(List.dropWhile_sublist _).subset (DK hc)
 .exact fun c hc=>by simp at hc
def mdl (t:List Nat):List Nat:=if 58∈t then [58]else []
theorem aar (q:Q (.tup [.str (kp t),.str (mdl t),.str (tp t)]) μ):wC "partition" (.str t) [.str [58]] μ Q:=by
 show(if 58∈t then Q (.tup [.str (Lg 58 t),.str [58],.str (postC 58 t)]) μ else Q (.tup [.str t,.str [],.str []]) μ);unfold kp mdl tp at q;split
 .rename_i h;simp only[if_pos h]at q;exact q
 .rename_i h;simp only[if_neg h]at q;exact q
def sV:dz:=fun ds μ Q=>∃ t:List Nat,ds=[.str t]/\wH t/\Q (.bl (aiL t)) μ
def uT:List Str:=["word","parts"]
def vg:Ss:=(.cons (.set 1 (.S5 "partition" (.var 0) (.cons (.cst (.str [58])) .nil))) (.cons (.ite (.and (.cmp .Eq (.idx (.var 1) (.cst (.int 1))) (.cst (.str [58]))) (.cmp .Eq (.idx (.var 1) (.cst (.int 2))) (.cst (.str [])))) (.cons (.ret (.cst (.bl false))) .nil) .nil) (.cons (.ret (.and (.call "is_key_text" nH (.cons (.idx (.var 1) (.cst (.int 0))) .nil)) (.call "is_tag" Cw (.cons (.idx (.var 1) (.cst (.int 2))) .nil)))) .nil)))
theorem JX:Keeps uT vg sV:=by
 rintro ds μ Q ⟨t,rfl,ht,q⟩;simp only[vg,uT,aC,bH,wSs,wS,wT,wE,wEs,aX,aW,bh,aN,bB,aO,aJ,bA,bD];refine⟨wN _ (by decide) (by decide) _ _,aar ?_⟩;have i0:∀ (ν:Mem) (Q:QD),dM (.tup [.str (kp t),.str (mdl t),.str (tp t)]) (.int 0) ν Q=Q (.str (kp t)) ν:=fun ν Q=>rfl;have i1:∀ (ν:Mem) (Q:QD),dM (.tup [.str (kp t),.str (mdl t),.str (tp t)]) (.int 1) ν Q=Q (.str (mdl t)) ν:=fun ν Q=>rfl;have i2:∀ (ν:Mem) (Q:QD),dM (.tup [.str (kp t),.str (mdl t),.str (tp t)]) (.int 2) ν Q=Q (.str (tp t)) ν:=fun ν Q=>rfl;have hk:wH (kp t):=G3 ht alA;have hp:wH (tp t):=G3 ht akd;have hmd:wH (mdl t):=by unfold mdl;split<;>rfl
 simp only[bZ,bY,aJ,bA,i0,i1,i2,cP,fV];refine⟨iB hmd 60,by decide,?_⟩;have e1:mq (.str (mdl t)) (.str [58])=decide (58∈t):=by rw[eq_str];unfold mdl;by_cases h:58∈t<;>simp[h]
 rw[e1];unfold aiL at q;have fin:(decide (58∈t)&&tp t==[])=false->nH [.str (kp t)] μ fun x μ1=>match x with| .bl b=>(if b=true then Cw [.str (tp t)] μ1 Q else Q (.bl false) μ1)|_=>False:=fun h=>by
  rw[h,mU,mR]at q;refine⟨kp t,rfl,hk,?_⟩;simp only;by_cases hb:keyB (kp t)=true
  .rw[hb,mR]at q
   rw[if_pos hb];exact⟨_,rfl,hp,q⟩
  .have hb':keyB (kp t)=false:=by simpa using hb
   rw[hb',yC]at q;rw[if_neg hb];exact q
 by_cases h:58∈t
 .simp only[h,decide_true,if_true]
  refine⟨iB hp 60,rfl,?_⟩;rw[eq_str];by_cases h2:tp t=[]
  .have hb:(tp t==[])=true:=by rw[h2];rfl
   simp only[h,hb,decide_true,Xr,kY,yC,if_true,wSs,wS,wE]at q ⊢;exact q
  .have hb:(tp t==[])=false:=by simpa using h2
   simp only[hb,cg,if_false];exact fin (by rw[hb];simp)
 .simp only[h,decide_false,cg,if_false]
  exact fin (by simp[h])
def rC:dz:=fun ds μ Q=>∃ (t:List Nat) (n:Int),ds=[.str t]/\(kp t).length<=640/\intText? ⟨(kp t).toArray⟩=some n/\Q (.tup [.int n,.str (tp t)]) μ
def FN:List Str:=["word","parts"]
def Ge:Ss:=(.cons (.set 1 (.S5 "partition" (.var 0) (.cons (.cst (.str [58])) .nil))) (.cons (.ret (.tup (.cons (.blt "int" (.cons (.idx (.var 1) (.cst (.int 0))) .nil)) (.cons (.idx (.var 1) (.cst (.int 2))) .nil)))) .nil))
theorem Uh:Keeps FN Ge rC:=by rintro ds μ Q ⟨t,n,rfl,hl,hn,q⟩;simp only[Ge,FN,aC,bH,wSs,wS,wE,wEs,aX,aW,bh,aN,bB,aO,aJ,bA,bD];refine⟨wN _ (by decide) (by decide) _ _,aar ?_⟩;exact⟨n,⟨hl,hn⟩,by decide,q⟩
def Ag (x:Itm):List Nat:=if x.2=[]then jB x.1 else jB x.1++58::x.2
def Ac:dz:=fun ds μ Q=>∃ x:Itm,ds=[aK x]/\keyOk x.1/\wH x.2/\x.2.length<=1000/\Q (.str (Ag x)) μ
def Fz:List Str:=["item"]
def Gb:Ss:=(.cons (.ite (.cmp .Eq (.idx (.var 0) (.cst (.int 1))) (.cst (.str []))) (.cons (.ret (.blt "str" (.cons (.idx (.var 0) (.cst (.int 0))) .nil))) .nil) .nil) (.cons (.ret (.bin .Add (.bin .Add (.blt "str" (.cons (.idx (.var 0) (.cst (.int 0))) .nil)) (.cst (.str [58]))) (.idx (.var 0) (.cst (.int 1))))) .nil))
theorem pH (h:keyOk k):k.natAbs.log2<1920:=by
 by_cases h0:k.natAbs=0
 .rw[h0];decide
 .rw[W9 h0]
  have:=h.1;have:=h.2;have e:(10:Nat) ^ 40<=2 ^ 1920:=by decide+kernel
  lia
theorem Ue:Keeps Fz Gb Ac:=by
 rintro ds μ Q ⟨x,rfl,hk,ht,hl,q⟩;obtain⟨k,t⟩:=x;have i0:∀ (ν:Mem) (Q:QD),dM (aK (k,t)) (.int 0) ν Q=Q (.int k) ν:=fun ν Q=>rfl;have i1:∀ (ν:Mem) (Q:QD),dM (aK (k,t)) (.int 1) ν Q=Q (.str t) ν:=fun ν Q=>rfl;simp only[Gb,Fz,aC,bH,wSs,wS,wT,wE,wEs,aX,aW,bh,aN,bB,aO,aJ,bD,i0,i1,cP,fV];have hd:(jB k).length<=41:=vY hk.1 hk.2;have hl:t.length<=1000:=hl;refine⟨iB ht 60,rfl,?_⟩;rw[eq_str];unfold Ag at q;by_cases h:t=[]
 .subst h
  simp only[beq_self_eq_true,if_true,bQ]at q ⊢;exact⟨pH hk,q⟩
 .have hb:(t==[])=false:=by simpa using h
  simp only[hb,h,cg,if_false,bQ,jC]at q ⊢;refine⟨pH hk,by simp[lim];lia,by simp[lim]at hl ⊢;lia,?_⟩;simpa using q
theorem Oa (h:t∈tags):wH t/\t.length<=8/\58∉t/\32∉t/\zp (.str t)=true:=by
 have:∀ t∈tags,(t.all (·<1114112)&&decide (t.length<=8)&&decide (58∉t)&&decide (32∉t)&&zp (.str t))=true:=by decide
 have:=this t h;simp only[bM,decide_eq_true_eq]at this;exact⟨this.1.1.1.1,this.1.1.1.2,this.1.1.2,this.1.2,this.2⟩
theorem Zv (h:c=58∨c=32):c∉jB k:=fun z=>by have:=Va z;lia
theorem Ho (k:Int):wH (jB k):=lE.mpr fun c hc=>by have:=Va hc;lia
theorem Mx (h:cA x):kp (Ag x)=jB x.1/\tp (Ag x)=x.2/\(58∈Ag x<->x.2≠[]):=by
 obtain⟨k,t⟩:=x;unfold Ag;by_cases ht:t=[]
 .subst ht
  have:58∉jB k:=Zv (.inl rfl);simp[kp,tp,this]
 .obtain⟨h1,h2⟩:=aan (c:=58) (y:=t) (x:=jB k) (Zv (.inl rfl))
  have:58∈jB k++58::t:=by simp
  simp[kp,tp,ht,h1,h2]
theorem Ie (h:cA x):wH (Ag x)/\(Ag x).length<=50/\32∉Ag x/\Ag x≠[]:=by
 obtain⟨t1,t2,t3,t4,_⟩:=Oa h.2;obtain⟨k,t⟩:=x;have hd:=vY h.1.1 h.1.2;have d1:32∉jB k:=Zv (.inr rfl);have t4':¬32∈t:=t4;have t2':t.length<=8:=t2;have hd':(jB k).length<=41:=hd;unfold Ag;by_cases ht:t=[]
 .subst ht
  simp only[if_true];exact⟨Ho k,by lia,d1,al5 k⟩
 .simp only[ht,if_false]
  refine⟨vR (Ho k) (vR (a:=[58]) rfl t1),by simp;lia,?_,by simp⟩;simp[d1,t4']
theorem ahQ (h:cA x):aiL (Ag x)=true:=by
 obtain⟨h1,h2,h3⟩:=Mx h;obtain⟨_,_,_,_,t5⟩:=Oa h.2;unfold aiL;rw[h1,h2,aiY h.1.1 h.1.2,t5];by_cases ht:x.2=[]
 .have:58∉Ag x:=fun z=>h3.mp z ht
  simp[this]
 .simp[ht]
theorem ac7 (h:cA x) (q:Q (aK x) μ):rC [.str (Ag x)] μ Q:=by
 obtain⟨h1,h2,_⟩:=Mx h;refine⟨Ag x,x.1,rfl,?_,?_,?_⟩
 .rw[h1];have:=vY h.1.1 h.1.2;lia
 .rw[h1];exact Vb h.1.1 h.1.2
 .rw[h2];exact q
def txt (r:List Itm):List Nat:=dW [32] (r.map Ag)
theorem vL:∀ ws:List (List Nat),zY (ws.map D.str)=some ws
 |[]=>rfl|w::ws=>by simp[zY,vL ws]
theorem Oe:∀ {r:List Itm},(∀ x∈r,cA x)->((r.map Ag).map dR).sum<=50*r.length
 |[],_=>by simp|x::r,h=>by have:=Oe (r:=r) fun y hy=>h y (by simp[hy]);have:=(Ie (h x (by simp))).2.1;simp only[aX,yu,bh];lia
theorem aaE (h:∀ x∈r,cA x) (hl:r.length<=1000) (hd:cC μ d=some ((r.map Ag).map D.str)) (hns:∀ c,d≠.str c) (q:Q (.str (txt r)) μ):wC "join" (.str [32]) [d] μ Q:=by
 have e:wC "join" (.str [32]) [d] μ Q=Gp "join" (.str [32]) [d] μ Q:=rfl;rw[e];unfold Gp;simp only;split
 .rename_i c hc
  have:=Pn hc;exact absurd this.1 (hns _)
 .rename_i d' hd' hc
  have:=(Pn hc).1;subst this;rw[hd];simp only[lO,vL];refine⟨trivial,?_,q⟩;have:=Oe h;simp only[aR,bh,aN,lim];lia
 .rename_i h1 h2
  exact absurd rfl (h2 d)
theorem txt_nil (h:∀ x∈r,cA x):txt r=[]<->r=[]:=by
 constructor
 .intro e
  cases r with
  |nil=>rfl|cons x r=>
   have hx:=(Ie (h x (by simp))).2.2.2;unfold txt at e;cases r with
   |nil=>exact absurd e hx|cons y r=>simp only[aX,dW]at e;simp at e
 .rintro rfl;rfl
theorem J6:∀ {ws:List (List Nat)} {c:Nat},c∈dW sep ws->c∈sep∨∃ w∈ws,c∈w
 |[],c,h=>by simp[dW]at h|[w],c,h=>.inr ⟨w,by simp,h⟩|w::v::r,c,h=>by
  simp only[dW,iY]at h;rcases h with(h|h)|h
  .exact .inr ⟨w,by simp,h⟩
  .exact .inl h
  .rcases J6 h with h|⟨u,hu,hc⟩
   .exact .inl h
   .exact .inr ⟨u,by simp only[bC]at hu ⊢;exact .inr hu,hc⟩
theorem Wa (h:∀ x∈r,cA x):wH (txt r):=lE.mpr fun c hc=>by
 rcases J6 hc with h1|⟨w,hw,h1⟩
 .have:c=32:=by simpa using h1
  lia
 .obtain⟨x,hx,rfl⟩:=j9.mp hw
  exact lE.mp (Ie (h x hx)).1 c h1
theorem Uk:∀ (sep:List Nat) (ws:List (List Nat)),(dW sep ws).length<=(ws.map dR).sum+ws.length*sep.length
 |sep,[]=>by simp[dW]|sep,[w]=>by simp[dW]|sep,w::v::r=>by have:=Uk sep (v::r);simp only[dW,eO,aX,yu,bh,ado]at this ⊢;lia
theorem N6 (h:∀ x∈r,cA x):(txt r).length<=51*r.length:=by have h1:=Uk [32] (r.map Ag);have h2:=Oe h;unfold txt;simp at h1 h2 ⊢;lia
theorem S8 (h:t.length<lim) (q:Q (.lst ((cQ 32 t).map .str)) μ):wC "split" (.str t) [.str [32]] μ Q:=⟨⟨by decide,h⟩,false,q⟩
end DW.TX
namespace DW
open PySem
def QZ:List Str:=["script","k","here","number","j","part"]
def Rr:Ss:=(.cons (.set 2 (.bin .Add (.bin .Mult (.cst (.int 7919)) (.var 1)) (.cst (.int 13)))) (.cons (.ite (.cmp .Lt (.var 1) (.blt "len" (.cons (.var 0) .nil))) (.cons (.set 2 (.idx (.var 0) (.var 1))) .nil) .nil) (.cons (.ite (.cmp .Eq (.bin .Mod (.var 2) (.cst (.int 2))) (.cst (.int 0))) (.cons (.ret (.lst true (.cons (.bin .FloorDiv (.var 2) (.cst (.int 2))) .nil))) .nil) .nil) (.cons (.set 3 (.cst (.int 0))) (.cons (.for_ [4] false (.rng (.cons (.cst (.int 16)) .nil)) (.cons (.set 5 (.bin .Mod (.bin .Add (.bin .Add (.bin .Mult (.bin .Mod (.var 2) (.cst (.int 2147483647))) (.cst (.int 48271))) (.bin .Mult (.cst (.int 7919)) (.var 4))) (.cst (.int 1))) (.cst (.int 2147483647)))) (.cons (.set 5 (.bin .Mod (.bin .Mult (.var 5) (.var 5)) (.cst (.int 2147483629)))) (.cons (.set 3 (.bin .Add (.bin .Mult (.var 3) (.cst (.int 2147483647))) (.bin .Mod (.bin .Mult (.var 5) (.bin .Add (.var 5) (.cst (.int 13)))) (.cst (.int 2147483647))))) .nil)))) (.cons (.ret (.lst true (.cons (.var 3) .nil))) .nil))))))
theorem Nq (ns:List Int) (k c:Int) (μ:Mem) (Q:QD) (h:∀ b,Q (.loc μ.length) (μ++[.lst [.int b]])):
  wSs (.cons (.ite (.cmp .Eq (.bin .Mod (.var 2) (.cst (.int 2))) (.cst (.int 0))) (.cons (.ret (.lst true (.cons (.bin .FloorDiv (.var 2) (.cst (.int 2))) .nil))) .nil) .nil) (.cons (.set 3 (.cst (.int 0))) (.cons (.for_ [4] false (.rng (.cons (.cst (.int 16)) .nil)) (.cons (.set 5 (.bin .Mod (.bin .Add (.bin .Add (.bin .Mult (.bin .Mod (.var 2) (.cst (.int 2147483647))) (.cst (.int 48271))) (.bin .Mult (.cst (.int 7919)) (.var 4))) (.cst (.int 1))) (.cst (.int 2147483647)))) (.cons (.set 5 (.bin .Mod (.bin .Mult (.var 5) (.var 5)) (.cst (.int 2147483629)))) (.cons (.set 3 (.bin .Add (.bin .Mult (.var 3) (.cst (.int 2147483647))) (.bin .Mod (.bin .Mult (.var 5) (.bin .Add (.var 5) (.cst (.int 13)))) (.cst (.int 2147483647))))) .nil)))) (.cons (.ret (.lst true (.cons (.var 3) .nil))) .nil))))
   (bH Q) [some (.ro (ns.map D.int)),some (.int k),some (.int c),none,none,none] μ:=by
 simp[wSs,wS,wT,wE,wEs,wI,bH,jC,cP,flat,fV];by_cases hc:mq (.int (c%2)) (.int 0)=true
 .simp[hc,Nz,lim,newL,h]
 .simp only[hc,if_neg,cg,not_false_eq_true,Cq,m7]
  refine⟨by decide,by decide,?_⟩;refine cV (fun ds ρ μ'=>μ'=μ/\(∀ d∈ds,∃ i:Int,d= .int i/\0<=i/\i<1000)/\∃ v w x,ρ=[some (.ro (ns.map D.int)),some (.int k),some (.int c),some (.int v),w,x]) ?_ ?_ _ _ _ ⟨rfl,?_,0,none,none,rfl⟩
  .rintro d ds ρ μ' N hN ⟨rfl,hd,v,w,x,rfl⟩
   obtain⟨i,rfl,i0,i1⟩:=hd d (by simp);refine⟨trivial,?_⟩;simp[fB,jC];refine⟨.inr (by lia),.inl (by lia),?_⟩;generalize (c%2147483647*48271+7919*i+1)=z;(have hz0:0<=z%2147483647:=by lia);(have hz1:z%2147483647<2147483647:=by lia);refine⟨.inl (by lia),?_⟩;generalize z%2147483647*(z%2147483647)=y;(have hy0:0<=y%2147483629:=by lia);(have hy1:y%2147483629<2147483629:=by lia);refine⟨.inr (by lia),.inl (by lia),?_⟩;exact hN _ _ ⟨rfl,fun d q=>hd d (by simp[q]),_,_,_,rfl⟩
  .rintro ρ μ' ⟨rfl,-,v,w,x,rfl⟩
   refine⟨trivial,?_⟩;simp[lim,newL];exact h _
  .intro d hd
   simp only[fj,j9,Ds]at hd;obtain⟨j,hj,rfl⟩:=hd;exact⟨_,rfl,by lia,by lia⟩
theorem aiJ:Keeps QZ Rr vQ:=by
 intro ds μ Q h;unfold vQ at h;split at h
 .obtain⟨ns,rfl,hl,hk,h⟩:=h
  rename_i k;unfold Rr;rw[wSs,wS];simp only[QZ,aC,wE,jC,aX,aW,bh,aN,bB,aO,aJ,bA,bD,bZ,bY];refine⟨.inl (by lia),?_⟩;rw[wSs,wS];simp only[wT,wE,wEs,bQ,lenOf,aB,gR,aJ,bA,cP,M8,fV,aR];by_cases c:k<(ns.length:Int)
  .simp only[c,decide_true,if_true]
   have e:oV (ns.map D.int).length k=some k.toNat:=alJ hk (by simpa using c);(have h2:k.toNat<ns.length:=by lia);simp only[wSs,wS,wE,dM,aB,e,lO,aJ,bA,jy,dw h2,gR,bZ,bY];exact Nq ns k _ μ Q h
  .simp only[c,decide_false,cg,if_false]
   exact Nq ns k _ μ Q h
 .exact h.elim
def nxt (l:List Int):List Int:=match l with|[]=>[0]|a::r=>r.map (a+·)++[0]
end DW
namespace DW.Gn
open PySem DW DW.VD DW.TX DW.K25
def RT:List (List Nat):=[[114,111,119],[115,111,114,116,101,100],[108,111,97,100,115],[110,97,116,117,114,97,108],[99,104,111,115,101,110],[102,97,114],[112,111,117,114],[109,111,118,101,100],[108,101,118,101,108],[115,111,114,116],[100,101,101,100,115]]
noncomputable abbrev Z4:List Nat:=[114,111,119]
noncomputable abbrev ahA:List Nat:=[99,108,101,97,114]
noncomputable abbrev w_add:List Nat:=[97,100,100]
noncomputable abbrev xU:List Nat:=[114,111,111,109]
noncomputable abbrev ajY:List Nat:=[111,107]
noncomputable abbrev zQ:List Nat:=[99,104,111,115,101,110]
noncomputable abbrev NP:List Nat:=[112,111,117,114]
noncomputable abbrev Z5:List Nat:=[102,97,114]
def uh:dz:=fun ds μ Q=>∃ n:Nat,ds=[.loc n]/\Bk μ n/\∀ (x:Itm) b,cA x->Q (aK x) (bx μ n b)
noncomputable abbrev gP:dz:=Cz
def Bc:List Str:=["box","key"]
def Br:Ss:=(.cons (.set 1 (.bin .Sub (.call "_law_take" cj (.cons (.var 0) (.cons (.cst (.int 9)) .nil))) (.cst (.int 4)))) (.cons (.ite (.cmp .Eq (.call "_law_take" cj (.cons (.var 0) (.cons (.cst (.int 8)) .nil))) (.cst (.int 7))) (.cons (.set 1 (.bin .Sub (.call "_law_take" cj (.cons (.var 0) (.cons (.bin .Mult (.cst (.int 2)) (.bin .Pow (.cst (.int 10)) (.cst (.int 20)))) .nil))) (.bin .Pow (.cst (.int 10)) (.cst (.int 20))))) .nil) .nil) (.cons (.ret (.tup (.cons (.var 1) (.cons (.idx (.lst false (.cons (.cst (.str [])) (.cons (.cst (.str [])) (.cons (.cst (.str [97])) (.cons (.cst (.str [98])) (.cons (.cst (.str [97,98])) (.cons (.cst (.str [97,98,99,100,101,102,103,104])) .nil))))))) (.call "_law_take" cj (.cons (.var 0) (.cons (.cst (.int 6)) .nil)))) .nil)))) .nil)))
def JL:List Str:=["box","most"]
def Kd:Ss:=(.cons (.ret (.comp false 1 false [0] (.call "_law_item" uh (.cons (.var 1) .nil)) (.rng (.cons (.call "_law_take" cj (.cons (.var 0) (.cons (.bin .Add (.var 1) (.cst (.int 1))) .nil))) .nil)) .nil)) .nil)
def G4:List Str:=["one","other"]
def Hi:Ss:=(.cons (.ret (.or (.cmp .Lt (.idx (.var 0) (.cst (.int 0))) (.idx (.var 1) (.cst (.int 0)))) (.and (.cmp .Eq (.idx (.var 0) (.cst (.int 0))) (.idx (.var 1) (.cst (.int 0)))) (.cmp .Lt (.idx (.var 0) (.cst (.int 1))) (.idx (.var 1) (.cst (.int 1))))))) .nil)
def lq:List Str:=["row","found","item","at"]
def lA:Ss:=(.cons (.set 1 (.lst true .nil)) (.cons (.for_ [2] false (.seq (.var 0)) (.cons (.set 3 (.blt "len" (.cons (.var 1) .nil))) (.cons (.whl (.and (.cmp .Gt (.var 3) (.cst (.int 0))) (.call "_law_less" gP (.cons (.var 2) (.cons (.idx (.var 1) (.bin .Sub (.var 3) (.cst (.int 1)))) .nil)))) (.cons (.set 3 (.bin .Sub (.var 3) (.cst (.int 1)))) .nil)) (.cons (.exp (.meth "insert" (.var 1) (.cons (.var 3) (.cons (.var 2) .nil)))) .nil)))) (.cons (.ret (.Gh (.var 1))) .nil)))
theorem Rh:Keeps G4 Hi gP:=agl
theorem qJ:Keeps lq lA nJ:=fun ds μ Q h=>DW.qJ ds μ Q h
theorem Ri:Keeps Bc Br uh:=by
 rintro ds μ Q ⟨n,rfl,hb,h⟩;have tl:∀ (k:Int) (b1:Int),keyOk k->∀ (v:Option D),wSs (.cons (.ret (.tup (.cons (.var 1) (.cons (.idx (.lst false (.cons (.cst (.str [])) (.cons (.cst (.str [])) (.cons (.cst (.str [97])) (.cons (.cst (.str [98])) (.cons (.cst (.str [97,98])) (.cons (.cst (.str [97,98,99,100,101,102,103,104])) .nil))))))) (.call "_law_take" cj (.cons (.var 0) (.cons (.cst (.int 6)) .nil)))) .nil)))) .nil) (bH Q) [some (.loc n),some (.int k)] (bx μ n b1):=by
  intro k b1 hk v;have hb2:=lW (b:=b1) hb;simp[bH,wSs,wS,wE,wEs,dM,aB,newL,newR,lim,cj,hb2,aa1];intro d b d0 d6;have e:oV 6 d=some d.toNat:=by simp[oV,d0,d6]
  rw[e];have hd:d.toNat<6:=by lia
  simp only[lO];generalize d.toNat=j at hd
  match j,hd with
  |0,_=>exact h (k,[]) _ ⟨hk,show []∈tags by decide⟩|1,_=>exact h (k,[]) _ ⟨hk,show []∈tags by decide⟩|2,_=>exact h (k,[97]) _ ⟨hk,show [97]∈tags by decide⟩|3,_=>exact h (k,[98]) _ ⟨hk,show [98]∈tags by decide⟩|4,_=>exact h (k,[97,98]) _ ⟨hk,show [97,98]∈tags by decide⟩|5,_=>exact h (k,[97,98,99,100,101,102,103,104]) _ ⟨hk,show [97,98,99,100,101,102,103,104]∈tags by decide⟩
 unfold Br;rw[wSs,wS];simp[Bc,aC,wE,wEs,cj,hb,jC];intro d b d0 d9;have hb2:=lW (b:=b) hb;rw[wSs,wS];simp[wT,wE,wEs,cj,hb2,cP,flat,fV,aa1];intro d' b' d0' d8';have hb3:=lW (b:=b') hb;by_cases c:mq (.int d') (.int 7)=true
 .simp[c,wSs,wS,wE,wEs,cj,hb3,jC,ajU,ahn,aa1]
  intro a b2 a0 a1;have:=tl (a -100000000000000000000) b2 ⟨by lia,by lia⟩ none;simpa[wSs,wS,wE,wEs,cj]using this
 .simp only[c,if_neg,cg,not_false_eq_true]
  exact tl (d -4) b' ⟨by lia,by lia⟩ none
theorem Zg:Keeps JL Kd vP:=by
 intro ds μ Q h;unfold vP at h;split at h
 .obtain⟨hb,m0,m1,h⟩:=h
  rename_i n m;simp[Kd,JL,aC,bH,wSs,wS,wE,wEs,wI,wTs,jC,cj,hb,Cq,m7];refine⟨by lia,by lia,fun d b d0 d1=>⟨by simp only[lim];lia,by lia,?_⟩⟩;refine qd (fun ds acc μ'=>∃ (r:List Itm) (b:Int),acc=r.map aK/\μ'=bx μ n b/\(∀ x∈r,cA x)/\((r.length+ds.length:Nat):Int)<=m) ?_ ?_ _ _ _ ⟨[],b,rfl,rfl,by simp,?_⟩
  .rintro d ds acc μ' Y N hY hN ⟨r,b,rfl,rfl,hr,hl⟩
   have hb2:=lW (b:=b) hb;simp[bindC];refine⟨n,rfl,hb2,fun x b3 hx=>?_⟩;rw[aa1];refine hY _ _ ⟨r++[x],b3,by simp,rfl,?_,?_⟩
   .intro y hy
    simp at hy;rcases hy with hy|rfl
    .exact hr y hy
    .exact hx
   .simp at hl ⊢;lia
  .rintro acc μ' ⟨r,b,rfl,rfl,hr,hl⟩
   refine⟨trivial,?_⟩;simp[newL,newR];exact h _ _ (by simp at hl;lia) hr
  .simp[fj];lia
 .exact h.elim
def cJ (r:List Itm) (a b c:Int):Cell:=.ins "Desk" [("row",.lst (r.map aK)),("room",.int a),("width",.int b),("drives",.int c)]
def noX:QX:=fun _ _ _ _=>False
def Af:dz:=fun ds μ Q=>∃ n:Nat,ds=[.loc n]/\μ[n]?=some (.ins "Desk" [])/\Q .non (μ.set n (cJ [] 3 2 3))
def tW:dz:=fun ds μ Q=>∃ (n:Nat) (r:List Itm) (a b c:Int),ds=[.loc n]/\μ[n]?=some (cJ r a b c)/\(∀ x∈r,cA x)/\r.length<=1000/\Q (.str (txt r)) μ
def oY:dz:=fun ds μ Q=>∃ (n:Nat) (r m:List Itm) (a b c:Int),ds=[.loc n,.lst ((m.map Ag).map D.str)]/\μ[n]?=some (cJ r a b c)/\(∀ x∈m,cA x)/\r.length+m.length<=200/\Q (.str (jB ((r++m).length:Nat))) (μ.set n (cJ (r++m) a b c))
def mY:dz:=fun ds μ Q=>∃ (n:Nat) (r:List Itm) (a b c:Int) (m:Nat),ds=[.loc n,.str xU,.str (dg m)]/\μ[n]?=some (cJ r a b c)/\1<=m/\m<=50/\Q (.str ajY) (μ.set n (cJ r m b c))
def FP:List Str:=["self"]
def Gf:Ss:=(.cons (.qt "Desk" "row" (.var 0) (.lst false .nil)) (.cons (.qt "Desk" "room" (.var 0) (.cst (.int 3))) (.cons (.qt "Desk" "width" (.var 0) (.cst (.int 2))) (.cons (.qt "Desk" "drives" (.var 0) (.cst (.int 3))) .nil))))
def qC:List Str:=["self","words"]
def qL:Ss:=(.cons (.ite (.not (.blt "all" (.cons (.comp false 1 false [] (.call "is_item_text" sV (.cons (.var 0) .nil)) (.seq (.var 1)) .nil) .nil))) (.cons .Y4 .nil) .nil) (.cons (.ite (.cmp .Gt (.bin .Add (.blt "len" (.cons (.fld "Desk" "row" (.var 0)) .nil)) (.blt "len" (.cons (.var 1) .nil))) (.gbl "MOST_ITEMS" (.int 200))) (.cons .Y4 .nil) .nil) (.cons (.qt "Desk" "row" (.var 0) (.bin .Add (.fld "Desk" "row" (.var 0)) (.comp false 1 false [] (.call "read_item" rC (.cons (.var 0) .nil)) (.seq (.var 1)) .nil))) (.cons (.ret (.blt "str" (.cons (.blt "len" (.cons (.fld "Desk" "row" (.var 0)) .nil)) .nil))) .nil))))
def oG:List Str:=["self","word","text","number"]
def oM:Ss:=(.cons (.ite (.not (.call "are_figures" jD (.cons (.var 2) .nil))) (.cons .Y4 .nil) .nil) (.cons (.set 3 (.blt "int" (.cons (.var 2) .nil))) (.cons (.ite (.cmp .Eq (.var 1) (.cst (.str [114,111,111,109]))) (.cons (.exp (.call "check_room" eG (.cons (.var 3) .nil))) (.cons (.qt "Desk" "room" (.var 0) (.var 3)) .nil)) (.cons .Y4 .nil)) (.cons (.ret (.cst (.str [111,107]))) .nil))))
def Y8:List Str:=["self","line","words"]
def acU:Ss:=(.cons (.ite (.and (.cmp .Eq (.idx (.var 2) (.cst (.int 0))) (.cst (.str [97,100,100]))) (.cmp .Gt (.blt "len" (.cons (.var 2) .nil)) (.cst (.int 1)))) (.cons (.ret (.rW "Desk" "add_items" oY (.var 0) (.cons (.slc false (.var 2) (.cons (.cst (.int 1)) .nil) .nil) .nil))) .nil) .nil) (.cons (.ite (.and (.cmp .In (.idx (.var 2) (.cst (.int 0))) (.tup (.cons (.cst (.str [114,111,111,109])) (.cons (.cst (.str [119,105,100,116,104])) (.cons (.cst (.str [100,114,105,118,101,115])) .nil))))) (.cmp .Eq (.blt "len" (.cons (.var 2) .nil)) (.cst (.int 2)))) (.cons (.ret (.rW "Desk" "keep_number" mY (.var 0) (.cons (.idx (.var 2) (.cst (.int 0))) (.cons (.idx (.var 2) (.cst (.int 1))) .nil)))) .nil) .nil) (.cons .Y4 .nil)))
def acT (spA:qZ):Ss:=(.cons (.ite (.not (.isin (.var 1) "str")) (.cons .Y4 .nil) .nil) (.cons (.ite (.isin (.var 1) "ASKED" (some RT)) (.cons (.abt (.dsp "ASKED" RT spA (.var 1) (.cons (.var 0) .nil))) .nil) .nil) (.cons (.ite (.cmp .Eq (.var 1) (.cst (.str [99,108,101,97,114]))) (.cons (.qt "Desk" "row" (.var 0) (.lst false .nil)) (.cons (.ret (.cst (.str [48]))) .nil)) .nil) (.cons (.set 2 (.S5 "split" (.var 1) (.cons (.cst (.str [32])) .nil))) acU))))
def ajP (spA:qZ) (n:Nat) (r:List Itm) (a b c:Int) (line:List Nat) (μ:Mem) (Q:QD):Prop:=
 (RT.contains line=true/\spA [.str line,.loc n] μ Q noX)∨(line=ahA/\Q (.str [48]) (μ.set n (cJ [] a b c)))∨
 (∃ m:List Itm,line=w_add++32::txt m/\m≠[]/\(∀ x∈m,cA x)/\r.length+m.length<=200/\Q (.str (jB ((r++m).length:Nat))) (μ.set n (cJ (r++m) a b c)))∨
 (∃ m:Nat,line=xU++32::dg m/\1<=m/\m<=50/\Q (.str ajY) (μ.set n (cJ r m b c)))
def Wj (spA:qZ):dz:=fun ds μ Q=>∃ (n:Nat) (r:List Itm) (a b c:Int) (line:List Nat),ds=[.loc n,.str line]/\μ[n]?=some (cJ r a b c)/\ajP spA n r a b c line μ Q
theorem Ui:Keeps FP Gf Af:=by
 rintro ds μ Q ⟨n,rfl,hn,q⟩;have hs:∀ c,(Wv μ n c)[n]?=some c:=fun c=>by rw[eU];exact(bT.mp hn).1
 simp only[Gf,FP,aC,bH,wSs,wS,wE,wEs,newL,aX,aW,bh,aN,bB,aO,aJ,bD,lJ,dG,hn,hs,putD,List.set_set];simpa[lim,putD,cJ,hs,dG]using q
theorem Ei:Keeps qC qL oY:=by
 rintro ds μ Q ⟨n,r,m,a,b,c,rfl,hn,hm,hl,q⟩;have hs:∀ c,(Wv μ n c)[n]?=some c:=fun c=>by rw[eU];exact(bT.mp hn).1
 simp only[qL,qC,aC,bH,wSs,wS,wT,wE,wEs,wI,newL,aX,aW,bh,aN,bB,aO,aJ,bA,bD,mz];rw[jN];refine dI (D.str ∘ Ag) (fun _=>D.bl true) trivial _ _ ?_ ?_
 .intro x hx Y N z
  simp only[bindC,wTs,aJ,if_true,aeD];refine⟨Ag x,rfl,(Ie (hm x hx)).1,?_⟩;rw[ahQ (hm x hx)];exact z
 .rw[aO]
  have e1:allB (m.map fun _=>D.bl true)=some true:=by rw[K4 (fun _=>true)];simp
  simp only[bQ,cC,aB,lO,e1,fU,truth,kY,cg,if_false,iI,dG,hn,cJ,if_true,bF,lenOf,gR,aR,jC,cP,fV];simp only[show decide ((200:Int)<(r.length:Int)+(m.length:Int))=false from decide_eq_false (by lia),cg,if_false];refine dI (D.str ∘ Ag) aK trivial _ _ ?_ ?_
  .intro x hx Y N z
   simp only[bindC,wTs,aJ,if_true,aeD];exact ac7 (hm x hx) z
  .rw[aO]
   refine⟨by simp only[aR,lim];lia,?_⟩;simp only[lJ,dG,hn,cJ,if_true];refine⟨by simp,?_⟩;(have hk:keyOk ((r++m).length:Nat):=by simp only[keyOk,eO];lia);simp only[putD,adQ,if_false,if_true,hs,bF,<-m5,aR];refine⟨?_,?_⟩
   .simpa using pH hk
   .simpa[cJ]using q
theorem zj:Keeps oG oM mY:=by
 rintro ds μ Q ⟨n,r,a,b,c,m,rfl,hn,h1,h2,q⟩;have hf:=Zu (m:=m) (by lia);have hok:wH (dg m):=lE.mpr fun c hc=>by have:=vB hc;lia
 simp only[oM,oG,aC,bH,wSs,wS,wT,wE,wEs,newL,aX,aW,bh,aN,bB,aO,aJ,bA,bD,bZ,bY];refine⟨dg m,rfl,hok,?_⟩;simp only[hf,fU,truth,kY,cg,if_false,bQ];refine⟨m,⟨by have:=Er (m:=m) (by lia);lia,?_⟩,?_⟩
 .have:=Vb (k:=m) (by lia) (by lia)
  rwa[vC]at this
 .simp only[cP]
  refine⟨by decide,by decide,?_⟩;simp only[eq_str,fV,beq_self_eq_true,if_true];refine⟨m,rfl,by lia,by lia,?_⟩;simp only[lJ,dG,hn,cJ,if_true];refine⟨by simp,?_⟩;simpa[putD,cJ]using q
theorem akx (hx:∀ ρ,Z.xc ρ=noX) (hn:μ[n]?=some (cJ r a b c)) (h:ajP spA n r a b c line μ Z.rt):wSs (acT spA) Z [some (.loc n),some (.str line),v] μ:=by
 have hs:∀ c,(Wv μ n c)[n]?=some c:=fun c=>by rw[eU];exact(bT.mp hn).1
 simp only[acT,wSs,wS,wT,wE,wEs,aJ,bA,bZ,bY,tM,tyOf,Ls,beq_self_eq_true,adB,fV,kY,cg,if_false,VG,fU,truth];rcases h with⟨hc,h⟩|⟨rfl,h⟩|⟨m,rfl,m0,hm,hl,h⟩|⟨m,rfl,m1,m2,h⟩
 .rw[if_pos hc]
  simp only[wXC,wE,wEs,aJ,bA,isKey];refine⟨hc,?_⟩;rw[hx];exact h
 .rw[if_neg (by decide)]
  simp only[cP];refine⟨by decide,by decide,?_⟩;simp only[eq_str,beq_self_eq_true,if_true,newL,lJ,dG,hn,cJ];refine⟨by decide,by simp,?_⟩;simpa[putD,cJ]using h
 .have h0:txt m≠[]:=mt (txt_nil hm).mp m0
  rw[if_neg (by simp[RT])];have hok:wH (w_add++32::txt m):=vR (show wH _ from rfl) (vR (a:=[32]) (show wH _ from rfl) (Wa hm));simp only[cP];refine⟨iB hok 60,by decide,?_⟩;rw[eq_str,if_neg (by simp)];refine⟨wN _ (by decide) (by decide) _ _,S8 (by have:=N6 hm;simp only[lim,eO,bh,aN];lia) ?_⟩;have hsp:cQ 32 (w_add++32::txt m)=w_add::m.map Ag:=by rw[rB (by decide),txt,H7 (by simpa using m0) fun w hw=>?_];obtain⟨x,hx,rfl⟩:=j9.mp hw;exact(Ie (hm x hx)).2.2.1
  rw[hsp];have hm1:1<=m.length:=by cases m with|nil=>exact absurd rfl m0|cons=>simp
  simp only[acU,wSs,wS,wT,wE,wEs,wO,zR,aJ,bA,bZ,bY,aX,dM,aB,cP];have i0:oV (D.str w_add::(m.map Ag).map D.str).length 0=some 0:=by simp[oV]
  simp only[i0,lO,aJ];refine⟨by decide,by decide,?_⟩;simp only[eq_str,fV,beq_self_eq_true,if_true,bQ,lenOf,aB,gR,bh,aR];rw[if_pos (by simp;lia)];refine⟨by simp[iz,dG,hn,cJ,bF],?_⟩;simp only[Gq,newL];refine⟨n,r,m,a,b,c,?_,hn,hm,hl,h⟩;simp[cutD,kO,uw]
 .have hdg:∀ c∈dg m,48<=c/\c<=57:=fun c hc=>vB hc
  have h32:32∉dg m:=fun z=>by have:=hdg _ z;lia
  rw[if_neg (by simp[RT])];have hok:wH (xU++32::dg m):=vR (show wH _ from rfl) (vR (a:=[32]) (show wH _ from rfl) (lE.mpr fun c hc=>by have:=hdg c hc;lia));simp only[cP];refine⟨iB hok 60,by decide,?_⟩;rw[eq_str,if_neg (by simp)];refine⟨wN _ (by decide) (by decide) _ _,S8 (by have:=Er (m:=m) (by lia);simp only[lim,eO,bh,aN];lia) ?_⟩;have hsp:cQ 32 (xU++32::dg m)=[xU,dg m]:=by rw[rB (by decide),vM h32]
  rw[hsp];simp only[acU,wSs,wS,wT,wE,wEs,wO,zR,aJ,bA,bZ,bY,aX,aW,dM,aB,cP];have i0:oV [D.str xU,D.str (dg m)].length 0=some 0:=rfl;have i1:oV [D.str xU,D.str (dg m)].length 1=some 1:=rfl;simp only[i0,i1,lO,aJ,bA];refine⟨by decide,by decide,?_⟩;simp only[eq_str,fV];rw[if_neg (by decide)];refine⟨by decide,by decide,by decide,?_⟩;rw[if_pos (by decide)];simp only[bQ,lenOf,aB,gR,bh,aN];refine⟨by decide,by decide,?_⟩;rw[if_pos (by decide)];refine⟨by simp[iz,dG,hn,cJ,bF],n,r,a,b,c,m,rfl,hn,m1,m2,h⟩
end DW.Gn
namespace DW.K91
open PySem DW DW.VD DW.TX DW.K25 DW.Gn DW.CHO
def RowC (μ:Mem) (d:D) (r:List Itm):Prop:=d= .lst (r.map aK)∨∃ l,d= .loc l/\μ[l]?=some (.lst (r.map aK))
theorem RowC.walk (h:RowC μ d r) (q:∀ g:Mem->Prop,g μ->Q (r.map aK) g μ):mz d μ Q:=by
 rcases h with rfl|⟨l,rfl,h⟩
 .exact q _ trivial
 .simp only[mz,h]
  exact q _ h
theorem Oi:∀ (tk:List Tk) (run:List Itm),xT tk->(∀ x∈run,cA x)->∀ r∈fW tk run,∀ x∈r,cA x
 |[],run,_,_,r,hr=>by simp[fW]at hr|none::tk,run,h,hr',r,hr=>by
  simp only[fW,bC]at hr;rcases hr with rfl|hr
  .exact hr'
  .exact Oi tk [] (fun x hx=>h x (by simp[hx])) (by simp) r hr
 |some y::tk,run,h,hr',r,hr=>by
  simp only[fW]at hr;refine Oi tk (run++[y]) (fun x hx=>h x (by simp[hx])) (fun x hx=>?_) r hr;rcases iY.mp hx with hx|hx
  .exact hr' x hx
  .have:=cH.mp hx;subst this;exact h x (by simp)
theorem Ii:∀ (tk:List Tk) (run:List Itm),(fW tk run).length<=tk.length
 |[],run=>by simp[fW]|none::tk,run=>by have:=Ii tk [];simp only[fW,bh];lia|some y::tk,run=>by have:=Ii tk (run++[y]);simp only[fW,bh];lia
theorem ach (m1:1<=m) (m2:m<=50) (hok:∀ x∈row,cA x):∀ r∈lG row m,∀ x∈r,cA x:=by
 have go:=Bu row (lR m) (QW m1 m2) hok;refine Oi _ _ (fun x hx=>?_) (by simp);rcases iY.mp hx with hx|hx
 .exact go.2.1 x hx
 .exact(alW go.1).2 x hx
theorem Ik:∀ {r:List Itm},(∀ x∈r,cA x)->flats (n+1) (r.map aK)=true
 |[],_=>rfl|x::r,h=>by have hf:=ab1 (h x (by simp));have ih:=Ik (n:=n) (r:=r) fun y hy=>h y (by simp[hy]);simp only[aK,flat,flats,Xj,mR]at hf;simp only[aX,flats,aK,flat,Xj,mR,hf,ih]
theorem CN (h:∀ r∈rs,∀ x∈r,cA x):flat 60 (.lst (lM rs))=true:=by
 simp only[flat,lM];induction rs with
 |nil=>rfl|cons r rs ih=>have ih:=ih fun q hq=>h q (by simp[hq]);simp only[aX,flats,flat,Ik (h r (by simp)),ih,Xr]
theorem Mq {μ:Mem} {ls:List Nat} {rs:List (List Itm)} (hl:ls.length=rs.length) (h:∀ (i l:Nat) (r:List Itm),ls[i]?=some l->rs[i]?=some r->μ[l]?=some (.lst (r.map aK))):eY μ 8 (.lst (ls.map D.loc))= .lst (lM rs):=by
 rw[HN];congr 1;apply Jp;intro i;by_cases c:i<ls.length
 .have c':i<rs.length:=by lia
  have:=h i ls[i] rs[i] (dw c) (dw c');have e:=HS this 6;rw[SJ μ 6 aK (fun x=>aac μ 6 x)]at e;simp only[jy,dw c,gR,lM,dw c'];rw[e]
 .simp[lM,c,Jk c,hl▸c,show rs.length<=i by lia]
theorem G9 (ls:List Nat) (q:Nat):(oV ((ls++[q]).map D.loc).length (-1)).bind (((ls++[q]).map D.loc)[·]?)=some (.loc q):=by
 have e:oV ((ls++[q]).map D.loc).length (-1)=some ls.length:=by unfold oV;rw[if_neg (by decide),if_pos (by simp;lia)];congr 1;simp;lia
 rw[e,lO];simp
def jw:dz:=fun ds μ Q=>∃ (d:D) (r:List Itm),ds=[d]/\RowC μ d r/\(∀ x∈r,cA x)/\r.length<=1000/\Q (.str (txt r)) μ
def oE:List Str:=["row"]
def oJ:Ss:=(.cons (.ret (.S5 "join" (.cst (.str [32])) (.cons (.comp false 1 false [] (.call "show_item" Ac (.cons (.var 0) .nil)) (.seq (.var 0)) .nil) .nil))) .nil)
theorem zf:Keeps oE oJ jw:=by
 rintro ds μ Q ⟨d,r,rfl,hd,hr,hl,q⟩;simp only[oJ,oE,aC,bH,wSs,wS,wE,wEs,wI,newL,aX,aW,bh,aN,bB,aO,aJ,bD];refine⟨wN _ (by decide) (by decide) _ _,?_⟩;refine hd.walk fun g hg=>?_;refine dI aK (fun x=>D.str (Ag x)) hg _ _ ?_ ?_
 .intro x hx Y N z
  obtain⟨t1,t2,_⟩:=Oa (hr x hx).2;simp only[bindC,wTs,aJ,if_true];exact⟨x,rfl,(hr x hx).1,t1,by lia,z⟩
 .rw[aO]
  refine aaE hr hl (by simp[cC,aB,Dw]) (fun c=>by simp) q
def oA:List Str:=["desk"]
def oH:Ss:=(.cons (.ret (.call "show_row" jw (.cons (.fld "Desk" "row" (.var 0)) .nil))) .nil)
theorem zc:Keeps oA oH tW:=by rintro ds μ Q ⟨n,r,a,b,c,rfl,hn,hr,hl,q⟩;simp only[oH,oA,aC,bH,wSs,wS,wE,wEs,aX,aW,bh,aN,bB,aO,aJ,bD,iI,dG,hn,cJ,if_true,bF];exact⟨_,r,rfl,.inl rfl,hr,hl,q⟩
def CJ (rs:List (List Itm)):List Nat:=if rs=[]then [110,111,110,101]else dW [32,124,32] (rs.map txt)
theorem ajx (hd:cC μ d=some (ws.map D.str)) (hns:∀ c,d≠.str c) (hb:(ws.map dR).sum+ws.length*3<=lim) (q:Q (.str (dW [32,124,32] ws)) μ):wC "join" (.str [32,124,32]) [d] μ Q:=by
 have e:wC "join" (.str [32,124,32]) [d] μ Q=Gp "join" (.str [32,124,32]) [d] μ Q:=rfl;rw[e];unfold Gp;simp only;split
 .rename_i c hc
  have:=Pn hc;exact absurd this.1 (hns _)
 .rename_i d' hd' hc
  have:=(Pn hc).1;subst this;rw[hd];simp only[lO,vL];exact⟨trivial,by simpa using hb,q⟩
 .rename_i h1 h2
  exact absurd rfl (h2 d)
def Rows (μ:Mem) (ls:List Nat) (rs:List (List Itm)):Prop:=ls.length=rs.length/\∀ (i l:Nat) (r:List Itm),ls[i]?=some l->rs[i]?=some r->μ[l]?=some (.lst (r.map aK))
def Small (rs:List (List Itm)):Prop:=rs.length<=300/\∀ r∈rs,(∀ x∈r,cA x)/\r.length<=300
theorem Od:∀ {rs:List (List Itm)},(∀ r∈rs,(∀ x∈r,cA x)/\r.length<=300)->((rs.map txt).map dR).sum<=15300*rs.length
 |[],_=>by simp|r::rs,h=>by have:=Od (rs:=rs) fun y hy=>h y (by simp[hy]);have h1:=h r (by simp);have:=N6 h1.1;simp only[aX,yu,bh];lia
theorem Rows.zip (h:Rows μ ls rs):ls.map D.loc=(ls.zip rs).map (fun p=>D.loc p.1)/\(ls.zip rs).map (fun p=>D.str (txt p.2))=(rs.map txt).map D.str/\∀ p∈ls.zip rs,p.2∈rs/\RowC μ (.loc p.1) p.2:=by
 have e1:(ls.zip rs).map Ow=ls:=X3 (by rw[h.1];exact aA _);have e2:(ls.zip rs).map Wu=rs:=Qi (by rw[h.1];exact aA _);refine⟨?_,?_,fun p hp=>?_⟩
 .conv=>lhs;rw[<-e1]
  rw[jN];rfl
 .conv=>rhs;rw[<-e2]
  rw[jN,jN];rfl
 .obtain⟨i,hi⟩:=Yv.mp hp
  obtain⟨h1,h2⟩:=afk.mp hi;exact⟨pC h2,.inr ⟨_,rfl,h.2 i _ _ h1 h2⟩⟩
def iK:dz:=fun ds μ Q=>∃ (n:Nat) (ls:List Nat) (rs:List (List Itm)),ds=[.loc n]/\μ[n]?=some (.lst (ls.map D.loc))/\Rows μ ls rs/\Small rs/\Q (.str (CJ rs)) μ
def Fy:List Str:=["runs"]
def Ga:Ss:=(.cons (.ret (.ife (.var 0) (.S5 "join" (.cst (.str [32,124,32])) (.cons (.comp false 1 false [] (.call "show_row" jw (.cons (.var 0) .nil)) (.seq (.var 0)) .nil) .nil)) (.cst (.str [110,111,110,101])))) .nil)
theorem Ud:Keeps Fy Ga iK:=by
 rintro ds μ Q ⟨n,ls,rs,rfl,hn,hR,hS,q⟩;simp only[Ga,Fy,aC,bH,wSs,wS,wT,wE,wEs,wI,newL,aX,aW,bh,aN,bB,aO,aJ,bD,fU,truth,lenOf,aB,hn,gR,aR,mz];obtain⟨z1,z2,z3⟩:=hR.zip;by_cases e:rs=[]
 .have e0:ls.length=0:=by rw[hR.1,e];rfl
  rw[CJ,if_pos e]at q;simpa[e0]using q
 .have e0:(ls.length !=0)=true:=by have:rs.length≠0:=fun z=>e (YS z);rw[hR.1];simpa using this
  rw[CJ,if_neg e]at q;simp only[e0,if_true];refine⟨wN _ (by decide) (by decide) _ _,?_⟩;rw[z1];refine dI (fun p:Nat×List Itm=>D.loc p.1) (fun p=>D.str (txt p.2)) (by rw[<-z1];exact hn) _ _ ?_ ?_
  .intro p hp Y N z
   obtain⟨y1,y2⟩:=z3 p hp;simp only[bindC,wTs,aJ,if_true];exact⟨_,p.2,rfl,y2,(hS.2 _ y1).1,by have:=(hS.2 _ y1).2;lia,z⟩
  .rw[aO,z2]
   refine ajx rfl (fun c=>by simp) ?_ q;have:=Od hS.2;have:=hS.1;simp only[aR,lim];lia
theorem sG (m1:1<=m) (m2:m<=50) (hok:∀ x∈row,cA x) (hl:row.length<=60):Small (lG row m):=by
 have go:=Bu row (lR m) (QW m1 m2) hok;have hf:=agK go.1;have ht:(Fj row m).length<=300:=by unfold Fj;rw[eO];have:=go.2.2;lia
 refine⟨gD (Ii _ _) ht,fun r hr=>⟨ach m1 m2 hok r hr,?_⟩⟩;have:=Oj _ _ r hr;simp at this;lia
def tZ:dz:=fun ds μ Q=>∃ (n:Nat) (r:List Itm) (m:Nat) (b c:Int),ds=[.loc n]/\μ[n]?=some (cJ r (m:Int) b c)/\(∀ x∈r,cA x)/\r.length<=60/\1<=m/\m<=50/\∀ μ' n' ls,Pre μ μ'->LL μ' μ.length n' ls (lG r m)->Q (.loc n') μ'
def xG:List Str:=["desk"]
def xO:Ss:=(.cons (.ret (.call "chosen" Mu (.cons (.fld "Desk" "row" (.var 0)) (.cons (.fld "Desk" "room" (.var 0)) .nil)))) .nil)
theorem Lp:Keeps xG xO tZ:=by rintro ds μ Q ⟨n,r,m,b,c,rfl,hn,hr,hl,m1,m2,q⟩;simp only[xO,xG,aC,bH,wSs,wS,wE,wEs,aX,aW,bh,aN,bB,aO,aJ,bD,iI,dG,hn,cJ,if_true,bF];exact⟨r,m,rfl,by lia,m1,m2,hr,q⟩
def tX:dz:=fun ds μ Q=>∃ (n:Nat) (r:List Itm) (m:Nat) (b c:Int),ds=[.loc n]/\μ[n]?=some (cJ r (m:Int) b c)/\(∀ x∈r,cA x)/\r.length<=60/\1<=m/\m<=50/\∀ μ',Pre μ μ'->Q (.str (CJ (lG r m))) μ'
def xr:List Str:=["desk"]
def xK:Ss:=(.cons (.ret (.call "show_runs" iK (.cons (.call "chosen_runs" tZ (.cons (.var 0) .nil)) .nil))) .nil)
theorem Lk:Keeps xr xK tX:=by rintro ds μ Q ⟨n,r,m,b,c,rfl,hn,hr,hl,m1,m2,q⟩;simp only[xK,xr,aC,bH,wSs,wS,wE,wEs,aX,aW,bh,aN,bB,aO,aJ,bD];refine⟨n,r,m,b,c,rfl,hn,hr,hl,m1,m2,fun μ' n' ls hp hL=>?_⟩;exact⟨n',ls,_,rfl,hL.at_,⟨hL.len,hL.row⟩,sG m1 m2 hr hl,q μ' hp⟩
def vO:dz:=fun ds μ Q=>∃ (d:D) (r:List Itm),ds=[d]/\RowC μ d r/\(∀ x∈r,cA x)/\r.length<=1000/\Q (.str (txt r)) μ
def TY:List Str:=["row"]
def UG:Ss:=(.cons (.ret (.S5 "join" (.cst (.str [32])) (.cons (.comp false 2 true [] (.bin .Add (.bin .Add (.blt "str" (.cons (.var 0) .nil)) (.bin .Mult (.cst (.str [58])) (.blt "int" (.cons (.cmp .NotEq (.var 1) (.cst (.str []))) .nil)))) (.var 1)) (.seq (.var 0)) .nil) .nil))) .nil)
theorem agn:Keeps TY UG vO:=by
 rintro ds μ Q ⟨d,r,rfl,hd,hr,hl,q⟩;simp only[UG,TY,aC,bH,wSs,wS,wE,wEs,wI,newL,aX,aW,bh,aN,bB,aO,aJ,bD];refine⟨wN _ (by decide) (by decide) _ _,?_⟩;refine hd.walk fun g hg=>?_;refine dI aK (fun x=>D.str (Ag x)) hg _ _ ?_ ?_
 .intro x hx Y N z
  have hz:=hr x hx;obtain⟨t1,t2,_⟩:=Oa hz.2;have hd:=vY hz.1.1 hz.1.2;obtain⟨k,t⟩:=x;have t2':t.length<=8:=t2;have hd':(jB k).length<=41:=hd;simp only[bindC,aK,wTs,aX,aW,bB,aO,bh,aN,aJ,bA,if_true,bQ,cP];refine⟨trivial,pH hz.1,iB t1 60,rfl,?_⟩;rw[eq_str];by_cases h:t=[]
  .subst h
   have e:∀ Q:QD,jC .Mult (.str [58]) (.int (if(!(([]:List Nat)==[]))=true then 1 else 0)) μ Q=(((0:Int)<=0/\(0:Int)<=1000/\1<=1/\1<=1000)/\Q (.str []) μ):=fun Q=>rfl;rw[e];refine⟨by decide,?_⟩;simp only[jC,pX];exact⟨by simp[lim];lia,by simp[lim];lia,by simpa[Ag]using z⟩
  .have hb:(!(t==[]))=true:=by simpa using h
   (have e:∀ Q:QD,jC .Mult (.str [58]) (.int (if(!(t==[]))=true then 1 else 0)) μ Q=(((0:Int)<=1/\(1:Int)<=1000/\1<=1/\1<=1000)/\Q (.str [58]) μ):=fun Q=>by rw[hb];rfl);rw[e];refine⟨by decide,?_⟩;simp only[jC];refine⟨by simp[lim];lia,by simp[lim];lia,?_⟩;simpa[Ag,h]using z
 .rw[aO]
  refine aaE hr hl (by simp[cC,aB,Dw]) (fun c=>by simp) q
noncomputable abbrev gP:=Gn.gP
def Ia:dz:=fun ds μ Q=>∃ (row:List Itm) (m:Nat),ds=[.lst (row.map aK),.int (m:Int)]/\row.length<=60/\1<=m/\m<=50/\(∀ x∈row,cA x)/\∀ μ' ls,Pre μ μ'->Rows μ' ls (lG row m)->Q (.lst (ls.map D.loc)) μ'
def M5:List Str:=["row","room","waiting","kept","found","may","least","at"]
def ahJ:Ss:=(.cons (.set 6 (.idx (.call "_law_sorted" nJ (.cons (.var 5) .nil)) (.cst (.int 0)))) (.cons (.exp (.meth "append" (.idx (.var 4) (.neg (.cst (.int 1)))) (.cons (.var 6) .nil))) (.cons (.set 7 (.S5 "index" (.var 3) (.cons (.var 6) .nil))) (.cons (.set 3 (.bin .Add (.bin .Add (.slc false (.var 3) .nil (.cons (.var 7) .nil)) (.slc false (.var 3) (.cons (.bin .Add (.var 7) (.cst (.int 1))) .nil) .nil)) (.slc false (.var 2) .nil (.cons (.cst (.int 1)) .nil)))) (.cons (.set 2 (.slc false (.var 2) (.cons (.cst (.int 1)) .nil) .nil)) .nil)))))
def ake:Ss:=(.cons (.ite (.cmp .Eq (.var 5) (.lst false .nil)) (.cons (.exp (.meth "append" (.var 4) (.cons (.lst true .nil) .nil))) (.cons (.set 5 (.var 3)) .nil)) .nil) ahJ)
def amw:Ss:=(.cons (.set 5 (.lst false .nil)) (.cons (.ite (.cmp .NotEq (.var 4) (.lst false .nil)) (.cons (.set 5 (.comp false 1 false [4] (.var 0) (.seq (.var 3)) (.cons (.not (.call "_law_less" gP (.cons (.var 0) (.cons (.idx (.idx (.var 1) (.neg (.cst (.int 1)))) (.neg (.cst (.int 1)))) .nil)))) .nil))) .nil) .nil) ake))
def Nk:Ss:=(.cons (.set 2 (.blt "list" (.cons (.var 0) .nil))) (.cons (.set 3 (.slc false (.var 2) .nil (.cons (.var 1) .nil))) (.cons (.set 2 (.slc false (.var 2) (.cons (.var 1) .nil) .nil)) (.cons (.set 4 (.lst true .nil)) (.cons (.whl (.cmp .NotEq (.var 3) (.lst false .nil)) amw) (.cons (.ret (.Gh (.var 4))) .nil))))))
structure FL (μ0 μ:Mem) (n:Nat) (ls:List Nat) (rs:List (List Itm)):Prop where
 pre:Pre μ0 μ
 lo:μ0.length<=n
 at_:μ[n]?=some (.lst (ls.map D.loc))
 rw:Rows μ ls rs
 nd:ls.Nodup
 ne:∀ l∈ls,μ0.length<=l/\l≠n
theorem FL.app (h:FL μ0 μ n ls rs) (ν:Mem):FL μ0 (μ++ν) n ls rs:=
 ⟨h.pre.trans (Pre.app _ _),h.lo,(Pre.app _ _).get h.at_,⟨h.rw.1,fun i l r a b=>(Pre.app _ _).get (h.rw.2 i l r a b)⟩,h.nd,h.ne⟩
theorem FL.new (h:FL μ0 μ n ls rs):FL μ0 ((μ++[Cell.lst []]).set n (.lst ((ls++[μ.length]).map D.loc))) n (ls++[μ.length]) (rs++[[]]):=by
 have hn:n<μ.length:=(bT.mp h.at_).1;have hll:∀ l∈ls,l<μ.length:=fun l hl=>by
  obtain⟨i,hi⟩:=Yv.mp hl;have hi':=(bT.mp hi).1;have hi2:i<rs.length:=by rw[<-h.rw.1];exact hi'
  exact(bT.mp (h.rw.2 i l rs[i] hi (dw hi2))).1
 refine⟨(h.pre.trans (Pre.app _ _)).set _ h.lo,h.lo,by rw[eU (by simp;lia)],⟨by simp[h.rw.1],fun i l r a b=>?_⟩,?_,fun l hl=>?_⟩
 .have hl:=h.rw.1
  by_cases c:i<ls.length
  .rw[dU c]at a
   rw[dU (by lia)]at b;have:=h.rw.2 i l r a b;have hln:=(h.ne l (pC a)).2;rw[cU (bL hln)];exact(Pre.app _ _).get this
  .have hi:i=ls.length:=by have:=(bT.mp a).1;simp at this;lia
   subst hi;(have a':μ.length=l:=by simpa using a);(have b':r=[]:=by rw[hl]at b;simpa using b.symm);subst a' b';rw[cU (by lia)];simp
 .rw[Ye]
  exact⟨h.nd,by simp,fun a ha b hb e=>by simp at hb;subst hb;subst e;exact jg _ (hll _ ha)⟩
 .rcases iY.mp hl with hl|hl
  .exact h.ne l hl
  .simp at hl;subst hl
   exact⟨h.pre.1,by lia⟩
theorem FL.add (h:FL μ0 μ n (ls++[l]) (rs++[r])) (x:Itm):FL μ0 (μ.set l (.lst ((r++[x]).map aK))) n (ls++[l]) (rs++[r++[x]]):=by
 have hl0:ls.length=rs.length:=by have:=h.rw.1;simpa using this
 have hlr:=h.rw.2 ls.length l r (by simp) (by rw[hl0];simp);have hll:=(bT.mp hlr).1;obtain⟨h1,h2⟩:=h.ne l (by simp);refine⟨h.pre.set _ h1,h.lo,by rw[cU h2];exact h.at_,⟨by simp[hl0],fun i k q a b=>?_⟩,h.nd,h.ne⟩;by_cases c:i<ls.length
 .have a0:=a
  rw[dU c]at a;rw[dU (by lia)]at b;have hk:l≠k:=fun e=>by have:=(Ye.mp h.nd).2.2 k (pC a) l (by simp);exact this e.symm
  rw[cU hk];exact h.rw.2 i k q a0 (by rw[dU (by lia)];exact b)
 .have hi:i=ls.length:=by have:=(bT.mp a).1;simp at this;lia
  subst hi;have a':l=k:=by simpa using a
  have b':r++[x]=q:=by rw[hl0]at b;simpa using b
  subst a' b';rw[eU hll]
theorem ZK {xs:List Itm} {j:Nat}:cutD (xs.map aK) (some (j:Int)) none=(xs.drop j).map aK:=by
 simp only[cutD,kO,aR];rw[if_neg (by lia),Jm];by_cases h:j<=xs.length
 .rw[yD h,uw (by simp),Pq]
 .rw[XS (by lia),Yx (by simp),Yx (by lia)]
  simp
theorem Hq {xs:List Itm} {j:Nat}:cutD (xs.map aK) none (some (j:Int))=(xs.take j).map aK:=by
 simp only[cutD,kO,Xx,Xf,aR];rw[if_neg (by lia),Jm,Jf];by_cases h:j<=xs.length
 .rw[yD h]
 .rw[XS (by lia),uw (by simp),uw (by simp;lia)]
theorem abn (h:l≠[]):(GX l)[0]?=some (bK l):=by
 have hp:=SQ l;have hr:=H6 l;cases e:GX l with
 |nil=>exact absurd (by rw[e]at hp;exact hp.symm.eq_nil) h|cons a t=>
  rw[e]at hp hr;have ha:a∈l:=hp.mem_iff.mp (by simp);have:=Ua ha fun z hz=>by
   have hz':=hp.mem_iff.mpr hz;rcases bC.mp hz' with rfl|hz'
   .exact Bg _
   .exact(yM.mp hr).1 z hz'
  simp[this]
theorem Rk:lX ((a::l).map aK)=none:=by simp[aK,lX]
theorem ahI {Z:j6} {μ0 μ:Mem} {n l m:Nat} {row ws:List Itm} {ls:List Nat} {rs:List (List Itm)} {r:List Itm} {c:Ch} {a6 a7:Option D} (hk:c.kept≠[]) (hkl:c.kept.length<=60) (hwl:ws.length<=60)
  (h:FL μ0 μ n (ls++[l]) (rs++[r])) (hrl:r.length<=1000)
  (hZ:∀ μ' a5 a6 a7,FL μ0 μ' n (ls++[l]) (rs++[r++[bK (src c)]])->Z.nx [some (.lst (row.map aK)),some (.int (m:Int)),some (.lst ((ws.drop 1).map aK)),some (.lst (((outF c).2.kept++ws.take 1).map aK)),some (.loc n),a5,a6,a7] μ'):
  wSs ahJ Z [some (.lst (row.map aK)),some (.int (m:Int)),some (.lst (ws.map aK)),some (.lst (c.kept.map aK)),some (.loc n),some (.lst ((src c).map aK)),a6,a7] μ:=by
 have hsl:(src c).length<=c.kept.length:=by
  unfold src able;split
  .exact aA _
  .exact aeW _ _
 simp only[ahJ,wSs,wS,wE,wEs,aJ,bA,bZ,bY];refine⟨src c,rfl,by lia,?_⟩;have h1:=h.app [.gone];have e0:((oV ((GX (src c)).map aK).length 0).bind (((GX (src c)).map aK)[·]?))=some (aK (bK (src c))):=by
  have hp:0<((GX (src c)).map aK).length:=by rw[aR,aag];exact Yn.mpr (Og hk)
  have:oV ((GX (src c)).map aK).length 0=some 0:=by unfold oV;rw[if_pos (by decide),if_pos (by simpa using hp)];rfl
  rw[this,lO,jy,abn (Og hk)];rfl
 simp only[dM,aB,e0];generalize μ++[Cell.gone]=μ1 at h1;have hat:=h1.at_;have el:=G9 ls l;simp only[hat,el];have hl0:ls.length=rs.length:=by have:=h1.rw.1;simpa using this
 have hlr:=h1.rw.2 ls.length l r (by simp) (by rw[hl0];simp);refine⟨by simp[isCell,hlr],?_⟩;simp only[dB,hlr,bU,aR];refine⟨by simp only[lim];lia,?_⟩;have h2:=h1.add (bK (src c));rw[show(r.map aK++[aK (bK (src c))])=(r++[bK (src c)]).map aK by simp];generalize μ1.set l (.lst ((r++[bK (src c)]).map aK))=μ2 at h2;refine⟨by simp[Lw,txM,Uq],?_⟩;have hm:=Av hk;obtain⟨j,j1,j2,j3⟩:=U6 hm;have hj:j<c.kept.length:=(bT.mp j1).1;have ei:((cC μ2 (.lst (c.kept.map aK))).bind lX)=none:=by
  cases hc:c.kept with
  |nil=>exact absurd hc hk|cons a t=>simp only[cC,aB,lO];exact Rk
 have es:∀ Q:QD,wC "index" (.lst (c.kept.map aK)) [aK (bK (src c))] μ2 Q=acA "index" (.lst (c.kept.map aK)) [aK (bK (src c))] μ2 Q:=fun Q=>rfl;rw[es];unfold acA;rw[ei];refine⟨rfl,c.kept,bK (src c),j,rfl,rfl,j1,j2,?_⟩;simp only[wO,wE,zR,Gq,newL,jC,aJ,bA,bZ,bY];have f1:cutD (c.kept.map aK) none (some (j:Int))=(c.kept.take j).map aK:=Hq;have f2:cutD (c.kept.map aK) (some ((j:Int)+1)) none=(c.kept.drop (j+1)).map aK:=by have:=ZK (xs:=c.kept) (j:=j+1);simpa using this
 have f3:cutD (ws.map aK) none (some 1)=(ws.take 1).map aK:=Hq (j:=1);have f4:cutD (ws.map aK) (some 1) none=(ws.drop 1).map aK:=ZK (j:=1);simp only[f1,f2,f3,f4,<-m5,j3];refine⟨by simp only[lim,aR,qw,Dv];lia,?_,?_⟩
 .simp only[lim,aR,eO,qw]
  have:(c.kept.erase (bK (src c))).length<=c.kept.length:=List.length_erase_le;lia
 .exact hZ _ _ _ _ h2
theorem Um {l:List Itm} (h:∀ x∈l,cA x):flat 60 (.lst (l.map aK))=true:=by simp only[flat];exact Ik h
theorem eq_nil (l:List Itm):mq (.lst (l.map aK)) (.lst [])=l.isEmpty:=by
 cases l with
 |nil=>rfl|cons a l=>simp[mq,Lx]
theorem aat {l:List Itm} {μ:Mem} {Q:QD} (h:∀ x∈l,cA x) (q:Q (.bl (!l.isEmpty)) μ):cP .NotEq (.lst (l.map aK)) (.lst []) μ Q:=by refine⟨Um h,rfl,?_⟩;rw[eq_nil];exact q
structure At (row:List Itm) (m:Nat) (c:Ch) (ws:List Itm) (rs:List (List Itm)) (n:Nat):Prop where
 len:c.kept.length+ws.length<=n
 le:n<=60
 kok:∀ x∈c.kept,cA x
 dJ:∀ x∈ws,cA x
 st:(c.last=none/\rs=[]/\Ru n c ws=Ru row.length (c0 row m) (row.drop m))∨
  ∃ cl op l tk,c.last=some l/\rs=cl++[op++[l]]/\tk.foldl SN ([],[])=(cl,op++[l])/\tk++Ru n c ws=Ru row.length (c0 row m) (row.drop m)/\cA l/\cl.length+op.length+1<=2*(60 -n)
theorem At.fin (m1:1<=m) (h:At row m c ws rs n) (hk:c.kept=[]):rs=lG row m:=by
 have hg:Ru n c ws=[]:=by
  cases n with
  |zero=>rfl|succ n=>rw[Ru,if_pos hk]
 unfold lG;rw[ahK m1];rcases h.st with⟨h1,h2,h3⟩|⟨cl,op,l,tk,h1,h2,h3,h4,-⟩
 .rw[hg]at h3
  by_cases e:row=[]
  .rw[if_pos e,h2];rfl
  .exfalso
   (have hl:1<=row.length:=by cases row with|nil=>exact absurd rfl e|cons=>simp);have hk:(c0 row m).kept≠[]:=fun z=>by have z:row.take m=[]:=z;have:=congrArg dR z;rw[qw]at this;simp only[aN]at this;lia
   obtain⟨k,hk'⟩:∃ k,row.length=k+1:=⟨row.length -1,by lia⟩;rw[hk',Ru,if_neg hk]at h3;simp[outF]at h3
 .rw[hg,pX]at h4
  have e:row≠[]:=by rintro rfl;simp[Ru]at h4;subst h4;simp at h3
  rw[if_neg e,<-h4];have:=CG tk [] [];rw[aO,h3]at this;rw[this,h2]
theorem At.step (h:At row m c ws rs (n+1)) (hk:c.kept≠[]):
  ∃ pre r,(if able c=[]∨c.last=none then rs++[[]]else rs)=pre++[r]/\r.length<=1000/\At row m ⟨c.room,(outF c).2.kept++ws.take 1,(outF c).2.last⟩ (ws.drop 1) (pre++[r++[bK (src c)]]) n:=by
 have ol:=lC hk;have hl:=h.len;have hle:=h.le;have ok:∀ x∈(outF c).2.kept,cA x:=fun x hx=>h.kok x (aeX hx);have hx:cA (bK (src c)):=h.kok _ (Av hk);have k1:∀ x∈(outF c).2.kept++ws.take 1,cA x:=fun x hx=>(iY.mp hx).elim (ok x) fun hx=>h.dJ x (Qw hx);have k2:∀ x∈ws.drop 1,cA x:=fun x hx=>h.dJ x (DK hx);have k3:((outF c).2.kept++ws.take 1).length+(ws.drop 1).length<=n:=by simp only[eO,qw,Dv];lia
 have hg:Ru (n+1) c ws=(outF c).1++Ru n ⟨c.room,(outF c).2.kept++ws.take 1,(outF c).2.last⟩ (ws.drop 1):=by rw[Ru,if_neg hk]
 rcases h.st with⟨h1,h2,h3⟩|⟨cl,op,l,tk,h1,h2,h3,h4,h5,h6⟩
 .have ha:able c=c.kept:=by unfold able;rw[h1];exact Qu.mpr fun x _=>rfl
  have ho:(outF c).1=[some (bK (src c))]:=by unfold outF;rw[if_neg (by rw[ha];exact hk)];rfl
  rw[if_pos (.inr h1),h2];refine⟨[],[],rfl,by simp,k3,by lia,k1,k2,.inr ⟨[],[],bK (src c),[some (bK (src c))],rfl,rfl,rfl,?_,hx,by simp;lia⟩⟩;rw[hg,ho]at h3;exact h3
 .rw[hg,<-qy]at h4
  by_cases ha:able c=[]
  .have ho:(outF c).1=[none,some (bK (src c))]:=by unfold outF;rw[if_pos ha];rfl
   rw[if_pos (.inl ha),h2];refine⟨cl++[op++[l]],[],rfl,by simp,k3,by lia,k1,k2,.inr ⟨cl++[op++[l]],[],bK (src c),tk++[none,some (bK (src c))],rfl,rfl,?_,?_,hx,by simp;lia⟩⟩
   .rw[Jo,h3];rfl
   .rw[<-ho];exact h4
  .have ho:(outF c).1=[some (bK (src c))]:=by unfold outF;rw[if_neg ha];rfl
   rw[if_neg (by rw[h1];simp[ha]),h2];refine⟨cl,op++[l],rfl,by simp;lia,k3,by lia,k1,k2,.inr ⟨cl,op++[l],bK (src c),tk++[some (bK (src c))],rfl,rfl,?_,?_,hx,by simp;lia⟩⟩
   .rw[Jo,h3];rfl
   .rw[<-ho];exact h4
theorem abQ:Keeps M5 Nk Ia:=by
 rintro ds μ Q ⟨row,m,rfl,hl,m1,m2,hok,h⟩;simp only[Nk,M5,aC,bH,wSs,wS,wE,wEs,wO,zR,Gq,newL,bQ,aB,aX,aW,bh,aN,bB,aO,aJ,bA,bD,bZ,bY,Hq,ZK];refine⟨by decide,?_⟩;have hF:FL μ (μ++[Cell.lst []]) μ.length [] []:=⟨Pre.app _ _,aA _,by simp,⟨rfl,fun i l r a=>by simp at a⟩,XD,by simp⟩;have hA:At row m (c0 row m) (row.drop m) [] row.length:=⟨by simp[c0];lia,hl,fun x hx=>hok x (Qw hx),fun x hx=>hok x (DK hx),.inl ⟨rfl,rfl,rfl⟩⟩;refine⟨fun M ρ μ'=>∃ c ws ls rs a5 a6 a7,FL μ μ' μ.length ls rs/\At row m c ws rs M/\ρ=[some (.lst (row.map aK)),some (.int (m:Int)),some (.lst (ws.map aK)),some (.lst (c.kept.map aK)),some (.loc μ.length),a5,a6,a7],⟨row.length,c0 row m,row.drop m,[],[],none,none,none,hF,hA,rfl⟩,?_⟩;clear hF hA;rintro M ρ μ' ⟨c,ws,ls,rs,a5,a6,a7,hF,hA,rfl⟩;simp only[wT,wE,wEs,newL,aN,aJ,bA];refine⟨by decide,aat hA.kok ?_⟩;simp only[fV];by_cases hk:c.kept=[]
 .have e1:(!c.kept.isEmpty)=false:=by rw[hk];rfl
  simp only[e1,cg,if_false,R8,hF.at_];refine h _ ls (hF.pre.set _ (aA _)) ?_;rw[<-hA.fin m1 hk];exact⟨hF.rw.1,fun i l r a b=>by rw[cU (bL (hF.ne l (pC a)).2)];exact hF.rw.2 i l r a b⟩
 .have e1:(!c.kept.isEmpty)=true:=by cases hc:c.kept with|nil=>exact absurd hc hk|cons=>rfl
  simp only[e1,if_true];have hkl:1<=c.kept.length:=by cases hc:c.kept with|nil=>exact absurd hc hk|cons=>simp
  obtain⟨n,rfl⟩:∃ n,M=n+1:=⟨M -1,by have:=hA.len;lia⟩;have hle:=hA.le;have hln:=hA.len;obtain⟨pre,r,e2,e3,hA2⟩:=hA.step hk;have go2:∀ {Z:j6} {μ2:Mem} {ls2:List Nat} {a6 a7:Option D},FL μ μ2 μ.length ls2 (pre++[r])->(Z.nx=fun ρ μx=>∃ m' <n+1,∃ c ws ls rs a5 a6 a7,FL μ μx μ.length ls rs/\At row m c ws rs m'/\ρ=[some (.lst (row.map aK)),some (.int (m:Int)),some (.lst (ws.map aK)),some (.lst (c.kept.map aK)),some (.loc μ.length),a5,a6,a7])->
    wSs ahJ Z [some (.lst (row.map aK)),some (.int (m:Int)),some (.lst (ws.map aK)),some (.lst (c.kept.map aK)),some (.loc μ.length),some (.lst ((src c).map aK)),a6,a7] μ2:=by
   intro Z μ2 ls2 a6 a7 hF2 hZ;obtain⟨ls',l,rfl⟩:∃ ls' l,ls2=ls' ++[l]:=by (have hl2:ls2.length=pre.length+1:=by have:=hF2.rw.1;simpa using this);(have hne:ls2≠[]:=fun z=>by rw[z]at hl2;simp at hl2);exact⟨ls2.dropLast,ls2.getLast hne,(YQ hne).symm⟩
   refine ahI hk (by lia) (by lia) hF2 e3 fun μ3 b5 b6 b7 hF3=>?_;rw[hZ];exact⟨n,by lia,_,_,_,_,b5,b6,b7,hF3,hA2,rfl⟩
  have go1:∀ {Z:j6} {a6 a7:Option D} {may:List Itm},may=(if c.last=none then []else able c)->(Z.nx=fun ρ μx=>∃ m' <n+1,∃ c ws ls rs a5 a6 a7,FL μ μx μ.length ls rs/\At row m c ws rs m'/\ρ=[some (.lst (row.map aK)),some (.int (m:Int)),some (.lst (ws.map aK)),some (.lst (c.kept.map aK)),some (.loc μ.length),a5,a6,a7])->
    wSs ake Z [some (.lst (row.map aK)),some (.int (m:Int)),some (.lst (ws.map aK)),some (.lst (c.kept.map aK)),some (.loc μ.length),some (.lst (may.map aK)),a6,a7] μ':=by
   intro Z a6 a7 may hmay hZ;have hmo:∀ x∈may,cA x:=fun x hx=>by
    rw[hmay]at hx;split at hx
    .simp at hx
    .exact hA.kok x (uJ.mp hx).1
   simp only[ake,wSs,wS,wT,wE,wEs,newL,aN,aJ,bA,cP];refine⟨by decide,Um hmo,rfl,?_⟩;rw[eq_nil];simp only[fV];by_cases hm0:may=[]
   .have e4:may.isEmpty=true:=by rw[hm0];rfl
    have hc:able c=[]∨c.last=none:=by
     rw[hm0]at hmay;by_cases q:c.last=none
     .exact .inr q
     .rw[if_neg q]at hmay;exact .inl hmay.symm
    rw[if_pos hc]at e2;have hs:src c=c.kept:=by
     unfold src;rcases hc with hc|hc
     .rw[if_pos hc]
     .have:able c=c.kept:=by unfold able;rw[hc];exact Qu.mpr fun x _=>rfl
      rw[this];simp
    simp only[e4,if_true];refine⟨by simp[isCell,hF.at_],by decide,?_⟩;have hat:(μ' ++[Cell.lst []])[μ.length]?=some (.lst (ls.map D.loc)):=(Pre.app _ _).get hF.at_;simp only[dB,hat,bU,aR];have hF2:=hF.new;have hll:ls.length=rs.length:=hF.rw.1;have hrl:rs.length<=1000:=by
     have:=congrArg dR e2;rcases hA.st with⟨_,q,_⟩|⟨cl,op,l,tk,_,q,_,_,_,q6⟩
     .rw[q];simp
     .rw[q];simp;lia
    refine⟨by simp only[lim];lia,?_⟩;rw[show(ls.map D.loc++[D.loc μ'.length])=(ls++[μ'.length]).map D.loc by simp];simp only[aJ,bA,bZ,bY];rw[e2]at hF2;have:=go2 (a6:=a6) (a7:=a7) hF2 hZ;rw[hs]at this;exact this
   .have e4:may.isEmpty=false:=by cases hc:may with|nil=>exact absurd hc hm0|cons=>rfl
    (have hln:c.last≠none:=fun q=>by rw[if_pos q]at hmay;exact hm0 hmay);rw[if_neg hln]at hmay;(have hc:¬(able c=[]∨c.last=none):=by rw[<-hmay];simp[hm0,hln]);rw[if_neg hc]at e2;(have hs:src c=may:=by unfold src;rw[<-hmay,if_neg hm0]);simp only[e4,cg,if_false];rw[<-hs];exact go2 (e2▸hF) hZ
  simp only[amw,wSs,wS,wT,wE,wEs,newL,aN,aJ,bA,bZ,bY,cP,R6,hF.at_,fV];refine⟨by decide,by decide,?_⟩;rcases hA.st with⟨q1,q2,q3⟩|⟨cl,op,l,tk,q1,q2,q3,q4,q5,q6⟩
  .have hls:ls=[]:=YS (by rw[hF.rw.1,q2];rfl)
   (have e5:(!(ls.map D.loc).isEmpty)=false:=by rw[hls];rfl);simp only[e5,cg,if_false];exact go1 (may:=[]) (by rw[if_pos q1]) rfl
  .obtain⟨ls',k,rfl⟩:∃ ls' k,ls=ls' ++[k]:=by (have hl2:ls.length=cl.length+1:=by rw[hF.rw.1,q2];simp);(have hne:ls≠[]:=fun z=>by rw[z]at hl2;simp at hl2);exact⟨ls.dropLast,ls.getLast hne,(YQ hne).symm⟩
   (have e5:(!((ls' ++[k]).map D.loc).isEmpty)=true:=by simp);simp only[e5,if_true,wI,wE,mz,aJ,bA];(have hl0:ls'.length=cl.length:=by have:=hF.rw.1;rw[q2]at this;simpa using this);have hlr:=hF.rw.2 ls'.length k (op++[l]) (by simp) (by rw[q2,hl0];simp);have el:=G9 ls' k;have el2:(oV ((op++[l]).map aK).length (-1)).bind (((op++[l]).map aK)[·]?)=some (aK l):=by have:=Rj (op.map aK) (aK l);rw[m5];exact this
   refine gO aK (fun x=>FT (some l) x) aK trivial _ _ ?_ ?_
   .intro x hx Y N z
    simp only[bindC,wTs,wT,wE,wEs,aJ,bA,aX,aW,bB,aO,uL,dM,aB,hF.at_,el,hlr,el2];refine⟨x,l,rfl,?_⟩;simp only[fU,truth];simpa[FT]using z
   .rw[aO,<-q1]
    exact go1 (may:=able c) (by rw[if_neg (by rw[q1];simp)]) rfl
end DW.K91
namespace DW.K21
open PySem DW DW.VD
def kE:dz:=fun ds μ Q=>∃ r:List Itm,ds=[.lst (r.map aK)]/\r.length<1000/\∀ ν n ls,LL (μ++ν) μ.length n ls (bG r)->Q (.loc n) (μ++ν)
def qz:List Str:=["row","runs","place","item"]
def qK:Ss:=(.cons (.set 1 (.lst true .nil)) (.cons (.for_ [2,3] true (.enum (.var 0)) (.cons (.ite (.or (.cmp .Eq (.var 2) (.cst (.int 0))) (.call "less" vN (.cons (.var 3) (.cons (.idx (.var 0) (.bin .Sub (.var 2) (.cst (.int 1)))) .nil)))) (.cons (.exp (.meth "append" (.var 1) (.cons (.lst true .nil) .nil))) .nil) .nil) (.cons (.exp (.meth "append" (.idx (.var 1) (.neg (.cst (.int 1)))) (.cons (.var 3) .nil))) .nil))) (.cons (.ret (.var 1)) .nil)))
def dD (μ:Mem) (c:List (List Itm)):Mem:=μ++ .lst ((aU c.length).map fun k=>D.loc (μ.length+1+k))::c.map fun l=>.lst (l.map aK)
theorem vU (μ:Mem) (c:List (List Itm)):(dD μ c)[μ.length]?=some (.lst ((aU c.length).map fun k=>D.loc (μ.length+1+k))):=by simp[dD]
theorem JG (μ:Mem) (c:List (List Itm)) (i:Nat) (l:List Itm) (h:c[i]?=some l):(dD μ c)[μ.length+1+i]?=some (.lst (l.map aK)):=by unfold dD;rw[nQ (by lia),show μ.length+1+i -μ.length=i+1 by lia];simp[h]
theorem JH (μ:Mem) (c:List (List Itm)):(dD μ c).length=μ.length+1+c.length:=by simp[dD];lia
theorem Y6 (μ:Mem) (c:List (List Itm)) (l:List Itm):(dD μ c++[Cell.lst (l.map aK)]).set μ.length (.lst ((aU c.length).map (fun k=>D.loc (μ.length+1+k))++[.loc (μ.length+1+c.length)]))=dD μ (c++[l]):=by unfold dD;rw[qy,Jv _ _ (aA _)];simp[PK]
theorem Y5 (μ:Mem) (a:List (List Itm)) (l l':List Itm):(dD μ (a++[l])).set (μ.length+1+a.length) (.lst (l'.map aK))=dD μ (a++[l']):=by unfold dD;rw[Jv _ _ (by lia),show μ.length+1+a.length -μ.length=a.length+1 by lia];simp
theorem abz (μ:Mem) (c:List (List Itm)):LL (dD μ c) μ.length μ.length ((aU c.length).map fun k=>μ.length+1+k) c:=by
 refine⟨aA _,?_,by simp,fun l hl=>?_,fun i l r h1 h2=>?_⟩
 .rw[vU];simp
 .simp at hl
  obtain⟨k,hk,rfl⟩:=hl;lia
 .have hi:i<c.length:=(bT.mp h2).1
  have:l=μ.length+1+i:=by simp[hi]at h1;lia
  subst this;exact JG μ c i r h2
theorem Eh:Keeps qz qK kE:=by
 rintro ds μ Q ⟨r,rfl,hl,h⟩;simp[qK,qz,aC,bH,wSs,wS,wT,wE,wEs,wI,newL,lim,R9,cC,aB];refine cV (fun ds ρ μ'=>∃ (p s:List Itm) (u v:Option D),r=p++s/\ds=oN p.length (s.map aK)/\μ'=dD μ (bG p)/\ρ=[some (.lst (r.map aK)),some (.loc μ.length),u,v]) ?_ ?_ _ _ _ ⟨[],r,none,none,rfl,rfl,by simp[dD,bG],rfl⟩
 .rintro d ds ρ μ' N hN ⟨p,s,u,v,er,e,rfl,rfl⟩
  cases s with
  |nil=>simp[oN]at e|cons x s=>
   simp[oN]at e;obtain⟨rfl,rfl⟩:=e;refine⟨by simp[cC,aB],?_⟩;obtain⟨h1,h2⟩:=ju p;(have hpl:p.length<1000:=by rw[er]at hl;simp at hl;lia);have fin:∀ u v,N [some (.lst (r.map aK)),some (.loc μ.length),u,v] (dD μ (gJ (bG p) x)):=fun u v=>hN _ _ ⟨p++[x],s,u,v,by simp[er],by simp,by rw[lU],rfl⟩;have grow:∀ (a:List (List Itm)) (l:List Itm) (w:dH) (k:Mem->Prop),l.length<1000->k (dD μ (a++[l++[x]]))->
     dM (.loc μ.length) (.int (-1)) (dD μ (a++[l])) fun d μ1=>isCell μ1 d=true/\dB "append" d [aK x] μ1 fun _ μ2=>k μ2:=by
    intro a l w k hll f;have er':=JG μ (a++[l]) a.length l (by simp);have eix:(oV ((aU (a++[l]).length).map fun k=>D.loc (μ.length+1+k)).length (-1)).bind (((aU (a++[l]).length).map fun k=>D.loc (μ.length+1+k))[·]?)=some (.loc (μ.length+1+a.length)):=by have:=Rj ((aU a.length).map fun k=>D.loc (μ.length+1+k)) (.loc (μ.length+1+a.length));simpa[PK]using this
    have eu:=Y5 μ a l (l++[x]);rw[m5,aX,aW]at eu;simp only[dM,aB,vU,eix,isCell,er',true_and,dB,bU,eu];exact⟨by simp[lim];lia,f⟩
   have new:∀ (c:List (List Itm)) (k:Mem->Prop),c.length<1000->k (dD μ (c++[[]]))->isCell (dD μ c) (.loc μ.length)=true/\dB "append" (.loc μ.length) [.loc (dD μ c).length] (dD μ c++[Cell.lst []]) fun _ μ1=>k μ1:=fun c k hc f=>by
    have e1:(dD μ c++[Cell.lst []])[μ.length]?=some (.lst ((aU c.length).map fun k=>D.loc (μ.length+1+k))):=by rw[dU (by rw[JH];lia)];exact vU _ _
    have e2:=Y6 μ c [];simp only[aW]at e2;refine⟨by simp only[isCell,vU],?_⟩;simp only[dB,e1,bU,JH,e2];exact⟨by simp[lim];lia,f⟩
   rcases Yu p with rfl|⟨p,y,ep⟩
   .simp[fB,cP,flat,mq,fV]
    refine new _ _ (by simp[bG]) ?_;refine grow [] [] [] _ (by simp) ?_;have:=fin (some (.int 0)) (some (aK x));simpa[bG,gJ]using this
   .rw[Yt]at ep
    subst ep;(have e0:mq (.int ((p++[y]).length:Int)) (.int 0)=false:=by simp[mq];lia);(have e1:((p++[y]).length:Int) -1=(p.length:Int):=by simp);have hix:oV r.length (p.length:Int)=some p.length:=gG (by rw[er];simp);(have ey:(r.map aK)[p.length]?=some (aK y):=by rw[er];simp);obtain⟨a,l,el⟩:=uP p y;have hll:l.length+1<1000:=by have:=congrArg dR h2;rw[el]at this;simp at this hpl;lia
    have fin':=fin (some (.int ((p++[y]).length:Int))) (some (aK x));rw[el,zF]at fin';rw[el]at h1 ⊢;generalize hk:(fun(μ1:Mem)=>N [some (.lst (r.map aK)),some (.loc μ.length),some (.int ((p++[y]).length:Int)),some (aK x)] μ1)=k;(have kf:∀ μ1,N [some (.lst (r.map aK)),some (.loc μ.length),some (.int ((p++[y]).length:Int)),some (aK x)] μ1=k μ1:=fun μ1=>by rw[<-hk]);have g2:∀ a l,l.length<1000->k (dD μ (a++[l++[x]]))->_:=fun a l=>grow a l [] k;simp only[fB,Js,Yl,qu,PB,bY,bZ,aJ,bA,cP,flat,fV,e0,cg,if_false,jC,e1];(have ei:∀ {Q:QD} {μ'},Q (aK y) μ'->dM (.lst (r.map aK)) (.int (p.length:Int)) μ' Q:=fun {Q μ'} q=>by simp only[dM,aB,aR,hix,lO,ey];exact q);refine⟨rfl,trivial,trivial,ei ⟨x,y,rfl,?_⟩⟩;simp only[fU,truth,kf];by_cases c:gM x y=true
    .rw[if_pos c]
     rw[if_pos c]at fin';have f2:=g2 (a++[l++[y]]) [] (by simp) (by rw[<-kf];simpa using fin');exact new (a++[l++[y]]) _ (by simp at h1 hpl ⊢;lia) f2
    .rw[if_neg c]
     rw[if_neg c]at fin';exact g2 a (l++[y]) (by simp;lia) (by rw[<-kf];exact fin')
 .rintro ρ μ' ⟨p,s,u,v,er,e,rfl,rfl⟩
  cases s with
  |cons x s=>simp[oN]at e|nil=>refine⟨by simp[cC,aB],?_⟩;simp only[pX]at er;subst er;exact h _ _ _ (abz μ (bG r))
end DW.K21
namespace DW.Ny
open PySem DW DW.VD
noncomputable abbrev Hd:=Option Itm
def hdD:Hd->D
 |none=>.non|some x=>aK x
def j7:Option Nat->D
 |none=>.non|some p=>.int (p:Int)
def mid (s b:Nat):Nat:=s+(b -s+1)/2
theorem iw (h:1<b -s):s<mid s b/\mid s b<b:=by unfold mid;lia
def ni (hs:List Hd):Option Nat->Option Nat->Option Nat
 |none,r=>r|some p,none=>some p|some p,some q=>match hs[q]?.join,hs[p]?.join with|some y,some x=>if gM y x=true then some q else some p|_,_=>some p
def oO (hs:List Hd) (s b:Nat):Option Nat:=
 if 1<b -s then ni hs (oO hs s (mid s b)) (oO hs (mid s b) b)else if(hs[s]?.join).isSome=true/\s<b then some s else none
 termination_by b -s
 decreasing_by
 .have:=iw (by assumption);lia
 .have:=iw (by assumption);lia
def zL (p s b:Nat):List (Nat×Nat):=
 if 1<b -s then(s,b)::(if p<mid s b then zL p s (mid s b)else zL p (mid s b) b)else []
 termination_by b -s
 decreasing_by
 .have:=iw (by assumption);lia
 .have:=iw (by assumption);lia
def SM (x:Nat×Nat):D:=.tup [.int (x.1:Int),.int (x.2:Int)]
inductive Nx:Nat->Nat->Nat->Nat->Prop
 |refl (s b:Nat):Nx s b s b
 |left {s b s' b':Nat} (h:1<b -s) (i:Nx s (mid s b) s' b'):Nx s b s' b'
 |right {s b s' b':Nat} (h:1<b -s) (i:Nx (mid s b) b s' b'):Nx s b s' b'
theorem Nx.sub (h:Nx s b s' b'):s<=s'/\b'<=b:=by
 induction h with
 |refl s b=>lia|left h i ih=>have:=iw h;lia|right h i ih=>have:=iw h;lia
theorem Nx.l (h:Nx s b s' b') (hh:1<b' -s'):Nx s b s' (mid s' b'):=by
 induction h with
 |refl s b=>exact .left hh (.refl _ _)|left h i ih=>exact .left h (ih hh)|right h i ih=>exact .right h (ih hh)
theorem Nx.r (h:Nx s b s' b') (hh:1<b' -s'):Nx s b (mid s' b') b':=by
 induction h with
 |refl s b=>exact .right hh (.refl _ _)|left h i ih=>exact .left h (ih hh)|right h i ih=>exact .right h (ih hh)
theorem nF (h:1<b -s):oO hs s b=ni hs (oO hs s (mid s b)) (oO hs (mid s b) b):=by rw[oO,if_pos h]
theorem lH (h:¬1<b -s):oO hs s b=if(hs[s]?.join).isSome=true/\s<b then some s else none:=by rw[oO,if_neg h]
def Is (hs:List Hd) (p:Nat):Prop:=∃ x,hs[p]?=some (some x)
theorem aa3 (h:ni hs l r=some p):l=some p∨r=some p:=by
 unfold ni at h;split at h
 .exact .inr h
 .exact .inl h
 .split at h
  .split at h
   .exact .inr h
   .exact .inl h
  .exact .inl h
theorem zJ (hs:List Hd):∀ (n s b:Nat),b -s<=n->∀ p,oO hs s b=some p->Is hs p/\s<=p/\p<b
 |0,s,b,hn,p,h=>by
  rw[lH (by lia)]at h;split at h
  .rename_i c;lia
  .cases h
 |n+1,s,b,hn,p,h=>by
  by_cases c:1<b -s
  .rw[nF c]at h
   have hm:=iw c;rcases aa3 h with h|h
   .obtain⟨h1,h2,h3⟩:=zJ hs n s (mid s b) (by lia) p h;exact⟨h1,by lia,by lia⟩
   .obtain⟨h1,h2,h3⟩:=zJ hs n (mid s b) b (by lia) p h;exact⟨h1,by lia,by lia⟩
  .rw[lH c]at h
   split at h
   .rename_i q
    cases h;refine⟨?_,by lia,q.2⟩;obtain⟨q1,_⟩:=q;cases e:hs[s]? with
    |none=>rw[e]at q1;simp at q1|some o=>cases o with|none=>rw[e]at q1;simp at q1|some x=>exact⟨x,e⟩
   .cases h
theorem RP (hs:List Hd) (p:Nat) (x:Hd):∀ (n s b:Nat),b -s<=n->¬(s<=p/\p<b)->oO (hs.set p x) s b=oO hs s b
 |0,s,b,hn,h=>by
  rw[lH (by lia),lH (by lia)];have:¬s<b:=by lia
  simp[this]
 |n+1,s,b,hn,h=>by
  by_cases c:1<b -s
  .have hm:=iw c
   rw[nF c,nF c,RP hs p x n s (mid s b) (by lia) (by lia),RP hs p x n (mid s b) b (by lia) (by lia)];cases e1:oO hs s (mid s b) with
   |none=>rfl|some q1=>
    cases e2:oO hs (mid s b) b with
    |none=>rfl|some q2=>obtain⟨_,a1,a2⟩:=zJ hs n s (mid s b) (by lia) q1 e1;obtain⟨_,a3,a4⟩:=zJ hs n (mid s b) b (by lia) q2 e2;have n1:(hs.set p x)[q1]?=hs[q1]?:=cU (by lia);have n2:(hs.set p x)[q2]?=hs[q2]?:=cU (by lia);simp only[ni,n1,n2]
  .rw[lH c,lH c]
   by_cases c2:s<b
   .have n1:(hs.set p x)[s]?=hs[s]?:=cU (by lia)
    rw[n1]
   .simp[c2]
theorem ZW:∀ (n s b:Nat),b -s<=n->s<=p->p<b->∀ x∈zL p s b,Nx s b x.1 x.2/\1<x.2 -x.1/\x.1<=p/\p<x.2
 |0,s,b,hn,h1,h2,x,hx=>by lia|n+1,s,b,hn,h1,h2,x,hx=>by
  rw[zL]at hx;by_cases c:1<b -s
  .have hm:=iw c
   rw[if_pos c]at hx;rcases bC.mp hx with rfl|hx
   .exact⟨.refl _ _,c,h1,h2⟩
   .by_cases q:p<mid s b
    .rw[if_pos q]at hx
     obtain⟨i,r⟩:=ZW n s (mid s b) (by lia) h1 q x hx;exact⟨.left c i,r⟩
    .rw[if_neg q]at hx
     obtain⟨i,r⟩:=ZW n (mid s b) b (by lia) (by lia) h2 x hx;exact⟨.right c i,r⟩
  .rw[if_neg c]at hx;simp at hx
theorem alK (h:Nx s b s' b') (hp:s'<=p/\p<b') (hh:1<b' -s'):(s',b')∈zL p s b:=by
 induction h with
 |refl s b=>rw[zL,if_pos hh];simp|left h i ih=>have:=i.sub;rw[zL,if_pos h,if_pos (by lia)];exact jh _ (ih hp hh)|right h i ih=>have:=i.sub;rw[zL,if_pos h,if_neg (by lia)];exact jh _ (ih hp hh)
theorem Cd (p:Nat):∀ (n s b:Nat),b -s<=n->(zL p s b).length<=b -s
 |0,s,b,hn=>by rw[zL,if_neg (by lia)];simp|n+1,s,b,hn=>by
  rw[zL];by_cases c:1<b -s
  .have hm:=iw c
   rw[if_pos c];by_cases q:p<mid s b
   .rw[if_pos q];have:=Cd p n s (mid s b) (by lia);simp;lia
   .rw[if_neg q];have:=Cd p n (mid s b) b (by lia);simp;lia
  .rw[if_neg c];simp
theorem K5 (p:Nat):∀ (n s b:Nat),b -s<=n->(zL p s b).Pairwise (fun x y=>y.2 -y.1<x.2 -x.1)/\∀ x∈zL p s b,x.2 -x.1<=b -s
 |0,s,b,hn=>by rw[zL,if_neg (by lia)];simp|n+1,s,b,hn=>by
  rw[zL];by_cases c:1<b -s
  .have hm:=iw c
   rw[if_pos c];by_cases q:p<mid s b
   .rw[if_pos q]
    obtain⟨h1,h2⟩:=K5 p n s (mid s b) (by lia);refine⟨yM.mpr ⟨fun y hy=>?_,h1⟩,fun x hx=>?_⟩
    .have:=h2 y hy;show y.2 -y.1<b -s;lia
    .rcases bC.mp hx with rfl|hx
     .exact aA _
     .have:=h2 x hx;lia
   .rw[if_neg q]
    obtain⟨h1,h2⟩:=K5 p n (mid s b) b (by lia);refine⟨yM.mpr ⟨fun y hy=>?_,h1⟩,fun x hx=>?_⟩
    .have:=h2 y hy;show y.2 -y.1<b -s;lia
    .rcases bC.mp hx with rfl|hx
     .exact aA _
     .have:=h2 x hx;lia
  .rw[if_neg c];simp
def Fr (S:List Nat) (μ μ':Mem):Prop:=μ.length<=μ'.length/\∀ m,m<μ.length->m∉S->μ'[m]?=μ[m]?
theorem Fr.refl {S:List Nat} {μ:Mem}:Fr S μ μ:=⟨aA _,fun _ _ _=>rfl⟩
theorem Fr.trans {S:List Nat} {μ μ' NK:Mem} (a:Fr S μ μ') (b:Fr S μ' NK):Fr S μ NK:=
 ⟨gD a.1 b.1,fun m hm hs=>(b.2 m (f9 hm a.1) hs).trans (a.2 m hm hs)⟩
theorem Fr.more {S S':List Nat} {μ μ':Mem} (a:Fr S μ μ') (h:∀ m∈S,m∈S'):Fr S' μ μ':=⟨a.1,fun m hm hs=>a.2 m hm fun z=>hs (h m z)⟩
theorem Fr.set {S:List Nat} {μ:Mem} {n:Nat} {c:Cell} (h:n∈S):Fr S μ (μ.set n c):=⟨by simp,fun m _ hs=>cU fun e=>hs (by subst e;exact h)⟩
theorem Fr.app {S:List Nat} {μ ν:Mem}:Fr S μ (μ++ν):=⟨by simp,fun m hm _=>dU hm⟩
noncomputable abbrev WF:=Nat->Nat->Option (Option Nat)
structure Fe (μ:Mem) (o h w:Nat) (hs:List Hd) (f:WF) (n:Int):Prop where
 at_:μ[o]?=some (.ins "Contest" [("heads",.loc h),("winners",.loc w),("played",.int n)])
 hd:μ[h]?=some (.lst (hs.map hdD))
 wn:∃ ks ds,μ[w]?=some (.GC ks ds)/\ks.length=ds.length/\(ks.length:Int)<=n/\∀ s b:Nat,eX ks ds [.inl (s:Int),.inl (b:Int)]=(f s b).map j7
 ne:o≠h/\o≠w/\h≠w
def Alw (hs:List Hd) (f:WF):Prop:=∀ s b,Nx 0 hs.length s b->1<b -s->f s b=some (oO hs s b)
def abf (f:WF) (s b:Nat) (v:Option Nat):WF:=fun s' b'=>if s'=s/\b'=b then some v else f s' b'
theorem bN {μ:Mem} {n:Nat} {c:Cell} (h:μ[n]?=some c):n<μ.length:=(bT.mp h).1
theorem Fe.fr {μ μ':Mem} {o h w:Nat} {hs:List Hd} {f:WF} {n:Int} {S:List Nat} (C:Fe μ o h w hs f n) (F:Fr S μ μ') (ho:o∉S) (hh:h∉S) (hw:w∉S):Fe μ' o h w hs f n:=by obtain⟨ks,ds,k1,k2⟩:=C.wn;exact⟨(F.2 o (bN C.at_) ho).trans C.at_,(F.2 h (bN C.hd) hh).trans C.hd,⟨ks,ds,(F.2 w (bN k1) hw).trans k1,k2⟩,C.ne⟩
theorem ab6 [DecidableEq κ] (k:κ) (d:D):∀ (ks:List κ) (ds:List D),ks.length=ds.length->∀ k',eX (iZ ks k) (lY ks ds k d) k'=if k'=k then some d else eX ks ds k':=by
 have rep:∀ (ks:List κ) (ds:List D),ks.length=ds.length->∀ k',eX ks (adA (fun q d'=>if q=k then d else d') ks ds) k'=if k'=k/\k∈ks then some d else eX ks ds k':=by
  intro ks;induction ks with
  |nil=>intro ds _ k';simp[eX]|cons q ks ih=>
   intro ds hl k';cases ds with
   |nil=>simp at hl|cons d' ds=>
    simp only[ae9,eX];by_cases c:q=k'
    .subst c
     by_cases c2:q=k
     .subst c2;simp
     .simp[c2]
    .rw[if_neg c,if_neg c,ih ds (by simpa using hl) k']
     by_cases c2:k'=k
     .subst c2
      (have:(k'∈q::ks)<->k'∈ks:=by simp[bL c]);simp[this]
     .simp[c2]
 have app:∀ (ks:List κ) (ds:List D),ks.length=ds.length->k∉ks->∀ k',eX (ks++[k]) (ds++[d]) k'=if k'=k then some d else eX ks ds k':=by
  intro ks;induction ks with
  |nil=>
   intro ds hl _ k';cases ds with
   |nil=>
    simp only[aO,eX];by_cases c:k=k'
    .subst c;simp
    .rw[if_neg c,if_neg (bL c)]
   |cons _ _=>simp at hl
  |cons q ks ih=>
   intro ds hl hn k';cases ds with
   |nil=>simp at hl|cons d' ds=>
    simp only[bC,not_or]at hn;simp only[bB,eX];by_cases c:q=k'
    .subst c
     rw[if_pos rfl,if_pos rfl,if_neg (bL hn.1)]
    .rw[if_neg c,if_neg c]
     exact ih ds (by simpa using hl) hn.2 k'
 intro ks ds hl k';unfold iZ lY;by_cases c:k∈ks
 .rw[if_pos c,if_pos c,rep ks ds hl k']
  by_cases c2:k'=k
  .simp[c2,c]
  .simp[c2]
 .rw[if_neg c,if_neg c]
  exact app ks ds hl c k'
theorem U8 [DecidableEq κ] (k:κ) (d:D) (ks:List κ) (ds:List D) (hl:ks.length=ds.length):(iZ ks k).length=(lY ks ds k d).length/\(iZ ks k).length<=ks.length+1:=by
 unfold iZ lY;split
 .simp[hl]
 .simp[hl]
def aY (q:Nat):D:=.int (q:Int)
def wv (hs:List Hd) (f:WF) (s b:Nat):Option Nat:=if 1<b -s then(f s b).getD none else oO hs s b
def dZ:dz:=fun ds μ Q=>match ds with|[.int i,.int n]=>Q (.bl (decide (0<=i/\i<n))) μ|_=>False
def Ae:dz:=fun ds μ Q=>∃ s b:Nat,ds=[aY s,aY b]/\s<=b/\Q (aY (mid s b)) μ
def nG:dz:=fun ds μ Q=>∃ p m:Nat,ds=[aY p,aY m]/\p<m/\m<=1000/\Q (.lst ((zL p 0 m).map SM)) (μ++[.gone])
def fJ:dz:=fun ds μ Q=>∃ (o h w:Nat) (hs:List Hd) (f:WF) (n:Int) (p:Nat),ds=[.loc o,aY p]/\Fe μ o h w hs f n/\p<hs.length/\Q .non μ
def gC:dz:=fun ds μ Q=>∃ (o h w:Nat) (hs:List Hd) (f:WF) (n:Int) (s b:Nat),ds=[.loc o,aY s,aY b]/\Fe μ o h w hs f n/\s<=b/\b<=hs.length/\hs.length<=1000/\(1<b -s->∃ v,f s b=some v)/\Q (j7 (wv hs f s b)) μ
def oZ:dz:=fun ds μ Q=>∃ (o h w:Nat) (hs:List Hd) (f:WF) (n:Int) (l r:Option Nat),ds=[.loc o,j7 l,j7 r]/\Fe μ o h w hs f n/\(∀ p,l=some p->Is hs p)/\(∀ p,r=some p->Is hs p)/\Q (j7 (ni hs l r)) μ
def mF:dz:=fun ds μ Q=>∃ (o h w:Nat) (hs:List Hd) (f:WF) (n:Int) (s b:Nat),ds=[.loc o,aY s,aY b]/\Fe μ o h w hs f n/\1<b -s/\b<=hs.length/\hs.length<=1000/\n<10000/\
 (1<mid s b -s->f s (mid s b)=some (oO hs s (mid s b)))/\(1<b -mid s b->f (mid s b) b=some (oO hs (mid s b) b))/\∀ μ',Fr [o,w] μ μ'->Fe μ' o h w hs (abf f s b (oO hs s b)) (n+1)->Q .non μ'
def bV (d:Nat):dz:=fun ds μ Q=>∃ (o h w:Nat) (hs:List Hd) (f:WF) (n:Int) (s b:Nat),ds=[.loc o,aY s,aY b]/\Fe μ o h w hs f n/\b -s<=2 ^ d/\s<=b/\b<=hs.length/\hs.length<=1000/\n+((b -s:Nat):Int)<10000/\
 ∀ μ' f',Fr [o,w] μ μ'->Fe μ' o h w hs f' (n+((b -s -1:Nat):Int))->(∀ s' b',Nx s b s' b'->1<b' -s'->f' s' b'=some (oO hs s' b'))->(∀ s' b',¬(s<=s'/\b'<=b)->f' s' b'=f s' b')->Q .non μ'
def sX:dz:=fun ds μ Q=>∃ (o:Nat) (hs:List Hd),ds=[.loc o,.lst (hs.map hdD)]/\μ[o]?=some (.ins "Contest" [])/\hs.length<=64/\
 ∀ μ' h w f,Fr [o] μ μ'->Fe μ' o h w hs f ((hs.length -1:Nat):Int)->Alw hs f->μ.length<=h->μ.length<=w->Q .non μ'
def kJ:dz:=fun ds μ Q=>∃ (o h w:Nat) (hs:List Hd) (f:WF) (n:Int),ds=[.loc o]/\Fe μ o h w hs f n/\Alw hs f/\hs.length<=64/\Q (j7 (oO hs 0 hs.length)) μ
def sY:dz:=fun ds μ Q=>∃ (o h w:Nat) (hs:List Hd) (f:WF) (n:Int) (p:Nat) (x:Hd),ds=[.loc o,aY p]/\Fe μ o h w hs f n/\hs[p]?=some x/\Q (hdD x) μ
def uf:dz:=fun ds μ Q=>∃ (o h w:Nat) (hs:List Hd) (f:WF) (n:Int) (p:Nat) (x:Hd),ds=[.loc o,aY p,hdD x]/\Fe μ o h w hs f n/\Alw hs f/\p<hs.length/\hs.length<=64/\n<5000/\
 ∀ μ' f',Fr [o,h,w] μ μ'->Fe μ' o h w (hs.set p x) f' (n+((zL p 0 hs.length).length:Int))->Alw (hs.set p x) f'->Q .non μ'
def oF:List Str:=["thing","many"]
def oK:Ss:=(.cons (.ret (.and (.call "is_whole" dF (.cons (.var 0) .nil)) (.chain .LtE .Lt (.cst (.int 0)) (.var 0) (.var 1)))) .nil)
def aau:List Str:=["start","behind"]
def aaI:Ss:=(.cons (.ret (.bin .Add (.var 0) (.bin .FloorDiv (.bin .Add (.bin .Sub (.var 1) (.var 0)) (.cst (.int 1))) (.cst (.int 2))))) .nil)
def pD:List Str:=["place","many","told","start","behind","middle"]
def pJ:Ss:=(.cons (.set 2 (.lst true .nil)) (.cons (.set 3 (.cst (.int 0))) (.cons (.set 4 (.var 1)) (.cons (.whl (.cmp .Gt (.bin .Sub (.var 4) (.var 3)) (.cst (.int 1))) (.cons (.exp (.meth "append" (.var 2) (.cons (.tup (.cons (.var 3) (.cons (.var 4) .nil))) .nil))) (.cons (.set 5 (.call "midst" Ae (.cons (.var 3) (.cons (.var 4) .nil)))) (.cons (.ite (.cmp .Lt (.var 0) (.var 5)) (.cons (.set 4 (.var 5)) .nil) (.cons (.set 3 (.var 5)) .nil)) .nil)))) (.cons (.ret (.Gh (.var 2))) .nil)))))
def uW:List Str:=["self","heads"]
def vo:Ss:=(.cons (.qt "Contest" "heads" (.var 0) (.blt "mlist" (.cons (.var 1) .nil))) (.cons (.qt "Contest" "winners" (.var 0) (.ab5 true)) (.cons (.qt "Contest" "played" (.var 0) (.cst (.int 0))) (.cons (.exp (.rW "Contest" "play_all" (bV 6) (.var 0) (.cons (.cst (.int 0)) (.cons (.blt "len" (.cons (.fld "Contest" "heads" (.var 0)) .nil)) .nil)))) .nil))))
def tC:List Str:=["self"]
def tE:Ss:=(.cons (.ret (.rW "Contest" "winner" gC (.var 0) (.cons (.cst (.int 0)) (.cons (.blt "len" (.cons (.fld "Contest" "heads" (.var 0)) .nil)) .nil)))) .nil)
def uX:List Str:=["self","place"]
def vp:Ss:=(.cons (.exp (.rW "Contest" "check_place" fJ (.var 0) (.cons (.var 1) .nil))) (.cons (.ret (.idx (.fld "Contest" "heads" (.var 0)) (.var 1))) .nil))
def xJ:List Str:=["self","place","head","start","behind"]
def xQ:Ss:=(.cons (.exp (.rW "Contest" "check_place" fJ (.var 0) (.cons (.var 1) .nil))) (.cons (.Ih (.fld "Contest" "heads" (.var 0)) (.var 1) (.var 2)) (.cons (.for_ [3,4] true (.rvd (.call "stretches_above" nG (.cons (.var 1) (.cons (.blt "len" (.cons (.fld "Contest" "heads" (.var 0)) .nil)) .nil)))) (.cons (.exp (.rW "Contest" "play" mF (.var 0) (.cons (.var 3) (.cons (.var 4) .nil)))) .nil)) .nil)))
def kh:List Str:=["self","thing"]
def kj:Ss:=(.cons (.ite (.not (.call "is_below" dZ (.cons (.var 1) (.cons (.blt "len" (.cons (.fld "Contest" "heads" (.var 0)) .nil)) .nil)))) (.cons .Y4 .nil) .nil) .nil)
def fO:List Str:=["self","start","behind","middle"]
def fP (d:Nat):Ss:=(.cons (.ite (.cmp .Gt (.bin .Sub (.var 2) (.var 1)) (.cst (.int 1))) (.cons (.set 3 (.call "midst" Ae (.cons (.var 1) (.cons (.var 2) .nil)))) (.cons (.exp (.rW "Contest" "play_all" (spP bV d) (.var 0) (.cons (.var 1) (.cons (.var 3) .nil)))) (.cons (.exp (.rW "Contest" "play_all" (spP bV d) (.var 0) (.cons (.var 3) (.cons (.var 2) .nil)))) (.cons (.exp (.rW "Contest" "play" mF (.var 0) (.cons (.var 1) (.cons (.var 2) .nil)))) .nil)))) .nil) .nil)
def uV:List Str:=["self","start","behind","middle"]
def vm:Ss:=(.cons (.set 3 (.call "midst" Ae (.cons (.var 1) (.cons (.var 2) .nil)))) (.cons (.dput (.fld "Contest" "winners" (.var 0)) (.tup (.cons (.var 1) (.cons (.var 2) .nil))) (.rW "Contest" "better" oZ (.var 0) (.cons (.rW "Contest" "winner" gC (.var 0) (.cons (.var 1) (.cons (.var 3) .nil))) (.cons (.rW "Contest" "winner" gC (.var 0) (.cons (.var 3) (.cons (.var 2) .nil))) .nil)))) (.cons (.aco "Contest" "played" .Add (.var 0) (.cst (.int 1))) .nil)))
def qD:List Str:=["self","start","behind","alone"]
def qM:Ss:=(.cons (.ite (.cmp .Gt (.bin .Sub (.var 2) (.var 1)) (.cst (.int 1))) (.cons (.ret (.Zt (.fld "Contest" "winners" (.var 0)) (.tup (.cons (.var 1) (.cons (.var 2) .nil))))) .nil) .nil) (.cons (.set 3 (.comp false 1 false [0] (.var 0) (.rng (.cons (.var 1) (.cons (.var 2) .nil))) (.cons (.cmp .IsNot (.idx (.fld "Contest" "heads" (.var 1)) (.var 0)) (.cst .non)) .nil))) (.cons (.ret (.ife (.var 3) (.idx (.var 3) (.cst (.int 0))) (.cst .non))) .nil)))
def iQ:List Str:=["self","left","right"]
def iR:Ss:=(.cons (.ite (.or (.cmp .Is (.var 1) (.cst .non)) (.cmp .Is (.var 2) (.cst .non))) (.cons (.ret (.ife (.cmp .Is (.var 1) (.cst .non)) (.var 2) (.var 1))) .nil) .nil) (.cons (.ret (.ife (.call "less" vN (.cons (.idx (.fld "Contest" "heads" (.var 0)) (.var 2)) (.cons (.idx (.fld "Contest" "heads" (.var 0)) (.var 1)) .nil))) (.var 2) (.var 1))) .nil))
theorem JZ:Keeps oF oK dZ:=by
 intro ds μ Q h;unfold dZ at h;split at h
 .rename_i i n
  simp[oK,oF,aC,bH,wSs,wS,wE,wEs,dF,fV,cP,M8];by_cases h0:0<=i
  .simpa[h0]using h
  .simpa[h0]using h
 .exact h.elim
theorem aiw {s b:Nat} (h:s<=b):(s:Int)+((b:Int) -(s:Int)+1)/2=(mid s b:Nat):=by unfold mid;lia
theorem aiF:Keeps aau aaI Ae:=by rintro ds μ Q ⟨s,b,rfl,hs,h⟩;simp[aaI,aau,aC,bH,wSs,wS,wE,wEs,jC,aY,Nz];rw[aiw hs];exact h
theorem Bh:Keeps pD pJ nG:=by
 rintro ds μ Q ⟨p,m,rfl,hp,hm,h⟩;simp only[pJ,pD,aC,bH,wSs,wS,wE,wEs,newL,aX,aW,bh,aN,bB,aO,aJ,bA];refine⟨by decide,?_⟩;refine⟨fun k ρ μ'=>∃ (acc:List (Nat×Nat)) (s b:Nat) (a:Option D),k=b -s/\s<=p/\p<b/\b<=m/\acc++zL p s b=zL p 0 m/\μ'=μ++[.lst (acc.map SM)]/\ρ=[some (aY p),some (aY m),some (.loc μ.length),some (aY s),some (aY b),a],⟨m,[],0,m,none,by lia,by lia,hp,by lia,by simp,rfl,rfl⟩,?_⟩;rintro k ρ μ' ⟨acc,s,b,a,rfl,h1,h2,h3,he,rfl,rfl⟩;simp[wT,wE,wEs,jC,cP,fV,aY];by_cases c:1<b -s
 .have c':(1:Int)<(b:Int) -(s:Int):=by lia
  have hmd:=iw c;rw[if_pos c'];have hl:acc.length<1000:=by have:=Cd p m 0 m (by lia);rw[<-he,zL,if_pos c]at this;simp at this;lia
  simp[wS,wSs,wE,wEs,isCell,dB,bU,lim];refine⟨by lia,s,b,rfl,by lia,?_⟩;have e1:acc++[(s,b)]++(if p<mid s b then zL p s (mid s b)else zL p (mid s b) b)=zL p 0 m:=by rw[<-he];rw[zL.eq_1 p s b,if_pos c];simp
  by_cases q:p<mid s b
  .have q':(p:Int)<(mid s b:Int):=by lia
   rw[if_pos q]at e1;simp[aY,M8,wT,wE,cP,fV,q'];exact⟨mid s b -s,by lia,acc++[(s,b)],s,mid s b,by lia,by lia,q,by lia,e1,by simp[SM],rfl,rfl⟩
  .have q':¬(p:Int)<(mid s b:Int):=by lia
   rw[if_neg q]at e1;simp[aY,M8,wT,wE,cP,fV,q'];exact⟨b -mid s b,by lia,acc++[(s,b)],mid s b,b,by lia,by lia,h2,by lia,e1,by simp[SM],rfl,rfl⟩
 .have c':¬(1:Int)<(b:Int) -(s:Int):=by lia
  rw[if_neg c'];rw[zL,if_neg c]at he;simp at he;subst he;simpa[R8]using h
theorem Fe.ins {μ:Mem} {o h w:Nat} {hs:List Hd} {f:WF} {n:Int} (C:Fe μ o h w hs f n):dG μ "Contest" (.loc o)=some (o,[("heads",.loc h),("winners",.loc w),("played",.int n)]):=by simp[dG,C.at_]
theorem tH:Keeps kh kj fJ:=by rintro ds μ Q ⟨o,h,w,hs,f,n,p,rfl,C,hp,q⟩;simpa[kj,kh,aC,bH,wSs,wS,wT,wE,wEs,bQ,lenOf,aB,iI,C.ins,bF,C.hd,dZ,aY,fU,truth,hp]using q
theorem J3:Keeps uX vp sY:=by rintro ds μ Q ⟨o,h,w,hs,f,n,p,x,rfl,C,hx,q⟩;have hp:p<hs.length:=(bT.mp hx).1;simp only[vp,uX,aC,bH,wSs,wS,wE,wEs,aX,aW,bh,aN,bB,aO,aJ,bA];refine⟨by simp[iz,C.ins,bF],o,h,w,hs,f,n,p,rfl,C,hp,?_⟩;simp[iI,C.ins,bF,dM,aY,aB,C.hd,gG hp,hx];exact q
theorem Ej:Keeps qD qM gC:=by
 rintro ds μ Q ⟨o,h,w,hs,f,n,s,b,rfl,C,sb,bl,hl,hf,q⟩;simp[qM,qD,aC,bH,wSs,wS,wT,wE,wEs,jC,cP,fV,aY];by_cases c:1<b -s
 .have c':(1:Int)<(b:Int) -(s:Int):=by lia
  obtain⟨v,hv⟩:=hf c;obtain⟨ks,ds,k1,k2,k3,k4⟩:=C.wn;rw[if_pos c'];have k5:=k4 s b;rw[hv]at k5;simp[iI,C.ins,bF,Mi,k1,jV,za,k5,lim];simpa[wv,c,hv]using q
 .have c':¬(1:Int)<(b:Int) -(s:Int):=by lia
  rw[if_neg c'];simp only[wv,if_neg c,lH c]at q;simp[wI,wE,wEs,Cq,m7,lim];refine⟨by lia,?_⟩;by_cases c2:s<b
  .have e:b -s=1:=by lia
   (have hs1:s<hs.length:=by lia);have e2:hs[s]?=some hs[s]:=dw hs1;rw[e];simp[fj,iW,bindC,wTs,wT,wE,iI,C.ins,bF,dM,aB,C.hd,gG hs1,hs1,cP,fV];cases hx:hs[s] with
   |none=>simp[e2,hx]at q;simpa[hdD,pI,newL,fU,truth,lenOf,aB,j7]using q|some x=>simp[e2,hx,c2]at q;simpa[hdD,aK,pI,newL,fU,truth,lenOf,aB,j7,dM,oV]using q
  .have e:b -s=0:=by lia
   rw[e];simp[c2]at q;simpa[fj,iW,newL,fU,truth,lenOf,aB,j7]using q
theorem Ek:Keeps iQ iR oZ:=by
 rintro ds μ Q ⟨o,h,w,hs,f,n,l,r,rfl,C,hl,hr,q⟩;cases l with
 |none=>simpa[iR,iQ,aC,bH,wSs,wS,wT,wE,wEs,cP,fV,j7,pI,ni]using q|some p=>
  cases r with
  |none=>simpa[iR,iQ,aC,bH,wSs,wS,wT,wE,wEs,cP,fV,j7,pI,ni]using q|some p2=>
   obtain⟨x,hx⟩:=hl p rfl;obtain⟨y,hy⟩:=hr p2 rfl;have h1:p<hs.length:=(bT.mp hx).1;have h2:p2<hs.length:=(bT.mp hy).1;simp[iR,iQ,aC,bH,wSs,wS,wT,wE,wEs,cP,fV,j7,pI,iI,C.ins,bF,dM,aB,C.hd,gG h1,gG h2,hx,hy,hdD];refine⟨y,x,rfl,?_⟩;simp only[ni,hx,hy,uL]at q;by_cases c:gM y x=true
   .simpa[c,fU,truth,j7]using q
   .simpa[c,fU,truth,j7]using q
theorem ai6 {μ:Mem} {o h w:Nat} {hs:List Hd} {f:WF} {n:Int} (C:Fe μ o h w hs f n) {ks:List (List iH)} {ds:List D} (hw:μ[w]?=some (.GC ks ds)) (hl:ks.length=ds.length) (hn:(ks.length:Int)<=n) (hk:∀ s b:Nat,eX ks ds [.inl (s:Int),.inl (b:Int)]=(f s b).map j7) (s b:Nat) (v:Option Nat):
  Fe ((μ.set w (.GC (iZ ks [.inl (s:Int),.inl (b:Int)]) (lY ks ds [.inl (s:Int),.inl (b:Int)] (j7 v)))).set o (.ins "Contest" [("heads",.loc h),("winners",.loc w),("played",.int (n+1))])) o h w hs (abf f s b v) (n+1):=by
 obtain⟨n1,n2,n3⟩:=C.ne;have l1:=bN C.at_;have l3:=bN hw;refine⟨by simp[l1],?_,⟨iZ ks [.inl (s:Int),.inl (b:Int)],lY ks ds [.inl (s:Int),.inl (b:Int)] (j7 v),?_,(U8 _ _ _ _ hl).1,?_,fun s' b'=>?_⟩,C.ne⟩
 .rw[cU n1,cU (bL n3)];exact C.hd
 .rw[cU n2];simp[l3]
 .have:=(U8 [pQ (s:Int),pQ (b:Int)] (j7 v) ks ds hl).2;lia
 .rw[ab6 _ _ ks ds hl,hk s' b']
  unfold abf;by_cases c:s'=s/\b'=b
  .obtain⟨rfl,rfl⟩:=c;simp
  .rw[if_neg c,if_neg]
   intro e;apply c;simp at e;lia
theorem J1:Keeps uV vm mF:=by
 rintro ds μ Q ⟨o,h,w,hs,f,n,s,b,rfl,C,hsb,hb,hl,hn,f1,f2,q⟩;have hm:=iw hsb;obtain⟨ks,ds,k1,k2,k3,k4⟩:=C.wn;simp only[vm,uV,aC,bH,wSs,wS,wE,wEs,aX,aW,bh,aN,bB,aO,aJ,bA];refine⟨s,b,rfl,by lia,?_⟩;have w1:wv hs f s (mid s b)=oO hs s (mid s b):=by
  unfold wv;split
  .rename_i c;rw[f1 c];rfl
  .rfl
 have w2:wv hs f (mid s b) b=oO hs (mid s b) b:=by
  unfold wv;split
  .rename_i c;rw[f2 c];rfl
  .rfl
 have isI:∀ m,bF m [("heads",D.loc h),("winners",D.loc w),("played",D.int n)]=none->iz μ "Contest" m (.loc o):=fun m hm=>by simp[iz,C.ins,hm]
 simp only[bZ,bY,bA,aJ,bD];simp;refine⟨isI _ (by simp[bF]),isI _ (by simp[bF]),?_⟩;refine⟨o,h,w,hs,f,n,s,mid s b,rfl,C,by lia,by lia,hl,fun c=>⟨_,f1 c⟩,?_⟩;rw[w1];refine⟨isI _ (by simp[bF]),?_⟩;refine⟨o,h,w,hs,f,n,mid s b,b,rfl,C,by lia,by lia,hl,fun c=>⟨_,f2 c⟩,?_⟩;rw[w2];refine⟨o,h,w,hs,f,n,_,_,rfl,C,fun p e=>(zJ hs (mid s b -s) s (mid s b) (aA _) p e).1,fun p e=>(zJ hs (b -mid s b) (mid s b) b (aA _) p e).1,?_⟩;rw[<-nF hsb];have C2:=ai6 C k1 k2 k3 k4 s b (oO hs s b);obtain⟨n1,n2,n3⟩:=C.ne;have aoq:dG (μ.set w (.GC (iZ ks [.inl (s:Int),.inl (b:Int)]) (lY ks ds [.inl (s:Int),.inl (b:Int)] (j7 (oO hs s b))))) "Contest" (.loc o)=some (o,[("heads",.loc h),("winners",.loc w),("played",.int n)]):=by have:(μ.set w (Cell.GC (iZ ks [.inl (s:Int),.inl (b:Int)]) (lY ks ds [.inl (s:Int),.inl (b:Int)] (j7 (oO hs s b)))))[o]?=μ[o]?:=cU (bL n2);simp[dG,this,C.at_]
 simp[iI,C.ins,bF,Hw,k1,jV,za,aY,lim];refine⟨by lia,?_⟩;simp[aoq,bF,Fi,lJ,putD];refine q _ ?_ C2;exact(Fr.set (by simp)).trans (Fr.set (by simp))
theorem Gv:Keeps tC tE kJ:=by
 rintro ds μ Q ⟨o,h,w,hs,f,n,rfl,C,A,hl,q⟩;simp only[tE,tC,aC,bH,wSs,wS,wE,wEs,aX,aW,bh,aN,bB,aO,aJ];refine⟨by simp[iz,C.ins,bF],?_⟩;simp[iI,C.ins,bF,bQ,lenOf,aB,C.hd];refine⟨o,h,w,hs,f,n,0,hs.length,rfl,C,by lia,by lia,by lia,fun c=>⟨_,A _ _ (.refl _ _) c⟩,?_⟩;have e:wv hs f 0 hs.length=oO hs 0 hs.length:=by
  unfold wv;split
  .rename_i c;rw[A _ _ (.refl _ _) c];rfl
  .rfl
 rw[e];exact q
theorem zm (d:Nat):Keeps fO (fP d) (bV d):=by
 rintro ds μ Q ⟨o,h,w,hs,f,n,s,b,rfl,C,hd,sb,hb,hl,hn,q⟩;have isI:∀ {μ f n} m,Fe μ o h w hs f n->bF m [("heads",D.loc h),("winners",D.loc w),("played",D.int n)]=none->iz μ "Contest" m (.loc o):=fun m C hm=>by simp[iz,C.ins,hm]
 obtain⟨ne1,ne2,ne3⟩:=C.ne;simp[fP,fO,aC,bH,wSs,wS,wT,wE,wEs,jC,cP,fV,aY];by_cases c:1<b -s
 .have c':(1:Int)<(b:Int) -(s:Int):=by lia
  have hm:=iw c;rw[if_pos c'];refine⟨s,b,rfl,by lia,isI _ C (by simp[bF]),?_⟩;cases d with
  |zero=>lia|succ d=>
   (have h2:2 ^ (d+1)=2*2 ^ d:=by rw[Nat.pow_succ];lia);(have h3:mid s b -s<=2 ^ d/\b -mid s b<=2 ^ d:=by unfold mid;lia);refine⟨o,h,w,hs,f,n,s,mid s b,rfl,C,h3.1,by lia,by lia,hl,by lia,fun μ1 f1 F1 C1 a1 b1=>?_⟩;refine⟨isI _ C1 (by simp[bF]),?_⟩;refine⟨o,h,w,hs,f1,_,mid s b,b,rfl,C1,h3.2,by lia,by lia,hl,by lia,fun μ2 f2 F2 C2 a2 b2=>?_⟩;refine⟨isI _ C2 (by simp[bF]),?_⟩;have l1:1<mid s b -s->f2 s (mid s b)=some (oO hs s (mid s b)):=fun c1=>by rw[b2 _ _ (by lia)];exact a1 _ _ (.refl _ _) c1
   refine⟨o,h,w,hs,f2,_,s,b,rfl,C2,c,hb,hl,by lia,l1,fun c1=>a2 _ _ (.refl _ _) c1,fun μ3 F3 C3=>?_⟩;refine q μ3 _ ((F1.trans F2).trans F3) (by (have e:n+((mid s b -s -1:Nat):Int)+((b -mid s b -1:Nat):Int)+1=n+((b -s -1:Nat):Int):=by lia);rw[e]at C3;exact C3) ?_ ?_
   .intro s' b' it c1
    unfold abf;by_cases e:s'=s/\b'=b
    .rw[if_pos e,e.1,e.2]
    .rw[if_neg e]
     cases it with
     |refl=>exact absurd ⟨rfl,rfl⟩ e|left _ i=>have:=i.sub;rw[b2 _ _ (by lia)];exact a1 _ _ i c1|right _ i=>exact a2 _ _ i c1
   .intro s' b' hh
    unfold abf;rw[if_neg (by rintro⟨rfl,rfl⟩;exact hh ⟨aA _,aA _⟩),b2 _ _ (by lia),b1 _ _ (by lia)]
 .have c':¬(1:Int)<(b:Int) -(s:Int):=by lia
  rw[if_neg c'];refine q μ f Fr.refl (by (have e:n+((b -s -1:Nat):Int)=n:=by lia);rw[e];exact C) (fun s' b' it c1=>?_) fun _ _ _=>rfl
  have:=it.sub;lia
theorem J2:Keeps uW vo sX:=by
 rintro ds μ Q ⟨o,hs,rfl,ho,h2,q⟩;have lo:=bN ho;have e1:∀ ν:Mem,(μ++ν)[o]?=some (.ins "Contest" []):=fun ν=>by rw[dU lo];exact ho
 have st:∀ (ν:Mem) (c:Cell),((μ.set o c)++ν)[o]?=some c:=fun ν c=>by rw[dU (by simpa using lo)];simp[lo]
 simp[vo,uW,aC,bH,wSs,wS,wE,wEs,bQ,aB,newL,lJ,dG,e1,putD];rw[Qv _ _ lo];simp[st];rw[Qv _ _ (by simpa using lo)];simp[st];rw[Qv _ _ (by simpa using lo)];have C:Fe (μ.set o (.ins "Contest" [("heads",.loc μ.length),("winners",.loc (μ.length+1)),("played",.int 0)])++[Cell.lst (hs.map hdD),Cell.GC [] []]) o μ.length (μ.length+1) hs (fun _ _=>none) 0:=by
  refine⟨st _ _,?_,⟨[],[],?_,rfl,by simp,fun _ _=>by simp[eX]⟩,by lia,by lia,by lia⟩
  .rw[nQ (by simp)];simp
  .rw[nQ (by simp)];simp
 have p1:putD "winners" (D.loc (μ.length+1)) [("heads",D.loc μ.length)]=[("heads",.loc μ.length),("winners",.loc (μ.length+1))]:=by simp[putD]
 have p2:putD "played" (D.int 0) [("heads",D.loc μ.length),("winners",D.loc (μ.length+1))]=[("heads",.loc μ.length),("winners",.loc (μ.length+1)),("played",.int 0)]:=by simp[putD]
 rw[p1,p2];refine⟨by simp,by simp[iz,C.ins,bF],?_⟩;simp[C.ins,bF,iI,lenOf,aB,C.hd];refine⟨o,μ.length,μ.length+1,hs,_,0,0,hs.length,rfl,C,by lia,by lia,by lia,by lia,by lia,fun μ' f' F C' a b=>?_⟩;refine q μ' μ.length (μ.length+1) f' ?_ (by
  have e:(0:Int)+((hs.length -0 -1:Nat):Int)=((hs.length -1:Nat):Int):=by lia
  rw[e]at C';exact C') (fun s b it c=>a s b it c) (aA _) (yq _)
 refine⟨?_,fun m hm hS=>?_⟩
 .have:=F.1;simp at this;lia
 .have hS':m≠o:=by simpa using hS
  rw[F.2 m (by simp;lia) (by simp;lia),dU (by simpa using hm),cU (bL hS')]
theorem Lr:Keeps xJ xQ uf:=by
 rintro ds μ Q ⟨o,h,w,hs,f,n,p,x,rfl,C,A,hp,hl,hn,q⟩;obtain⟨ne1,ne2,ne3⟩:=C.ne;simp only[xQ,xJ,aC,bH,wSs,wS,wE,wEs,aX,aW,bh,aN,bB,aO,aJ,bA];refine⟨by simp[iz,C.ins,bF],o,h,w,hs,f,n,p,rfl,C,hp,?_⟩;have C1:Fe (μ.set h (.lst ((hs.set p x).map hdD))) o h w (hs.set p x) f n:=by
  obtain⟨ks,ds,k1,k2⟩:=C.wn;refine⟨?_,?_,⟨ks,ds,?_,k2⟩,C.ne⟩
  .rw[cU (bL ne1)];exact C.at_
  .simp[bN C.hd]
  .rw[cU ne3];exact k1
 have alN:((hs.map hdD).set p (hdD x))=(hs.set p x).map hdD:=by rw[Pa]
 have g1:bF "heads" [("heads",D.loc h),("winners",D.loc w),("played",D.int n)]=some (.loc h):=by simp[bF]
 have lm:(hs.map hdD).length=hs.length:=by simp
 simp only[iI,C.ins,g1,q9,aY,C.hd,lm,gG hp,alN];simp only[wI,wE,wEs,iI,C1.ins,g1,bQ,lenOf,aB,C1.hd,aJ,bA,gR,aR,adP];refine⟨p,hs.length,rfl,hp,by lia,?_⟩;simp only[ahB,cC,aB];have C2:Fe (μ.set h (.lst ((hs.set p x).map hdD))++[Cell.gone]) o h w (hs.set p x) f n:=C1.fr (S:=[]) Fr.app (by simp) (by simp) (by simp);have dsc:=(K5 p hs.length 0 hs.length (by lia)).1;have ain:=ZW (p:=p) hs.length 0 hs.length (by lia) (by lia) hp;have aqq:=Cd p hs.length 0 hs.length (by lia);have start:∀ s b,Nx 0 hs.length s b->1<b -s->(s,b)∉zL p 0 hs.length->f s b=some (oO (hs.set p x) s b):=fun s b it c hno=>by rw[RP hs p x (b -s) s b (aA _) fun z=>hno (alK it z c)];exact A s b it c
 have er:(zL p 0 hs.length).reverse.map SM=((zL p 0 hs.length).map SM).reverse:=by simp
 rw[<-List.map_reverse];refine cV (fun ds ρ μ'=>∃ (l dn:List (Nat×Nat)) (f':WF) (a c:Option D),ds=l.map SM/\l.reverse++dn=zL p 0 hs.length/\Fr [o,w] (μ.set h (.lst ((hs.set p x).map hdD))++[Cell.gone]) μ'/\Fe μ' o h w (hs.set p x) f' (n+(dn.length:Int))/\
  (∀ s b,Nx 0 hs.length s b->1<b -s->(s,b)∉l->f' s b=some (oO (hs.set p x) s b))/\ρ=[some (.loc o),some (.int (p:Int)),some (hdD x),a,c]) ?_ ?_ _ _ _ ⟨(zL p 0 hs.length).reverse,[],f,none,none,rfl,by simp,Fr.refl,by simpa using C2,fun s b it c hno=>start s b it c (by simpa using hno),rfl⟩
 .rintro d ds ρ μ1 N hN ⟨l,dn,f',a,c,e,hl2,F,C',al,rfl⟩
  cases l with
  |nil=>simp at e|cons y l=>
   obtain⟨s,b⟩:=y;simp only[aX,m6]at e;obtain⟨rfl,rfl⟩:=e;refine⟨by simp[cC,aB],?_⟩;(have hmem:(s,b)∈zL p 0 hs.length:=by rw[<-hl2];simp);have it:Nx 0 hs.length s b:=(ain _ hmem).1;have sb:1<b -s:=(ain _ hmem).2.1;have hsub:=it.sub;have hm:=iw sb;have big:∀ y∈l,b -s<y.2 -y.1:=fun y hy=>by rw[<-hl2]at dsc;(have:(l.reverse++(s,b)::dn).Pairwise (fun x y=>y.2 -y.1<x.2 -x.1):=by simpa using dsc);exact(Ju.mp this).2.2 y (by simpa using hy) (s,b) (by simp)
   simp[SM,fB];refine⟨by simp[iz,C'.ins,bF],?_⟩;(have hlen:(hs.set p x).length=hs.length:=by simp);have dl:dn.length<=64:=by have:=congrArg dR hl2;simp at this;lia
   refine⟨o,h,w,hs.set p x,f',_,s,b,rfl,C',sb,by lia,by lia,by lia,fun c1=>al _ _ (it.l sb) c1 ?_,fun c1=>al _ _ (it.r sb) c1 ?_,fun μ2 F2 C2'=>?_⟩
   .intro hmm
    rcases bC.mp hmm with e|hmm
    .simp only[Jh]at e;lia
    .have:=big _ hmm;simp only at this;lia
   .intro hmm
    rcases bC.mp hmm with e|hmm
    .simp only[Jh]at e;lia
    .have:=big _ hmm;simp only at this;lia
   .refine hN _ _ ⟨l,(s,b)::dn,_,_,_,rfl,by simpa using hl2,F.trans F2,by (have e:n+((dn.length:Nat):Int)+1=n+(((s,b)::dn).length:Int):=by simp;lia);rw[e]at C2';exact C2',fun s' b' it' c1 hno=>?_,rfl⟩
    unfold abf;by_cases e:s'=s/\b'=b
    .rw[if_pos e,e.1,e.2]
    .rw[if_neg e]
     refine al s' b' it' c1 fun hmm=>?_;rcases bC.mp hmm with e2|hmm
     .simp only[Jh]at e2;exact e e2
     .exact hno hmm
 .rintro ρ μ1 ⟨l,dn,f',a,c,e,hl2,F,C',al,rfl⟩
  cases l with
  |cons y l=>simp at e|nil=>
   refine⟨by simp[cC,aB],?_⟩;simp at hl2;subst hl2;refine q μ1 f' ?_ C' fun s b it c1=>al s b (by simpa using it) c1 (by simp);refine((Fr.set (S:=[o,h,w]) (by simp)).trans Fr.app).trans (F.more ?_);intro m hm;simp at hm ⊢;rcases hm with rfl|rfl
   .exact .inl rfl
   .exact .inr (.inr rfl)
theorem KY:∀ (n s b:Nat),b -s<=n->oO hs s b=none->∀ q,s<=q->q<b->¬Is hs q
 |0,s,b,hn,h,q,h1,h2=>by lia|n+1,s,b,hn,h,q,h1,h2=>by
  by_cases c:1<b -s
  .have hm:=iw c
   rw[nF c]at h;have hl:oO hs s (mid s b)=none/\oO hs (mid s b) b=none:=by
    cases e1:oO hs s (mid s b) with
    |none=>rw[e1]at h;exact⟨rfl,h⟩|some p1=>
     rw[e1]at h;cases e2:oO hs (mid s b) b with
     |none=>rw[e2]at h;cases h
     |some p2=>
      rw[e2]at h;simp only[ni]at h;split at h
      .split at h<;>cases h
      .cases h
   by_cases cq:q<mid s b
   .exact KY n s (mid s b) (by lia) hl.1 q h1 cq
   .exact KY n (mid s b) b (by lia) hl.2 q (by lia) h2
  .rw[lH c]at h
   (have e:q=s:=by lia);subst e;rintro⟨x,hx⟩;rw[if_pos ⟨by simp[hx],by lia⟩]at h;cases h
def one (hs:List Hd) (p:Nat):Option Nat:=if(hs[p]?.join).isSome=true then some p else none
def fld (hs:List Hd) (l:List Nat) (a:Option Nat):Option Nat:=l.foldl (fun a p=>ni hs a (one hs p)) a
def Vd (hs:List Hd) (a:Option Nat):Prop:=∀ p,a=some p->Is hs p
theorem GQ:Vd hs none:=fun p e=>by cases e
theorem NQ:Vd hs (one hs p):=fun q e=>by
 unfold one at e;split at e
 .rename_i c
  cases e;cases e2:hs[p]? with
  |none=>rw[e2]at c;simp at c|some o=>cases o with|none=>rw[e2]at c;simp at c|some x=>exact⟨x,e2⟩
 .cases e
theorem Z8 (ha:Vd hs a) (hb:Vd hs b):Vd hs (ni hs a b):=fun p e=>by
 rcases aa3 e with e|e
 .exact ha p e
 .exact hb p e
theorem wj (a:Option Nat):ni hs a none=a:=by cases a<;>rfl
theorem iV (hx:hs[p]?=some (some x)) (hy:hs[q]?=some (some y)):ni hs (some p) (some q)=if gM y x=true then some q else some p:=by simp only[ni,hx,hy,uL]
theorem ZQ (ha:Vd hs a) (hb:Vd hs b) (hc:Vd hs c):ni hs (ni hs a b) c=ni hs a (ni hs b c):=by
 cases a with
 |none=>rfl|some p=>
  cases b with
  |none=>rfl|some q=>
   cases c with
   |none=>rw[wj,wj]|some r=>
    obtain⟨x,hx⟩:=ha p rfl;obtain⟨y,hy⟩:=hb q rfl;obtain⟨z,hz⟩:=hc r rfl;rw[iV hx hy,iV hy hz];by_cases c1:gM y x=true
    .rw[if_pos c1,iV hy hz]
     by_cases c2:gM z y=true
     .rw[if_pos c2,iV hx hz,if_pos]
      cases c3:gM z x with
      |true=>rfl|false=>have:=jz x z y c3 (qI _ _ c2);rw[c1]at this;cases this
     .rw[if_neg c2,iV hx hy,if_pos c1]
    .rw[if_neg c1,iV hx hz]
     by_cases c2:gM z y=true
     .rw[if_pos c2,iV hx hz]
     .rw[if_neg c2,iV hx hy,if_neg c1,if_neg]
      have:=jz x y z (by simpa using c1) (by simpa using c2);simp[this]
theorem Zq:∀ (l:List Nat) (a:Option Nat),Vd hs a->Vd hs (fld hs l a)
 |[],a,h=>h|p::l,a,h=>Zq l _ (Z8 h NQ)
theorem Rw:∀ (l:List Nat) (a:Option Nat),Vd hs a->fld hs l a=ni hs a (fld hs l none)
 |[],a,h=>(wj a).symm|p::l,a,h=>by have e1:fld hs (p::l) a=fld hs l (ni hs a (one hs p)):=rfl;have e2:fld hs (p::l) none=fld hs l (one hs p):=rfl;rw[e1,e2,Rw l _ (Z8 h NQ),Rw l (one hs p) NQ];exact ZQ h NQ (Zq l none GQ)
theorem RQ (hs:List Hd):∀ (n s b:Nat),b -s<=n->s<=b->oO hs s b=fld hs (fZ s (b -s)) none
 |0,s,b,hn,_=>by
  have e:b -s=0:=by lia
  rw[lH (by lia),e];have:¬s<b:=by lia
  simp[this,fld]
 |n+1,s,b,hn,hsb=>by
  by_cases c:1<b -s
  .have hm:=iw c
   rw[nF c,RQ hs n s (mid s b) (by lia) (by lia),RQ hs n (mid s b) b (by lia) (by lia)];have e:fZ s (b -s)=fZ s (mid s b -s)++fZ (mid s b) (b -mid s b):=by (have e1:mid s b=s+(mid s b -s):=by lia);(have e2:b -s=(mid s b -s)+(b -mid s b):=by lia);rw[e2,<-List.range'_append_1,<-e1]
   rw[e];show _=List.foldl _ _ _;rw[Jo];exact(Rw _ _ (Zq _ none GQ)).symm
  .rw[lH c]
   by_cases c2:s<b
   .have e:b -s=1:=by lia
    rw[e];show _=ni hs none (one hs s);show _=one hs s;simp[one,c2]
   .have e:b -s=0:=by lia
    rw[e];simp[c2,fld]
def Lc (d:D):Prop:=(∃ n,d= .loc n)∨∃ l,d= .lst l
theorem Hv (h:Lc d) (hs:aB μ d=some ds) (hi:oV ds.length i=some p) (hp:ds[p]?=some e):dM d (.int i) μ Q=Q e μ:=by
 rcases h with⟨n,rfl⟩|⟨l,rfl⟩
 .simp[dM,hs,hi,hp]
 .simp[dM,hs,hi,hp]
theorem Fr.new {S:List Nat} {μ0 μ μ':Mem} (a:Fr [] μ0 μ) (b:Fr S μ μ') (h:∀ m∈S,μ0.length<=m):Fr [] μ0 μ' :=
 ⟨gD a.1 b.1,fun m hm _=>by rw[b.2 m (f9 hm a.1) (fun z=>by have:=h m z;lia),a.2 m hm (by simp)]⟩
theorem Fr.aku {μ0 μ:Mem} {t:Nat} (a:Fr [] μ0 μ) (c:Cell) (h:μ0.length<=t):Fr [] μ0 (μ.set t c):=a.new (S:=[t]) (Fr.set (by simp)) (by simpa using h)
theorem Fr.afB (a:Fr [] μ0 μ) (ν:Mem):Fr [] μ0 (μ++ν):=a.trans Fr.app
theorem Fr.get {μ0 μ:Mem} {i:Nat} {c:Cell} (a:Fr [] μ0 μ) (g:μ0[i]?=some c):μ[i]?=some c:=by rw[a.2 i (bN g) (by simp)];exact g
theorem Fr.seq {μ0 μ:Mem} {d:D} {es:List D} (a:Fr [] μ0 μ) (g:aB μ0 d=some es):aB μ d=some es:=by
 cases d with
 |loc n=>
  simp only[aB]at g ⊢;split at g
  .rename_i q;rw[a.get q];exact g
  .cases g
 |_=>exact g
end DW.Ny
namespace DW.sJ
open PySem DW DW.VD DW.Ny
def Gk (μ:Mem) (d:D) (r:List Itm):Prop:=Lc d/\aB μ d=some (r.map aK)
def vI (μ:Mem) (d:D) (rs:List (List Itm)):Prop:=Lc d/\∃ es:List D,aB μ d=some es/\es.length=rs.length/\∀ (i:Nat) (e:D) (r:List Itm),es[i]?=some e->rs[i]?=some r->Gk μ e r
theorem Gk.fr (h:Gk μ0 d r) (a:Fr [] μ0 μ):Gk μ d r:=⟨h.1,a.seq h.2⟩
theorem vI.fr (h:vI μ0 d rs) (a:Fr [] μ0 μ):vI μ d rs:=by obtain⟨h1,es,h2,h3,h4⟩:=h;exact⟨h1,es,a.seq h2,h3,fun i e r x y=>(h4 i e r x y).fr a⟩
theorem alv (hl:Lc d) (h:aB μ d=some es):cC μ d=some es:=by rcases hl with⟨n,rfl⟩|⟨l,rfl⟩<;>exact h
theorem agd (hl:Lc d) (h:aB μ d=some es):lenOf μ d=some es.length:=by
 rcases hl with⟨n,rfl⟩|⟨l,rfl⟩
 .show adk (·.length) (aB μ (.loc n))=_;rw[h];rfl
 .show adk (·.length) (aB μ (.lst l))=_;rw[h];rfl
theorem Z6 {μ:Mem} {d:D} {es:List D} {Q:QI} (hl:Lc d) (h:aB μ d=some es) (q:∀ g:Mem->Prop,(∀ μ',Fr [] μ μ'->g μ')->Q es g μ):mz d μ Q:=by
 rcases hl with⟨n,rfl⟩|⟨l,rfl⟩
 .simp only[aB]at h
  split at h
  .rename_i ds e
   cases h;simp only[mz,e];exact q _ fun μ' F=>F.get e
  .cases h
 .simp only[aB,qx]at h
  subst h;exact q _ fun _ _=>trivial
theorem Om (h:Gk μ d r) (hk:k<r.length) (q:Q (aK r[k]) μ):dM d (.int (k:Int)) μ Q:=by rw[Hv h.1 h.2 (p:=k) (e:=aK r[k]) (by rw[aR];exact gG hk) (by simp[hk])];exact q
theorem ac9 (h:vI μ d rs) (hk:k<rs.length) (q:∀ e,Gk μ e rs[k]->Q e μ):dM d (.int (k:Int)) μ Q:=by
 obtain⟨h1,es,h2,h3,h4⟩:=h;have hk':k<es.length:=by lia
 rw[Hv h1 h2 (p:=k) (e:=es[k]) (gG hk') (by simp[hk'])];exact q _ (h4 k _ _ (dw hk') (dw hk))
def hds (rs:List (List Itm)):List Hd:=rs.map List.head?
def uN:Nat->List (List Itm)->List (Itm×Nat)
 |0,_=>[]|n+1,rs=>match oO (hds rs) 0 (hds rs).length with|none=>[]|some p=>match rs[p]? with|some (x::t)=>(x,p)::uN n (rs.set p t)|_=>[]
def DR (rs:List (List Itm)):List (Itm×Nat):=uN rs.flatten.length rs
def amH (rs:List (List Itm)):List Itm:=(DR rs).map (·.1)
def pTr (rs:List (List Itm)):List Nat:=(DR rs).map (·.2)
theorem KZ (h:oO (hds rs) 0 (hds rs).length=some p):p<rs.length/\∃ x t,rs[p]?=some (x::t):=by
 obtain⟨⟨x,hx⟩,_,hp⟩:=zJ _ _ 0 _ (aA _) p h;have hp':p<rs.length:=by simpa[hds]using hp
 refine⟨hp',?_⟩;simp only[hds,jy,dw hp',gR,qx]at hx;cases e:rs[p] with
 |nil=>rw[e]at hx;cases hx
 |cons y t=>exact⟨y,t,by rw[dw hp',e]⟩
theorem yO (h:oO (hds rs) 0 (hds rs).length=some p) (e:rs[p]?=some (x::t)):uN (n+1) rs=(x,p)::uN n (rs.set p t):=by rw[uN,h];simp only[e]
theorem JC (h:oO (hds rs) 0 (hds rs).length=none):uN n rs=[]:=by
 cases n with
 |zero=>rfl|succ n=>rw[uN,h]
theorem Ah:∀ (rs:List (List Itm)) (p:Nat) (x:Itm) (t:List Itm),rs[p]?=some (x::t)->(rs.set p t).flatten.length+1=rs.flatten.length
 |[],p,x,t,h=>by simp at h|r::rs,0,x,t,h=>by simp only[aJ,qx]at h;subst h;simp only[bY,X8,eO,bh];lia|r::rs,p+1,x,t,h=>by have:=Ah rs p x t (by simpa using h);simp only[bZ,X8,eO];lia
theorem aiP (rs:List (List Itm)) (p:Nat) (t:List Itm):hds (rs.set p t)=(hds rs).set p t.head?:=by simp[hds,Pa]
def Rst (rs rest:List (List Itm)) (tk:List Nat):Prop:=rest.length=rs.length/\tk.length=rs.length/\∀ (i:Nat) (r:List Itm),rs[i]?=some r->∃ k,tk[i]?=some k/\k<=r.length/\rest[i]?=some (r.drop k)
theorem Rst.start (rs:List (List Itm)):Rst rs rs (rs.map fun _=>0):=⟨rfl,by simp,fun i r h=>⟨0,by simp[h],jG _,by simpa using h⟩⟩
theorem Rst.step (R:Rst rs rest tk) (hp:p<rs.length) (e:rest[p]?=some (x::t)):
  ∃ k,tk[p]?=some k/\k<rs[p].length/\rs[p][k]?=some x/\rs[p][k+1]?=t.head?/\Rst rs (rest.set p t) (tk.set p (k+1)):=by
 obtain⟨R1,R2,R3⟩:=R;obtain⟨k,k1,k2,k3⟩:=R3 p _ (dw hp);rw[e]at k3;simp only[qx]at k3;have hk:k<rs[p].length:=by
  rcases Dn k rs[p].length with q|q
  .exact q
  .rw[Im q]at k3;cases k3
 have e1:rs[p].drop k=rs[p][k]::rs[p].drop (k+1):=Io hk;rw[e1]at k3;simp only[m6]at k3;obtain⟨rfl,rfl⟩:=k3;refine⟨k,k1,hk,dw hk,by rw[List.head?_drop],by simpa using R1,by simpa using R2,fun i r h=>?_⟩;by_cases c:i=p
 .subst c
  rw[dw hp]at h;simp only[qx]at h;subst h;refine⟨k+1,?_,hk,?_⟩
  .rw[eU (by lia)]
  .rw[eU (by lia)]
 .obtain⟨k',a,b,c'⟩:=R3 i r h
  exact⟨k',by rw[cU (bL c)];exact a,b,by rw[cU (bL c)];exact c'⟩
def tY:dz:=fun ds μ Q=>∃ (d:D) (r:List Itm),ds=[d]/\Gk μ d r/\r.length<1000/\∀ b:Bool,(b=true<->Adj r)->Q (.bl b) μ
def sW:dz:=fun ds μ Q=>∃ (d:D) (rs:List (List Itm)),ds=[d]/\vI μ d rs/\(∀ r∈rs,Adj r/\r.length<1000)/\Q .non μ
def xX:dz:=fun ds μ Q=>∃ (d:D) (r:List Itm) (k:Nat),ds=[d,aY k]/\Gk μ d r/\Q (hdD r[k]?) μ
def GZ:dz:=fun ds μ Q=>∃ (d:D) (rs:List (List Itm)),ds=[d]/\vI μ d rs/\(∀ r∈rs,Adj r/\r.length<1000)/\rs.length<=64/\rs.length*(rs.flatten.length+1)<5000/\rs.flatten.length<5000/\
 ∀ (μ':Mem) (a b:Nat),Fr [] μ μ'->μ.length<=a->μ.length<=b->a≠b->μ'[a]?=some (.lst ((amH rs).map aK))->μ'[b]?=some (.lst ((pTr rs).map aY))->Q (.tup [.loc a,.loc b]) μ'
def Az:List Str:=["row","place"]
def Bo:Ss:=(.cons (.for_ [1] false (.rng (.cons (.cst (.int 1)) (.cons (.blt "len" (.cons (.var 0) .nil)) .nil))) (.cons (.ite (.call "less" vN (.cons (.idx (.var 0) (.var 1)) (.cons (.idx (.var 0) (.bin .Sub (.var 1) (.cst (.int 1)))) .nil))) (.cons (.ret (.cst (.bl false))) .nil) .nil) .nil)) (.cons (.ret (.cst (.bl true))) .nil))
def uU:List Str:=["runs","at","run"]
def vh:Ss:=(.cons (.for_ [1,2] true (.enum (.var 0)) (.cons (.ite (.not (.call "rises" tY (.cons (.var 2) .nil))) (.cons .Y4 .nil) .nil) .nil)) .nil)
def M4:List Str:=["run","taken"]
def Nj:Ss:=(.cons (.ret (.ife (.cmp .Lt (.var 1) (.blt "len" (.cons (.var 0) .nil))) (.idx (.var 0) (.var 1)) (.cst .non))) .nil)
def afZ:List Str:=["runs","taken","contest","row","trace","number"]
def N7:Ss:=(.cons (.set 1 (.comp true 1 false [] (.cst (.int 0)) (.seq (.var 0)) .nil)) (.cons (.set 2 (.mk "Contest" sX (.cons (.comp false 1 false [] (.call "head_of" xX (.cons (.var 0) (.cons (.cst (.int 0)) .nil))) (.seq (.var 0)) .nil) .nil))) (.cons (.set 3 (.lst true .nil)) (.cons (.set 4 (.lst true .nil)) (.cons (.set 5 (.rW "Contest" "first" kJ (.var 2) .nil)) (.cons (.whl (.cmp .IsNot (.var 5) (.cst .non)) (.cons (.exp (.meth "append" (.var 3) (.cons (.rW "Contest" "head" sY (.var 2) (.cons (.var 5) .nil)) .nil))) (.cons (.exp (.meth "append" (.var 4) (.cons (.var 5) .nil))) (.cons (.Nu .Add (.var 1) (.var 5) (.cst (.int 1))) (.cons (.exp (.rW "Contest" "put" uf (.var 2) (.cons (.var 5) (.cons (.call "head_of" xX (.cons (.idx (.var 0) (.var 5)) (.cons (.idx (.var 1) (.var 5)) .nil))) .nil)))) (.cons (.set 5 (.rW "Contest" "first" kJ (.var 2) .nil)) .nil)))))) (.cons (.ret (.tup (.cons (.var 3) (.cons (.var 4) .nil)))) .nil)))))))
def ags:Ss:=(.cons (.exp (.call "check_rising" sW (.cons (.var 0) .nil))) N7)
theorem Rc:Keeps Az Bo tY:=by
 rintro ds μ Q ⟨d,r,rfl,hd,hl,h⟩;have hln:=agd hd.1 hd.2;simp[Bo,Az,aC,bH,wSs,wS,wE,wEs,wI,wT,bQ,hln,Cq,m7];refine⟨⟨by simp only[lim];lia,by lia⟩,?_⟩;refine cV (fun ds ρ μ'=>∃ (m:Nat) (u:Option D),ds=(fZ m (r.length -1 -m)).map (fun(k:Nat)=>D.int (1+(k:Int)))/\(∀ i (h:i+1<r.length),i<m->gM (r[i+1]'h) (r[i]'(by lia))=false)/\μ'=μ/\ρ=[some d,u]) ?_ ?_ _ _ _ ⟨0,none,?_,fun i h1 h2=>by lia,rfl,rfl⟩
 .rintro d' ds ρ μ' N hN ⟨m,u,e,hm,rfl,rfl⟩
  have hm2:m<r.length -1:=by
   by_cases q:m<r.length -1
   .exact q
   .rw[show r.length -1 -m=0 by lia]at e;simp at e
  have e0:fZ m (r.length -1 -m)=m::fZ (m+1) (r.length -1 -(m+1)):=by rw[show r.length -1 -m=(r.length -1 -(m+1))+1 by lia,Du]
  rw[e0]at e;simp at e;obtain⟨rfl,rfl⟩:=e;refine⟨trivial,?_⟩;have h1:m+1<r.length:=by lia
  have h2:m<r.length:=by lia
  have e1:(1+(m:Int))=((m+1:Nat):Int):=by lia
  have e2:1+(m:Int) -1=(m:Int):=by lia
  simp only[fB,bY,bZ,aJ,bA,jC,e2];rw[e1];refine Om hd h1 (Om hd h2 ?_);refine⟨r[m+1],r[m],rfl,?_⟩;simp[fU,truth];by_cases q:gM r[m+1] r[m]=true
  .rw[if_pos q]
   refine h false ⟨fun z=>Bool.noConfusion z,fun z=>?_⟩;have:=z m h1;rw[q]at this;cases this
  .rw[if_neg q]
   refine hN _ _ ⟨m+1,_,rfl,fun i a b=>?_,rfl,rfl⟩;by_cases z:i=m
   .subst z;simpa using q
   .exact hm i a (by lia)
 .rintro ρ μ' ⟨m,u,e,hm,rfl,rfl⟩
  have hm2:r.length -1 -m=0:=by have:=congrArg dR e;simp at this;lia
  exact⟨trivial,h true ⟨fun _ i a=>hm i a (by lia),fun _=>rfl⟩⟩
 .simp only[fj]
  rw[Qx];congr 1
theorem abP:Keeps M4 Nj xX:=by
 rintro ds μ Q ⟨d,r,k,rfl,hd,h⟩;have hln:=agd hd.1 hd.2;simp only[Nj,M4,aC,bH,wSs,wS,wT,wE,wEs,aY,bQ,hln,aX,aW,bh,aN,bB,aO,aJ,bA,cP,M8,fV,aR];by_cases c:k<r.length
 .have c':(k:Int)<(r.length:Int):=by lia
  simp only[c',decide_true,if_true];refine Om hd c ?_;rw[dw c]at h;exact h
 .have c':¬(k:Int)<(r.length:Int):=by lia
  simp only[c',decide_false,cg,if_false];rw[Qz (by lia)]at h;exact h
theorem J0:Keeps uU vh sW:=by
 rintro ds μ Q ⟨d,rs,rfl,hd,ha,h⟩;obtain⟨h1,es,h2,h3,h4⟩:=hd;have hls:=alv h1 h2;simp only[vh,uU,aC,bH,wSs,wS,wE,wEs,wI,R9,hls,aX,aW,bh,aN,bB,aO,aJ,bD];refine cV (fun ds ρ μ'=>∃ (j:Nat) (a b:Option D),ds=oN j (es.drop j)/\μ'=μ/\ρ=[some d,a,b]) ?_ ?_ _ _ _ ⟨0,none,none,by simp,rfl,rfl⟩
 .rintro d' ds ρ μ' N hN ⟨j,a,b,e,rfl,rfl⟩
  refine⟨hls,?_⟩;have hj:j<es.length:=by
   rcases Dn j es.length with q|q
   .exact q
   .rw[Im q]at e;simp[oN]at e
  rw[Io hj]at e;simp only[oN,m6]at e;obtain⟨rfl,rfl⟩:=e;simp only[fB,Js,Yl,qu,PB,bY,bZ,aJ,bA,wT,wE,wEs];have hj':j<rs.length:=by lia
  have hr:=ha _ (Qh hj');refine⟨rfl,es[j],rs[j],rfl,h4 j _ _ (dw hj) (dw hj'),hr.2,fun b hb=>?_⟩;have hb':b=true:=hb.mpr hr.1;subst hb';simp only[fU,truth,kY,cg,if_false,wSs];exact hN _ _ ⟨j+1,_,_,rfl,rfl,rfl⟩
 .rintro ρ μ' ⟨j,a,b,e,rfl,rfl⟩
  exact⟨hls,h⟩
theorem zeros {es:List D} {rs:List (List Itm)} (h:es.length=rs.length):(es.map fun _=>D.int 0)=(rs.map fun _=>0).map aY:=by simp only[List.map_const',List.map_replicate,h,aY];rfl
theorem Zm {μ:Mem} {es:List D} {rs:List (List Itm)} (h3:es.length=rs.length):(es.zip rs).map (fun p=>hdD p.2[0]?)=(hds rs).map hdD:=by have e:(es.zip rs).map Wu=rs:=Qi (by lia);rw[<-e];simp only[hds,jN];rw[e];refine Jt fun p _=>?_;simp[ae8]
theorem Wb {Z:j6} {μ:Mem} {d:D} {rs:List (List Itm)} (hd:vI μ d rs) (hn:rs.length<=64) (hm:rs.length*(rs.flatten.length+1)<5000) (hf:rs.flatten.length<5000)
  (h:∀ (μ':Mem) (a b:Nat),Fr [] μ μ'->μ.length<=a->μ.length<=b->a≠b->μ'[a]?=some (.lst ((amH rs).map aK))->μ'[b]?=some (.lst ((pTr rs).map aY))->Z.rt (.tup [.loc a,.loc b]) μ'):
  wSs N7 Z [some d,none,none,none,none,none] μ:=by
 have hd':=hd;obtain⟨h1,es,h2,h3,h4⟩:=hd';simp only[N7,wSs,wS,wE,wEs,wI,aX,aW,bh,aN,bB,aO,aJ,bD];refine Z6 h1 h2 fun g hg=>?_;refine Cr (fun _=>true) (fun _=>D.int 0) (hg _ Fr.refl) _ _ ?_ ?_
 .intro e he Y N z
  simpa[bindC,wTs]using z
 rw[Qu.mpr (by simp),aO,zeros h3];simp only[newL,bY,bZ,aJ,bA];have F1:Fr [] μ (μ++[Cell.lst ((rs.map fun _=>0).map aY)]):=Fr.app;have t1:(μ++[Cell.lst ((rs.map fun _=>0).map aY)])[μ.length]?=some (.lst ((rs.map fun _=>0).map aY)):=by simp
 have l1:(μ++[Cell.lst ((rs.map fun _=>0).map aY)]).length=μ.length+1:=by simp
 generalize μ++[Cell.lst ((rs.map fun _=>0).map aY)]=μ1 at F1 t1 l1;refine Z6 h1 (F1.seq h2) fun g hg=>?_;have ez:es=(es.zip rs).map Ow:=(X3 (by lia)).symm;rw[ez];refine dI Ow (fun p=>hdD p.2[0]?) (hg _ Fr.refl) _ _ ?_ ?_
 .intro p hp Y N z
  obtain⟨i,i1,i2⟩:=T4 hp;simp only[bindC,wTs,wE,wEs,aW,aJ,if_true];exact⟨p.1,p.2,0,rfl,(h4 i _ _ i1 i2).fr F1,z⟩
 rw[aO,Zm (μ:=μ) h3];have lh:(hds rs).length=rs.length:=by simp[hds]
 refine⟨μ1.length,hds rs,rfl,by simp,by lia,fun μ2 hh ww f F2 C A hlo wlo=>⟨rfl,?_⟩⟩;have F2':Fr [] μ μ2:=(F1.afB _).new F2 (by simp;lia);have o1:μ1.length=μ.length+1:=l1;have t2:μ2[μ.length]?=some (.lst ((rs.map fun _=>0).map aY)):=by rw[F2.2 μ.length (by simp;lia) (by simp;lia),dU (by lia)];exact t1
 simp only[eO,bh,aN]at hlo wlo;rw[o1]at C hlo wlo ⊢;have ne:=C.ne;simp only[bY,bZ,aJ,bA,newL,eO,bh,aN];refine⟨by simp only[lim];lia,by simp only[lim];lia,?_⟩;have hcl:=bN C.hd;obtain⟨_,_,hw0,_⟩:=C.wn;have wcl:=bN hw0;have ocl:=bN C.at_;have C2:Fe (μ2++[Cell.lst []]++[Cell.lst []]) (μ.length+1) hh ww (hds rs) f (((hds rs).length -1:Nat):Int):=(C.fr (S:=[]) Fr.app (by simp) (by simp) (by simp)).fr (S:=[]) Fr.app (by simp) (by simp) (by simp);have F3:Fr [] μ (μ2++[Cell.lst []]++[Cell.lst []]):=(F2'.afB _).afB _;have t3:(μ2++[Cell.lst []]++[Cell.lst []])[μ.length]?=some (.lst ((rs.map fun _=>0).map aY)):=by rw[qy,dU (bN t2)];exact t2
 have a3:(μ2++[Cell.lst []]++[Cell.lst []])[μ2.length]?=some (.lst ((([]:List (Itm×Nat)).map (·.1)).map aK)):=by simp
 have b3:(μ2++[Cell.lst []]++[Cell.lst []])[μ2.length+1]?=some (.lst ((([]:List (Itm×Nat)).map (·.2)).map aY)):=by rw[nQ (by simp)];simp
 generalize μ2++[Cell.lst []]++[Cell.lst []]=μ3 at C2 F3 t3 a3 b3;have al:μ.length+1<μ2.length:=ocl;generalize μ2.length=na at*;refine⟨by simp[iz,C2.ins,bF],_,hh,ww,hds rs,f,_,rfl,C2,A,by lia,?_⟩;refine⟨fun M ρ μ'=>∃ (rest:List (List Itm)) (tk:List Nat) (dn:List (Itm×Nat)) (f:WF) (n:Int),M=rest.flatten.length/\Rst rs rest tk/\dn++uN M rest=DR rs/\dn.length+M=rs.flatten.length/\n<=((rs.length*(dn.length+1):Nat):Int)/\0<=n/\Fr [] μ μ'/\Fe μ' (μ.length+1) hh ww (hds rest) f n/\Alw (hds rest) f/\
   μ'[μ.length]?=some (.lst (tk.map aY))/\μ'[na]?=some (.lst ((dn.map (·.1)).map aK))/\μ'[na+1]?=some (.lst ((dn.map (·.2)).map aY))/\ρ=[some d,some (.loc μ.length),some (.loc (μ.length+1)),some (.loc na),some (.loc (na+1)),some (j7 (oO (hds rest) 0 (hds rest).length))],
  ⟨_,rs,_,[],f,_,rfl,Rst.start rs,by simp[DR],by simp,by simp;lia,by lia,F3,C2,A,t3,a3,b3,rfl⟩,?_⟩
 rintro M ρ μ' ⟨rest,tk,dn,f',n,rfl,R,ep,el,hnn,hn0,F,C',A',t',a',b',rfl⟩;clear C2 C A F3 t3 a3 b3 F2' F2 t2 hw0 t1;simp only[wT,wE,aJ,bA,cP,fV];cases hb:oO (hds rest) 0 (hds rest).length with
 |none=>simp only[j7,pI,kY,cg,if_false,aJ,bA,bh,aN];rw[JC hb,pX]at ep;subst ep;refine⟨by decide,h μ' na (na+1) F (by lia) (by lia) (by lia) a' b'⟩|some p=>
  obtain⟨hp,x,t,hx⟩:=KZ hb;have hp':p<rs.length:=by rw[<-R.1];exact hp
  obtain⟨k,k1,k2,k3,k4,R'⟩:=R.step hp' hx;have sf:=Ah rest p x t hx;have hps:=yO (n:=(rest.set p t).flatten.length) hb hx;rw[sf]at hps;rw[hps]at ep;have lr:(hds rest).length=rs.length:=by simp[hds,R.1]
  have hxd:(hds rest)[p]?=some (some x):=by simp[hds,hx]
  simp only[j7,pI,mU,if_true,wSs,wS,wE,wEs,aJ,bA];have ca:isCell μ' (.loc na)=true:=by simp[isCell,a']
  refine⟨ca,by simp[iz,C'.ins,bF],_,hh,ww,hds rest,f',n,p,some x,rfl,C',hxd,?_⟩;simp only[dB,a',bU,hdD,aR];refine⟨by simp only[lim];lia,?_⟩;have hal:na<μ'.length:=bN a';have hbl:na+1<μ'.length:=bN b';have ea:(dn.map (·.1)).map aK++[aK x]=((dn++[(x,p)]).map (·.1)).map aK:=by simp
  rw[ea];have C4:=C'.fr (S:=[na]) (Fr.set (n:=na) (c:=.lst (((dn++[(x,p)]).map (·.1)).map aK)) (by simp)) (by simp;lia) (by simp;lia) (by simp;lia)
  have F4:=F.aku (.lst (((dn++[(x,p)]).map (·.1)).map aK)) (t:=na) (by lia)
  have t4:(μ'.set na (.lst (((dn++[(x,p)]).map (·.1)).map aK)))[μ.length]?=some (.lst (tk.map aY)):=by rw[cU (by lia)];exact t'
  have b4:(μ'.set na (.lst (((dn++[(x,p)]).map (·.1)).map aK)))[na+1]?=some (.lst ((dn.map (·.2)).map aY)):=by rw[cU (by lia)];exact b'
  have a4:(μ'.set na (.lst (((dn++[(x,p)]).map (·.1)).map aK)))[na]?=some (.lst (((dn++[(x,p)]).map (·.1)).map aK)):=eU hal
  generalize μ'.set na (.lst (((dn++[(x,p)]).map (·.1)).map aK))=μ4 at C4 F4 t4 b4 a4
  have cb:isCell μ4 (.loc (na+1))=true:=by simp[isCell,b4]
  refine⟨cb,?_⟩;simp only[b4,bU,aR];refine⟨by simp only[lim];lia,?_⟩;have hal:na<μ4.length:=bN a4;have hbl:na+1<μ4.length:=bN b4;have eb:(dn.map (·.2)).map aY++[D.int (p:Int)]=((dn++[(x,p)]).map (·.2)).map aY:=by simp[aY]
  rw[eb];have C5:=C4.fr (S:=[na+1]) (Fr.set (n:=na+1) (c:=.lst (((dn++[(x,p)]).map (·.2)).map aY)) (by simp)) (by simp;lia) (by simp;lia) (by simp;lia)
  have F5:=F4.aku (.lst (((dn++[(x,p)]).map (·.2)).map aY)) (t:=na+1) (by lia)
  have t5:(μ4.set (na+1) (.lst (((dn++[(x,p)]).map (·.2)).map aY)))[μ.length]?=some (.lst (tk.map aY)):=by rw[cU (by lia)];exact t4
  have a5:(μ4.set (na+1) (.lst (((dn++[(x,p)]).map (·.2)).map aY)))[na]?=some (.lst (((dn++[(x,p)]).map (·.1)).map aK)):=by rw[cU (by lia)];exact a4
  have b5:(μ4.set (na+1) (.lst (((dn++[(x,p)]).map (·.2)).map aY)))[na+1]?=some (.lst (((dn++[(x,p)]).map (·.2)).map aY)):=eU hbl
  generalize μ4.set (na+1) (.lst (((dn++[(x,p)]).map (·.2)).map aY))=μ5 at C5 F5 t5 b5 a5
  have htl:μ.length<μ5.length:=bN t5;have hpk:p<tk.length:=by rw[R.2.1];exact hp'
  have ktk:tk[p]=k:=by rw[dw hpk]at k1;exact cM k1
  have kt:(tk.map aY)[((p:Int)).toNat]?=some (.int (k:Int)):=by simp[k1,aY]
  simp only[Z7,t5,kt,Fi,q9,aR,gG hpk];refine⟨by lia,?_⟩;have et:(tk.map aY).set p (D.int ((k:Int)+1))=(tk.set p (k+1)).map aY:=by rw[Pa];simp[aY]
  rw[et];have C6:=C5.fr (S:=[μ.length]) (Fr.set (n:=μ.length) (c:=.lst ((tk.set p (k+1)).map aY)) (by simp)) (by simp) (by simp;lia) (by simp;lia);have F6:=F5.aku (.lst ((tk.set p (k+1)).map aY)) (t:=μ.length) (aA _);have t6:(μ5.set μ.length (.lst ((tk.set p (k+1)).map aY)))[μ.length]?=some (.lst ((tk.set p (k+1)).map aY)):=eU htl;have a6:(μ5.set μ.length (.lst ((tk.set p (k+1)).map aY)))[na]?=some (.lst (((dn++[(x,p)]).map (·.1)).map aK)):=by rw[cU (by lia)];exact a5
  have b6:(μ5.set μ.length (.lst ((tk.set p (k+1)).map aY)))[na+1]?=some (.lst (((dn++[(x,p)]).map (·.2)).map aY)):=by rw[cU (by lia)];exact b5
  generalize μ5.set μ.length (.lst ((tk.set p (k+1)).map aY))=μ6 at C6 F6 t6 b6 a6;refine⟨by simp[iz,C6.ins,bF],?_⟩;refine ac9 (hd.fr F6) hp' fun e he=>?_;have aow:p<(tk.set p (k+1)).length:=by simpa using hpk
  rw[Hv (ds:=(tk.set p (k+1)).map aY) (p:=p) (e:=aY (k+1)) (.inl ⟨_,rfl⟩) (by simp only[aB,t6]) (by rw[aR];exact gG aow) (by simp[hpk])];refine⟨e,rs[p],k+1,rfl,he,?_⟩;rw[k4];have abl:=Cd p (hds rest).length 0 (hds rest).length (by lia);have mb:rs.length*(dn.length+1)<=rs.length*(rs.flatten.length+1):=Nat.mul_le_mul_left _ (by lia);refine⟨_,hh,ww,hds rest,f',n,p,t.head?,rfl,C6,A',by lia,by lia,by lia,fun μ7 f7 F7 C7 A7=>?_⟩;rw[<-aiP]at C7 A7;have F7':Fr [] μ μ7:=F6.new F7 (by simp;lia);have t7:μ7[μ.length]?=some (.lst ((tk.set p (k+1)).map aY)):=by rw[F7.2 _ (bN t6) (by simp;lia)];exact t6
  have a7:μ7[na]?=some (.lst (((dn++[(x,p)]).map (·.1)).map aK)):=by rw[F7.2 _ (bN a6) (by simp;lia)];exact a6
  have b7:μ7[na+1]?=some (.lst (((dn++[(x,p)]).map (·.2)).map aY)):=by rw[F7.2 _ (bN b6) (by simp;lia)];exact b6
  simp only[bY,bZ,aJ,bA];have lr2:(hds (rest.set p t)).length=rs.length:=by simp[hds,R.1]
  refine⟨by simp[iz,C7.ins,bF],_,hh,ww,_,f7,_,rfl,C7,A7,by lia,?_⟩;refine⟨(rest.set p t).flatten.length,by lia,rest.set p t,tk.set p (k+1),dn++[(x,p)],f7,_,rfl,R',by simpa using ep,by rw[eO];show dn.length+1+_=_;lia,?_,by lia,F7',C7,A7,t7,a7,b7,rfl⟩;have e9:(dn++[(x,p)]).length=dn.length+1:=by simp
  rw[e9,Nat.mul_succ];lia
theorem alF:Keeps afZ ags GZ:=by rintro ds μ Q ⟨d,rs,rfl,hd,ha,hn,hm,hf,h⟩;simp only[ags,afZ,aC,bH,wSs,wS,wE,wEs,aX,aW,bh,aN,bB,aO,aJ,bD];exact⟨d,rs,rfl,hd,ha,Wb hd hn hm hf h⟩
theorem Vp (h:0<rs.flatten.length):∃ p,oO (hds rs) 0 (hds rs).length=some p:=by
 cases e:oO (hds rs) 0 (hds rs).length with
 |some p=>exact⟨p,rfl⟩|none=>
  exfalso;have hq:=KY _ 0 _ (aA _) e;have:∀ r∈rs,r=[]:=fun r hr=>by
   obtain⟨i,hi,rfl⟩:=DN.mp hr;cases er:rs[i] with
   |nil=>rfl|cons x t=>exact absurd ⟨x,by simp[hds,hi,er]⟩ (hq i (jG _) (by simpa[hds]using hi))
  rw[afb.mpr this]at h;simp at h
def n8:Nat->List (List Itm)->List (Itm×Nat)
 |_,[]=>[]|k,r::rs=>r.map (fun x=>(x,k))++n8 (k+1) rs
def pairs (rs:List (List Itm)):List (Itm×Nat):=n8 0 rs
theorem pairs_len:∀ (rs:List (List Itm)) (k:Nat),(n8 k rs).length=rs.flatten.length
 |[],_=>rfl|r::rs,k=>by simp only[n8,eO,aR,X8,pairs_len rs (k+1)]
theorem MP:∀ (rs:List (List Itm)) (k p:Nat) (x:Itm) (t:List Itm),rs[p]?=some (x::t)->(n8 k rs).Perm ((x,k+p)::n8 k (rs.set p t))
 |[],k,p,x,t,h=>by simp at h|r::rs,k,0,x,t,h=>by simp only[aJ,qx]at h;subst h;simp only[n8,bY,aX,bB,Nat.add_zero];exact adI _|r::rs,k,p+1,x,t,h=>by have:=MP rs (k+1) p x t (by simpa using h);rw[show k+1+p=k+(p+1) by lia]at this;simp only[n8,bZ];exact(this.append_left _).trans X4
theorem M6:∀ (rs:List (List Itm)) (k:Nat) (y:Itm) (q:Nat),(y,q)∈n8 k rs->∃ i r,rs[i]?=some r/\y∈r/\q=k+i
 |[],k,y,q,h=>by simp[n8]at h|r::rs,k,y,q,h=>by
  rw[n8]at h;rcases iY.mp h with h|h
  .obtain⟨z,hz,e⟩:=j9.mp h
   simp only[Jh]at e;obtain⟨rfl,rfl⟩:=e;exact⟨0,r,rfl,hz,rfl⟩
  .obtain⟨i,r',h1,h2,h3⟩:=M6 rs (k+1) y q h
   exact⟨i+1,r',h1,h2,by lia⟩
theorem agJ (h:oO (hds rs) 0 (hds rs).length=none):rs.flatten.length=0:=by
 rcases aes rs.flatten.length with q|q
 .exact q
 .obtain⟨p,e⟩:=Vp q
  rw[e]at h;cases h
theorem JB:∀ (n:Nat) (rs:List (List Itm)),rs.flatten.length<=n->(uN n rs).Perm (pairs rs)
 |0,rs,h=>by have:pairs rs=[]:=Ao.mp (by rw[pairs,pairs_len];lia);rw[this];exact adI _|n+1,rs,h=>by
  cases hb:oO (hds rs) 0 (hds rs).length with
  |none=>have:pairs rs=[]:=Ao.mp (by rw[pairs,pairs_len];exact agJ hb);rw[JC hb,this]|some p=>obtain⟨hp,x,t,hx⟩:=KZ hb;have sf:=Ah rs p x t hx;rw[yO hb hx];have h1:=JB n (rs.set p t) (by lia);have h2:=MP rs 0 p x t hx;rw[Xe]at h2;exact(h1.cons _).trans h2.symm
theorem Fv (rs:List (List Itm)):(DR rs).Perm (pairs rs):=JB _ _ (aA _)
theorem afJ (rs:List (List Itm)):(DR rs).length=rs.flatten.length:=by rw[(Fv rs).length_eq,pairs,pairs_len]
theorem alk (h:q∈pTr rs):q<rs.length:=by obtain⟨⟨y,q'⟩,hy,e⟩:=j9.mp h;obtain⟨i,r,h1,h2,h3⟩:=M6 rs 0 y q' ((Fv rs).mem_iff.mp hy);have:=(bT.mp h1).1;simp only at e;lia
end DW.sJ
namespace DW.K87
open PySem DW DW.VD DW.TX DW.Gn DW.CHO DW.K91
noncomputable abbrev gP:=Gn.gP
def ug:dz:=fun ds μ Q=>∃ r:List Itm,ds=[.lst (r.map aK)]/\r.length<=60/\(∀ x∈r,cA x)/\∀ μ' ls,Pre μ μ'->Rows μ' ls (bG r)->Q (.lst (ls.map D.loc)) μ'
def JM:List Str:=["row","found","item"]
def tlN:Ss:=(.cons (.exp (.meth "append" (.idx (.var 1) (.neg (.cst (.int 1)))) (.cons (.var 2) .nil))) .nil)
def Ke:Ss:=(.cons (.set 1 (.lst true .nil)) (.cons (.for_ [2] false (.seq (.var 0)) (.cons (.ite (.or (.RL false (.var 1) (.lst false .nil)) (.call "_law_less" gP (.cons (.var 2) (.cons (.idx (.idx (.var 1) (.neg (.cst (.int 1)))) (.neg (.cst (.int 1)))) .nil)))) (.cons (.exp (.meth "append" (.var 1) (.cons (.lst true .nil) .nil))) .nil) .nil) tlN)) (.cons (.ret (.Gh (.var 1))) .nil)))
theorem aiC (l:List Itm) (y:Itm):(oV ((l++[y]).map aK).length (-1)).bind (((l++[y]).map aK)[·]?)=some (aK y):=by rw[m5];exact Rj _ _
theorem akh (h:FL μ0 μ n (ls++[l]) (rs++[r])) (hr:r.length<=1000)
  (hZ:∀ μ',FL μ0 μ' n (ls++[l]) (rs++[r++[x]])->Z.nx [v,some (.loc n),some (aK x)] μ'):wSs tlN Z [v,some (.loc n),some (aK x)] μ:=by
 have hl0:ls.length=rs.length:=by have:=h.rw.1;simpa using this
 have hlr:=h.rw.2 ls.length l r (by simp) (by rw[hl0];simp);simp only[tlN,wSs,wS,wE,wEs,zR,aJ,bA,dM,aB,h.at_,G9 ls l,isCell,hlr,true_and,dB,bU];rw[aR];refine⟨by simp only[lim];lia,?_⟩;have:=h.add x;rw[m5]at this;exact hZ _ this
theorem afV {μ0 μ:Mem} {n:Nat} {ls:List Nat} {rs:List (List Itm)} {k:Mem->Prop} (h:FL μ0 μ n ls rs) (hl:rs.length<=1000) (q:∀ μ',FL μ0 μ' n (ls++[μ.length]) (rs++[[]])->k μ'):
  isCell μ (.loc n)=true/\0<=lim/\dB "append" (.loc n) [.loc μ.length] (μ++[Cell.lst []]) fun _ μ1=>k μ1:=by
 have hat:(μ++[Cell.lst []])[n]?=some (.lst (ls.map D.loc)):=(Pre.app _ _).get h.at_;refine⟨by simp[isCell,h.at_],by decide,?_⟩;simp only[dB,hat,bU,aR];refine⟨by rw[h.rw.1];simp only[lim];lia,?_⟩;rw[show(ls.map D.loc++[D.loc μ.length])=(ls++[μ.length]).map D.loc by simp];exact q _ h.new
theorem Ij:mq (.lst (lM rs)) (.lst [])=rs.isEmpty:=by
 cases rs with
 |nil=>rfl|cons r rs=>simp[lM,mq,Lx]
theorem Zh:Keeps JM Ke ug:=by
 rintro ds μ Q ⟨r,rfl,hl,hok,h⟩;have tn:=fun(Z:j6) (μ1:Mem) (l:Nat) (ls:List Nat) (rs:List (List Itm)) (q:List Itm) (x:Itm) (v:Option D)=>akh (Z:=Z) (μ0:=μ) (μ:=μ1) (n:=μ.length) (l:=l) (ls:=ls) (rs:=rs) (r:=q) (x:=x) (v:=v);simp only[Ke];generalize tlN=T at tn;simp only[JM,aC,bH,wSs,wS,wE,wEs,wI,newL,mz,aX,aW,bh,aN,bB,aO,aJ,bA,bD,bZ,bY];refine⟨by decide,?_⟩;have hF:FL μ (μ++[Cell.lst []]) μ.length [] (bG []):=⟨Pre.app _ _,aA _,by simp,⟨rfl,fun i l r a=>by simp at a⟩,XD,by simp⟩;refine cV (fun ds ρ μ'=>∃ (p s:List Itm) (ls:List Nat) (v:Option D),r=p++s/\ds=s.map aK/\FL μ μ' μ.length ls (bG p)/\ρ=[some (.lst (r.map aK)),some (.loc μ.length),v]) ?_ ?_ _ _ _ ⟨[],r,[],none,rfl,rfl,hF,rfl⟩
 .rintro d ds ρ μ1 N hN ⟨p,s,ls,v,er,e,hF,rfl⟩
  cases s with
  |nil=>simp at e|cons x s=>
   simp only[aX,m6]at e;obtain⟨rfl,rfl⟩:=e;obtain⟨h1,h2⟩:=ju p;(have hpl:p.length<=60:=by rw[er]at hl;simp at hl;lia);have et:eY μ1 8 (.loc μ.length)= .lst (lM (bG p)):=(HS hF.at_ 7).trans (Mq hF.rw.1 hF.rw.2);have ef:=CN (rs:=bG p) fun l hl' y hy=>hok y (by rw[er];exact List.mem_append_left _ (yU hl' y hy));have e8:eY μ1 8 (.lst [])= .lst []:=rfl;have fin:∀ μ' ls',FL μ μ' μ.length ls' (gJ (bG p) x)->N [some (.lst (r.map aK)),some (.loc μ.length),some (aK x)] μ':=fun μ' ls' hF'=>hN _ _ ⟨p++[x],s,ls',_,by simp[er],rfl,by rw[lU];exact hF',rfl⟩;refine⟨trivial,?_⟩;simp only[fB,bZ,bY,wT,wE,wEs,aN,aJ,bA,abb,fV,newL];rw[et,e8,Ij];refine⟨by decide,ef,rfl,?_⟩;rcases Yu p with rfl|⟨p,y,ep⟩
   .have e0:(false !=(bG []).isEmpty)=true:=rfl
    simp only[e0,if_true];refine afV (k:=_) hF (by simp[bG]) fun μ2 hF2=>?_;exact tn _ _ _ _ _ _ _ _ hF2 (by simp) fun μ3 hF3=>fin μ3 _ (by simpa[bG,gJ]using hF3)
   .rw[Yt]at ep
    subst ep;obtain⟨a,l,el⟩:=uP p y;(have hl1:(a++[l++[y]]).flatten.length<=60:=by rw[<-el,h2];exact hpl);rw[el]at hF h1 fin ⊢;(have e0:(false !=(a++[l++[y]]).isEmpty)=false:=by cases a<;>rfl);(have hls:ls.length=a.length+1:=by have:=hF.rw.1;simpa using this);(have hne:ls≠[]:=fun z=>by rw[z]at hls;simp at hls);obtain⟨ls',q,rfl⟩:∃ ls' q,ls=ls' ++[q]:=⟨ls.dropLast,ls.getLast hne,(YQ hne).symm⟩;(have hl0:ls'.length=a.length:=by simpa using hls);have hlr:=hF.rw.2 ls'.length q (l++[y]) (by simp) (by rw[hl0];simp);simp only[e0,cg,if_false,zR,dM,aB,hF.at_,G9 ls' q,hlr,aiC l y];refine⟨x,y,rfl,?_⟩;rw[zF]at fin;simp only[fU,truth];(have hl2:l.length+1<=60:=by simp at hl1;lia);by_cases c:gM x y=true
    .rw[if_pos c]at fin
     rw[if_pos c];refine afV (k:=_) hF (by simp at h1 hpl ⊢;lia) fun μ2 hF2=>?_;exact tn _ _ _ _ _ _ _ _ hF2 (by simp) fun μ3 hF3=>fin μ3 _ (by simpa using hF3)
    .rw[if_neg c]at fin
     rw[if_neg c];exact tn _ _ _ _ _ _ _ _ hF (by simp;lia) fun μ3 hF3=>fin μ3 _ hF3
 .rintro ρ μ1 ⟨p,s,ls,v,er,e,hF,rfl⟩
  cases s with
  |cons x s=>simp at e|nil=>rw[pX]at er;subst er;refine⟨trivial,?_⟩;simp only[aJ,bA,R8,hF.at_];exact h _ ls (hF.pre.set _ (aA _)) ⟨hF.rw.1,fun i l r a b=>by rw[cU (bL (hF.ne l (pC a)).2)];exact hF.rw.2 i l r a b⟩
open DW.Ny (aY j7 ni oO GQ)
def cR (r:List Itm):Cell:=.lst (r.map aK)
def TM (μ:Mem) (rest:List (List Itm)) (tr:List Nat):Mem:=μ++(rest.map cR++[.lst (tr.map aY)])
theorem TM.pre:Pre μ (TM μ rest tr):=Pre.app _ _
theorem TM.run (h:rest[i]?=some r):(TM μ rest tr)[μ.length+i]?=some (.lst (r.map aK)):=by have hi:=(bT.mp h).1;unfold TM;rw[nQ (by lia),DP,dU (by simpa using hi)];simp[h,cR]
theorem TM.trc:(TM μ rest tr)[μ.length+rest.length]?=some (.lst (tr.map aY)):=by unfold TM;rw[nQ (by lia),DP];simp
theorem TM.aoe (i:Nat) (t:List Itm) (h:i<rest.length):(TM μ rest tr).set (μ.length+i) (.lst (t.map aK))=TM μ (rest.set i t) tr:=by unfold TM;rw[Jv _ _ (by lia),DP,Qv _ _ (by simpa using h),Pa];rfl
theorem TM.Tj (tr':List Nat):(TM μ rest tr).set (μ.length+rest.length) (.lst (tr'.map aY))=TM μ rest tr':=by unfold TM;rw[Jv _ _ (by lia),DP,Jv _ _ (by simp)];simp
def lsq (b n:Nat):List D:=(aU n).map fun i=>D.loc (b+i)
theorem Q7 (h:i<n) (q:Q (.loc (b+i)) μ):dM (.lst (lsq b n)) (.int (i:Int)) μ Q:=by
 have e1:oV (lsq b n).length (i:Int)=some i:=gG (by simpa[lsq]using h);have e2:(lsq b n)[i]?=some (.loc (b+i)):=by simp[lsq,h]
 simp only[dM,aB,e1,lO,e2];exact q
theorem adb (h:μ[l]?=some (.lst ((x::t).map aK))) (q:Q (aK x) μ):dM (.loc l) (.int 0) μ Q:=by
 have e1:oV (aK x::t.map aK).length 0=some 0:=by simp[oV]
 rw[aX]at h;simp only[dM,aB,h,e1,lO,aJ];exact q
def Mw:dz:=fun ds μ Q=>∃ (ls:List Nat) (rs:List (List Itm)),ds=[.lst (ls.map D.loc)]/\Rows μ ls rs/\rs.length<=60/\rs.flatten.length<=60/\(∀ r∈rs,∀ x∈r,cA x)/\∀ μ',Pre μ μ'->Q (.lst ((sJ.pTr rs).map aY)) μ'
def TV:List Str:=["runs","left","found","best","number"]
def tlB:Ss:=(.cons (.for_ [4] false (.rng (.cons (.blt "len" (.cons (.var 1) .nil)) .nil)) (.cons (.ite (.and (.cmp .NotEq (.idx (.var 1) (.var 4)) (.lst false .nil)) (.or (.cmp .Is (.var 3) (.cst .non)) (.call "_law_less" gP (.cons (.idx (.idx (.var 1) (.var 4)) (.cst (.int 0))) (.cons (.idx (.idx (.var 1) (.var 3)) (.cst (.int 0))) .nil))))) (.cons (.set 3 (.var 4)) .nil) .nil) .nil)) (.cons (.exp (.meth "pop" (.idx (.var 1) (.var 3)) (.cons (.cst (.int 0)) .nil))) (.cons (.exp (.meth "append" (.var 2) (.cons (.var 3) .nil))) .nil)))
def tlW:Ss:=(.cons (.set 2 (.lst true .nil)) (.cons (.whl (.RL true (.comp false 1 false [] (.var 0) (.seq (.var 1)) (.cons (.cmp .NotEq (.var 0) (.lst false .nil)) .nil)) (.lst false .nil)) (.cons (.set 3 (.cst .non)) tlB)) (.cons (.ret (.Gh (.var 2))) .nil)))
def Uz:Ss:=(.cons (.set 1 (.comp false 1 false [] (.blt "mlist" (.cons (.var 0) .nil)) (.seq (.var 0)) .nil)) tlW)
theorem akk (hn:rest.length<=60) (ht:tr.length<=60) (hp:oO (sJ.hds rest) 0 (sJ.hds rest).length=some p) (e:rest[p]?=some (x::t))
  (hZ:∀ v3 v4,Z.nx [v0,some (.lst (lsq μ.length rest.length)),some (.loc (μ.length+rest.length)),v3,v4] (TM μ (rest.set p t) (tr++[p]))):
  wSs tlB Z [v0,some (.lst (lsq μ.length rest.length)),some (.loc (μ.length+rest.length)),some .non,v4] (TM μ rest tr):=by
 have lr:(sJ.hds rest).length=rest.length:=by simp[sJ.hds]
 have ll:(lsq μ.length rest.length).length=rest.length:=by simp[lsq]
 have hp':=(bT.mp e).1;rw[Ny.RQ (sJ.hds rest) _ 0 _ (aA _) (jG _),lr,Xf]at hp;have st:∀ q,q<rest.length->(sJ.hds rest)[q]?=some ((rest[q]?.getD []).head?):=fun q hq=>by simp[sJ.hds,hq]
 simp only[tlB,wSs,wS,wE,wEs,wI,bQ,lenOf,aB,Cq,m7,aJ,bA,bh,aN,gR,ll];refine⟨by simp only[lim];lia,by lia,?_⟩;rw[Jm,show fj 0 rest.length=(fZ 0 rest.length).map aY by rw[CV,Qx];rfl];refine cV (fun ds ρ μ'=>∃ (l:List Nat) (acc:Option Nat) (v4:Option D),ds=l.map aY/\(∀ p∈l,p<rest.length)/\Ny.Vd (sJ.hds rest) acc/\Ny.fld (sJ.hds rest) l acc=some p/\μ'=TM μ rest tr/\ρ=[v0,some (.lst (lsq μ.length rest.length)),some (.loc (μ.length+rest.length)),some (j7 acc),v4]) ?_ ?_ _ _ _ ⟨fZ 0 rest.length,none,_,rfl,fun p hp=>by simp[List.mem_range'_1]at hp;lia,Ny.GQ,hp,rfl,rfl⟩
 .rintro d2 ds2 ρ μ1 N hN ⟨l,acc,a,e1,hin,hv,hf,rfl,rfl⟩
  cases l with
  |nil=>simp at e1|cons q l=>
   simp only[aX,m6]at e1;obtain⟨rfl,rfl⟩:=e1;have hq:=hin q (by simp);have k2:=st q hq;have hf':Ny.fld (sJ.hds rest) l (ni (sJ.hds rest) acc (Ny.one (sJ.hds rest) q))=some p:=hf;have hr:(TM μ rest tr)[μ.length+q]?=some (.lst ((rest[q]?.getD []).map aK)):=TM.run (by rw[dw hq];rfl);refine⟨trivial,?_⟩;simp only[fB,aY,bY,bZ,aJ,bA,wT,wE,wEs,newL,aN];refine Q7 hq ⟨by decide,?_⟩;simp only[cP,R6,hr,fV];cases er:rest[q]?.getD [] with
   |nil=>rw[er]at k2;(have e3:Ny.one (sJ.hds rest) q=none:=by simp[Ny.one,k2]);rw[e3,Ny.wj]at hf';simp only[aW,XR,kY,cg,if_false];exact hN _ _ ⟨l,acc,_,rfl,fun z hz=>hin z (by simp[hz]),hv,hf',rfl,rfl⟩|cons y u=>
    rw[er]at k2 hr;(have e3:Ny.one (sJ.hds rest) q=some q:=by simp[Ny.one,k2]);(have v3:Ny.Vd (sJ.hds rest) (some q):=fun z e=>by cases e;exact⟨y,k2⟩);rw[e3]at hf';simp only[aX,aec,mU,if_true];cases acc with
    |none=>simp only[j7,pI,fV,if_true,wSs,wS,wE,bY,bZ,aJ,bA];exact hN _ _ ⟨l,some q,_,rfl,fun z hz=>hin z (by simp[hz]),v3,hf',rfl,rfl⟩|some j=>
     obtain⟨z,hz2⟩:=hv j rfl;(have hj:j<rest.length:=by rw[<-lr];exact(bT.mp hz2).1);rw[st j hj]at hz2;obtain⟨w,ew⟩:∃ w,rest[j]?.getD []=z::w:=by
      cases c:rest[j]?.getD [] with
      |nil=>rw[c]at hz2;simp at hz2|cons z' w=>rw[c]at hz2;simp at hz2;subst hz2;exact⟨w,rfl⟩
     (have hrj:(TM μ rest tr)[μ.length+j]?=some (.lst ((z::w).map aK)):=by rw[<-ew];exact TM.run (by rw[dw hj];rfl));(have hz3:(sJ.hds rest)[j]?=some (some z):=by rw[st j hj,ew];rfl);rw[Ny.iV hz3 k2]at hf';simp only[j7,pI,fV,cg,if_false];refine Q7 hq (adb hr (Q7 hj (adb hrj ⟨y,z,rfl,?_⟩)));by_cases c:gM y z=true
     .rw[if_pos c]at hf'
      simp only[c,fU,truth,if_true,wSs,wS,wE,bY,bZ,aJ,bA];exact hN _ _ ⟨l,some q,_,rfl,fun z hz=>hin z (by simp[hz]),v3,hf',rfl,rfl⟩
     .rw[if_neg c]at hf'
      simp only[c,fU,truth,cg,if_false,wSs];exact hN _ _ ⟨l,some j,_,rfl,fun z hz=>hin z (by simp[hz]),hv,hf',rfl,rfl⟩
 .rintro ρ μ1 ⟨l,acc,a,e1,hin,hv,hf,rfl,rfl⟩
  cases l with
  |cons q l=>simp at e1|nil=>have hf':acc=some p:=hf;subst hf';refine⟨trivial,?_⟩;simp only[aJ,bA,j7];refine Q7 hp' ?_;have hr:(TM μ rest tr)[μ.length+p]?=some (.lst ((x::t).map aK)):=TM.run e;refine⟨by simp[isCell,hr],?_⟩;(have e5:oV (aK x::t.map aK).length 0=some 0:=by simp[oV]);simp only[dB,hr,bU,aX,e5,aJ,List.eraseIdx_cons_zero];rw[TM.aoe p t hp'];have e6:=TM.trc (μ:=μ) (rest:=rest.set p t) (tr:=tr);have e7:=TM.Tj (μ:=μ) (rest:=rest.set p t) (tr:=tr) (tr++[p]);rw[adP]at e6 e7;refine⟨by simp[isCell,e6],?_⟩;simp only[dB,e6,bU,aR];refine⟨by simp only[lim];lia,?_⟩;rw[show(tr.map aY++[D.int (p:Int)])=(tr++[p]).map aY by simp[aY],e7];exact hZ _ _
theorem agm:Keeps TV Uz Mw:=by
 rintro ds μ Q ⟨ls,rs,rfl,hR,hn,hm,hok,h⟩;have tb:=fun(Z:j6) (rest:List (List Itm)) (tr:List Nat) (v0 v4:Option D) (p:Nat) (x:Itm) (t:List Itm)=>akk (Z:=Z) (μ:=μ) (rest:=rest) (tr:=tr) (v0:=v0) (v4:=v4) (p:=p) (x:=x) (t:=t);simp only[Uz,tlW];generalize tlB=T at tb;simp only[TV,aC,bH,wSs,wS,wE,wEs,wI,wTs,newL,mz,aX,aW,bh,aN,bB,aO,aJ,bA,bD,bZ,bY];refine qd (fun ds acc μ'=>∃ j:Nat,j<=ls.length/\ds=(ls.drop j).map D.loc/\acc=lsq μ.length j/\μ'=μ++(rs.take j).map cR) ?_ ?_ _ _ _ ⟨0,jG _,rfl,rfl,by simp⟩
 .rintro d ds acc μ' Y N hY hN ⟨j,hj,e,rfl,rfl⟩
  have hj2:j<ls.length:=by
   by_cases q:j<ls.length
   .exact q
   .rw[Im (by lia)]at e;simp at e
  rw[Io hj2]at e;simp only[aX,m6]at e;obtain⟨rfl,rfl⟩:=e;have hj3:j<rs.length:=by rw[<-hR.1];exact hj2
  have g:=(Pre.app μ ((rs.take j).map cR)).get (hR.2 j _ _ (dw hj2) (dw hj3));refine⟨trivial,?_⟩;simp only[bindC,aJ,if_true,bQ,aB,g,newL];refine hY _ _ ⟨j+1,hj2,rfl,?_,?_⟩
  .simp only[lsq,PK,m5,eO,aR,qw,yD (pU hj3)]
   rfl
  .rw[qy,aeb,dw hj3,m5]
   rfl
 .rintro acc μ' ⟨j,hj,e,rfl,rfl⟩
  have hj2:j=rs.length:=by have:=congrArg dR e;simp at this;have:=hR.1;lia
  subst hj2;rw[adX];refine⟨trivial,by decide,?_⟩;have e0:μ++rs.map cR++[Cell.lst []]=TM μ rs []:=by simp[TM]
  have e1:(μ++rs.map cR).length=μ.length+rs.length:=by simp
  rw[e0,e1];refine⟨fun M ρ μ'=>∃ (rest:List (List Itm)) (tr:List Nat) (v3 v4:Option D),rest.length=rs.length/\rest.flatten.length=M/\tr.length+M<=60/\sJ.pTr rs=tr++(sJ.uN M rest).map (·.2)/\(∀ r∈rest,∀ x∈r,cA x)/\μ'=TM μ rest tr/\ρ=[some (.lst (ls.map D.loc)),some (.lst (lsq μ.length rs.length)),some (.loc (μ.length+rs.length)),v3,v4],⟨_,rs,[],none,none,rfl,rfl,by simpa using hm,rfl,hok,rfl,rfl⟩,?_⟩
  rintro M ρ μ' ⟨rest,tr,v3,v4,h1,h2,h3,h4,h5,rfl,rfl⟩;simp only[wT,wE,wEs,wI,mz,wTs,aJ,bA,aW,pX,newL,aN];refine gO (fun i=>D.loc (μ.length+i)) (fun i=>!(rest[i]?.getD []).isEmpty) (fun i=>D.loc (μ.length+i)) trivial _ _ ?_ ?_
  .intro i hi Y N z
   (have hi':i<rest.length:=by rw[h1];exact Ds.mp hi);have g:(TM μ rest tr)[μ.length+i]?=some (.lst ((rest[i]?.getD []).map aK)):=TM.run (by rw[dw hi'];rfl);simp only[bindC,aJ,cP,R6,g,fV,List.isEmpty_map];exact⟨by decide,z⟩
  .rw[aO]
   refine⟨by decide,?_⟩;generalize hix:(aU rs.length).filter (fun i=>!(rest[i]?.getD []).isEmpty)=ix;have hmem:∀ i∈ix,i<rest.length/\rest[i]?.getD []≠[]:=fun i hi=>by rw[<-hix,uJ]at hi;exact⟨by rw[h1];exact Ds.mp hi.1,fun z=>by rw[z]at hi;simp at hi⟩
   have et:eY (TM μ rest tr) 8 (.lst (ix.map fun i=>D.loc (μ.length+i)))= .lst (lM (ix.map fun i=>rest[i]?.getD [])):=by
    have:=Mq (μ:=TM μ rest tr) (ls:=ix.map (μ.length+·)) (rs:=ix.map fun i=>rest[i]?.getD []) (by simp) fun i l r a b=>by
     rw[jy]at a b;cases c:ix[i]? with
     |none=>rw[c]at a;simp at a|some k=>rw[c]at a b;cases a;cases b;have hk:=(hmem k (pC c)).1;exact TM.run (by simp[hk])
    simpa[Dw]using this
   have ef:=CN (rs:=ix.map fun i=>rest[i]?.getD []) fun r hr x hx=>by obtain⟨i,hi,rfl⟩:=j9.mp hr;have hk:=(hmem i hi).1;rw[dw hk]at hx;exact h5 _ (Qh hk) x hx
   have e8:eY (TM μ rest tr) 8 (.lst [])= .lst []:=rfl;unfold abb;rw[et,e8,Ij];refine⟨ef,rfl,?_⟩;simp only[fV];cases M with
   |zero=>
    have hx:ix=[]:=by rw[List.eq_nil_iff_forall_not_mem];intro i hi;obtain⟨a,b⟩:=hmem i hi;rw[dw a]at b;have hf:=YS h2;exact b (afb.mp hf _ (Qh a))
    subst hx;simp only[aW,XR,bne_self_eq_false,cg,if_false];have e6:=TM.trc (μ:=μ) (rest:=rest) (tr:=tr);rw[h1]at e6;simp only[R8,e6];rw[show sJ.pTr rs=tr by rw[h4];simp[sJ.uN]]at h;exact h _ (TM.pre.set _ (by lia))
   |succ M=>
    obtain⟨p,hp⟩:=sJ.Vp (rs:=rest) (by lia);obtain⟨hp1,x,t,e⟩:=sJ.KZ hp;have hx:ix≠[]:=fun z=>by (have:p∈ix:=by rw[<-hix,uJ];exact⟨Ds.mpr (by lia),by simp[e]⟩);rw[z]at this;simp at this
    have e9:(true !=(ix.map fun i=>rest[i]?.getD []).isEmpty)=true:=by
     cases ix with
     |nil=>exact absurd rfl hx|cons=>rfl
    simp only[e9,if_true,bZ,bY];rw[<-h1];refine tb _ rest tr _ _ p x t (by lia) (by lia) hp e fun v3 v4=>?_;have hs:=sJ.Ah rest p x t e;refine⟨M,Qj _,rest.set p t,tr++[p],v3,v4,by simp,by lia,by simp;lia,?_,fun r hr y hy=>?_,rfl,rfl⟩
    .rw[h4,sJ.yO hp e];simp
    .rcases List.mem_or_eq_of_mem_set hr with hr|rfl
     .exact h5 r hr y hy
     .exact h5 _ (pC e) y (by simp[hy])
end DW.K87
namespace DW.K87
open PySem DW DW.VD DW.TX DW.Gn DW.CHO DW.K91
open DW.Ny (aY)
theorem abd (n:Nat) (c F:Nat->D) (M:Nat->Mem) (hg:∀ j,g (M j))
  (hs:∀ j,j<n->∀ (Y:D->Mem->Prop) (N:Mem->Prop),Y (F j) (M (j+1))->bnd (c j) fun ρ=>cw ρ (M j) fun b μ1=>if b=true then ew ρ μ1 (fun v μ2=>Y v μ2)else N μ1) (h:Q ((aU n).map F) (M n)):iW bnd cw ew g ((aU n).map c) [] (M 0) Q:=by
 refine qd (fun ds acc μ'=>∃ j:Nat,j<=n/\ds=((aU n).drop j).map c/\acc=(aU j).map F/\μ'=M j) ?_ ?_ _ _ _ ⟨0,jG _,rfl,rfl,rfl⟩
 .rintro d ds acc μ' Y N hY hN ⟨j,hj,e,rfl,rfl⟩
  have hj2:j<n:=by
   by_cases q:j<n
   .exact q
   .rw[Im (by simp;lia)]at e;simp at e
  rw[Io (by simpa using hj2)]at e;simp only[List.getElem_range,aX,m6]at e;obtain⟨rfl,rfl⟩:=e;exact⟨hg j,hs j hj2 Y N (hY _ _ ⟨j+1,hj2,rfl,by rw[PK,m5];rfl,rfl⟩)⟩
 .rintro acc μ' ⟨j,hj,e,rfl,rfl⟩
  have hj2:j=n:=by have:=congrArg dR e;simp at this;lia
  subst hj2;exact⟨hg j,h⟩
def cuts (m:Nat) (r:List Itm):List (List Itm):=(aU (um 0 r.length m).toNat).map fun k=>(r.drop (k*m)).take m
theorem aal {n m:Nat} (hm:1<=m):(um 0 (n:Int) (m:Int)).toNat<=n/\um 0 (n:Int) (m:Int)<=(n:Int)/\∀ k:Nat,k<(um 0 (n:Int) (m:Int)).toNat->k*m<=n:=by
 have hm':(m:Int)>0:=by lia
 unfold um;rw[if_pos hm'];split
 .rename_i h
  have e:((n:Int) -0 -1)/(m:Int)=(((n -1)/m:Nat):Int):=by rw[show(n:Int) -0 -1=((n -1:Nat):Int) by lia];exact Int.ofNat_ediv_ofNat ..
  rw[e];have h1:(n -1)/m<=n -1:=Nat.div_le_self _ _;refine⟨by lia,by lia,fun k hk=>?_⟩;have hk2:k<=(n -1)/m:=by lia
  have:=Nat.mul_le_of_le_div _ _ _ hk2;lia
 .exact⟨by lia,by lia,fun k hk=>by simp at hk⟩
theorem Vk (xs:List α) (k m:Nat) (hk:k<=xs.length):cutD xs (some (k:Int)) (some ((k:Int)+(m:Int)))=(xs.drop k).take m:=by
 have h1:¬((k:Int)<0):=by lia
 have h2:¬((k:Int)+(m:Int)<0):=by lia
 have h3:((k:Int)+(m:Int)).toNat=k+m:=by lia
 simp only[cutD,kO,h1,h2,if_false,h3,Jm,yD hk];by_cases q:k+m<=xs.length
 .rw[yD q];congr 1;lia
 .rw[XS (by lia),uw (by simp),uw (by simp;lia)]
theorem aaZ {bnd:D->(dH->Prop)->Prop} {cw:dH->Mem->(Bool->Mem->Prop)->Prop} {ew:dH->Mem->QD->Prop} {μ:Mem} {r:List Itm} {m:Nat} {k:List D->Mem->Prop} (hl:r.length<64) (h1:1<=m) (h2:m<=50) (F:Nat->D) (M:Nat->Mem) (h0:M 0=μ)
  (hs:∀ j,j<(cuts m r).length->j*m<=r.length->∀ (Y:D->Mem->Prop) (N:Mem->Prop),Y (F j) (M (j+1))->bnd (.int ((j*m:Nat):Int)) fun ρ=>cw ρ (M j) fun b μ1=>if b=true then ew ρ μ1 (fun v μ2=>Y v μ2)else N μ1)
  (h:k ((aU (cuts m r).length).map F) (M (cuts m r).length)):Cq 3 [.int 0,.int (r.length:Int),.int (m:Int)] μ fun ds g μ'=>iW bnd cw ew g ds [] μ' k:=by
 obtain⟨z1,z2,z3⟩:=aal (n:=r.length) h1;have hn:(cuts m r).length=(um 0 r.length m).toNat:=by simp[cuts]
 rw[hn]at hs h;refine⟨⟨by lia,?_,by lia,by lia,by lia,by lia,by lia,by lia⟩,?_⟩
 .have:lim=16777216:=rfl
  rw[this];lia
 rw[<-h0];refine abd _ (fun(k:Nat)=>D.int (0+(k:Int)*(m:Int))) F M (fun _=>trivial) (fun j hj Y N q=>?_) h;have:=hs j hj (z3 j hj) Y N q;rw[show(0:Int)+(j:Int)*(m:Int)=((j*m:Nat):Int) by simp];exact this
noncomputable abbrev eG:=K25.eG
def S9:dz:=fun ds μ Q=>∃ (r:List Itm) (m:Nat),ds=[.lst (r.map aK),.int m]/\r.length<64/\1<=m/\m<=50/\∀ μ' n ls,Pre μ μ'->μ'[n]?=some (.lst (ls.map D.loc))->Rows μ' ls ((cuts m r).map GX)->Q (.loc n) μ'
def aav:List Str:=["row","room"]
def aaJ:Ss:=(.cons (.exp (.call "check_room" eG (.cons (.var 1) .nil))) (.cons (.ret (.comp true 1 false [0,1] (.call "sorted_row" wV (.cons (.slc false (.var 1) (.cons (.var 0) .nil) (.cons (.bin .Add (.var 0) (.var 2)) .nil)) .nil)) (.rng (.cons (.cst (.int 0)) (.cons (.blt "len" (.cons (.var 0) .nil)) (.cons (.var 1) .nil)))) .nil)) .nil))
theorem aiG:Keeps aav aaJ S9:=by
 rintro ds μ Q ⟨r,m,rfl,hl,h1,h2,h⟩;simp only[aaJ,aav,aC,bH,wSs,wS,wE,wEs,wI,wTs,bQ,lenOf,aB,gR,aR,m7,aX,aW,bh,aN,bB,aO,aJ,bA,uL];refine⟨m,rfl,by lia,by lia,?_⟩;refine aaZ hl h1 h2 (fun j=>.loc (μ.length+j)) (fun j=>μ++((cuts m r).take j).map fun p=>Cell.lst ((GX p).map aK)) (by simp) (fun j hj hjm Y N q=>?_) ?_
 .simp only[bindC,aJ,bA,wE,wEs,wO,zR,jC,Gq,newL,if_true]
  rw[Vk _ _ _ (by simpa using hjm),<-Pq,<-Jf];refine⟨(r.drop (j*m)).take m,rfl,by simp;lia,?_⟩;have hc:(cuts m r)[j]?=some ((r.drop (j*m)).take m):=by (have:j<(um 0 r.length m).toNat:=by simpa[cuts]using hj);simp[cuts,this]
  rw[aeb,hc]at q;simpa[yD (pU hj)]using q
 .simp only[newL,adX]
  refine h _ _ ((aU (cuts m r).length).map (μ.length+·)) ((Pre.app _ _).trans (Pre.app _ _)) (by simp[Dw]) ⟨by simp,fun i l q a b=>(Pre.app _ _).get ?_⟩
  have hi:i<(cuts m r).length:=by have:=(bT.mp a).1;simpa using this
  have el:l=μ.length+i:=by simp[hi]at a;lia
  subst el;rw[nQ (by lia),DP];simp only[jy]at b ⊢;cases c:(cuts m r)[i]? with
  |none=>rw[c]at b;cases b
  |some p=>rw[c]at b;cases b;rfl
theorem ag4 (h:p∈cuts m r):∀ x∈p,x∈r:=fun x hx=>by obtain⟨k,_,rfl⟩:=j9.mp h;exact DK (Qw hx)
theorem Tf {rs:List (List Itm)} {r:List Itm} (hr:r.length<=60) (hok:∀ x∈r,cA x) (h1:rs.length<=60) (h2:∀ p∈rs,p.length<=60/\∀ x∈p,x∈r):Small rs:=
 ⟨by lia,fun p hp=>⟨fun x hx=>hok x ((h2 p hp).2 x hx),by have:=(h2 p hp).1;lia⟩⟩
theorem zE {r:List Itm} {m:Nat} (h1:1<=m) (hr:r.length<=60) (hok:∀ x∈r,cA x):Small ((cuts m r).map GX):=by
 refine Tf hr hok ?_ fun p hp=>?_
 .have:=(aal (n:=r.length) h1).1
  simp only[aR,cuts,Yb];lia
 .obtain⟨q,hq,rfl⟩:=j9.mp hp
  refine⟨?_,fun x hx=>ag4 hq x (aix.mp hx)⟩;rw[aag];obtain⟨k,_,rfl⟩:=j9.mp hq;simp;lia
theorem Ea {r:List Itm} (hr:r.length<=60) (hok:∀ x∈r,cA x):Small (bG r):=by obtain⟨h1,h2⟩:=ju r;refine Tf hr hok (by lia) fun p hp=>⟨?_,yU hp⟩;have:=ae6 (afx hp);rw[h2]at this;lia
theorem ajB:∀ (l A:List Itm),La (gf A l)<=((A.length+l.length:Nat):Int)
 |[],A=>by show(0:Int)<=_;lia|x::l,A=>by have h1:=ajB l (A++[x]);have h2:cnt A x<=A.length:=aeW _ _;show max (cnt A x:Int) (La (gf (A++[x]) l))<=_;simp only[eO,bh,aN]at h1 ⊢;lia
theorem aaU (h:r.length<=60):keyOk (mx (Kg r)):=by rw[Q0];have h1:=ajB r [];have h2:=Eb (gf [] r);simp only[aN]at h1;exact⟨by lia,by lia⟩
def aai:dz:=fun ds μ Q=>∃ r:List Itm,ds=[.lst (r.map aK)]/\r.length<=60/\Q (.int (mx (Kg r))) μ
def af2:List Str:=["row","found","at"]
def agu:Ss:=(.cons (.set 1 (.cst (.int 0))) (.cons (.for_ [2] false (.rng (.cons (.blt "len" (.cons (.var 0) .nil)) .nil)) (.cons (.set 1 (.blt "max" (.cons (.var 1) (.cons (.blt "len" (.cons (.comp false 1 false [0,2] (.var 0) (.seq (.slc false (.var 0) .nil (.cons (.var 2) .nil))) (.cons (.call "_law_less" gP (.cons (.idx (.var 1) (.var 2)) (.cons (.var 0) .nil))) .nil)) .nil)) .nil)))) .nil)) (.cons (.ret (.var 1)) .nil)))
theorem alH:Keeps af2 agu aai:=by
 rintro ds μ Q ⟨r,rfl,hl,h⟩;rw[Q0]at h;simp only[agu,af2,aC,bH,wSs,wS,wE,wEs,wI,bQ,lenOf,aB,gR,aR,Cq,m7,aX,aW,bh,aN,bB,aO,aJ,bA,bD,bZ,bY];refine⟨by simp only[lim];lia,by lia,?_⟩;rw[Jm];refine cV (fun ds ρ μ'=>∃ (p s:List Itm) (v:Option D),r=p++s/\ds=(fZ p.length s.length).map aY/\μ'=μ/\ρ=[some (.lst (r.map aK)),some (.int (La (gf [] p))),v]) ?_ ?_ _ _ _ ⟨[],r,none,rfl,by rw[CV,Qx];rfl,rfl,rfl⟩
 .rintro d ds ρ μ1 N hN ⟨p,s,v,er,e,rfl,rfl⟩
  cases s with
  |nil=>simp at e|cons x s=>
   simp only[bh,Du,aX,m6]at e;obtain⟨rfl,rfl⟩:=e;(have hc:cutD (r.map aK) none (some (p.length:Int))=p.map aK:=by rw[Hq,er];simp);have e1:oV (r.map aK).length (p.length:Int)=some p.length:=gG (by rw[er];simp);(have e2:(r.map aK)[p.length]?=some (aK x):=by rw[er];simp);(have ei:∀ {Q:QD},Q (aK x) μ1->dM (.lst (r.map aK)) (.int (p.length:Int)) μ1 Q:=fun {Q} q=>by simp only[dM,aB,e1,lO,e2];exact q);refine⟨trivial,?_⟩;simp only[fB,aY,bZ,bY,wE,wEs,wI,wTs,wO,zR,Gq,newL,hc,mz,aJ,bA,aX,aW,uL];refine gO aK (gM x) aK trivial _ _ ?_ ?_
   .intro y hy Y N z
    simp only[bindC,wT,wE,wEs,bB,aO,aJ,bA];refine ei ?_;refine⟨x,y,rfl,?_⟩;simpa only[fU,truth]using z
   .rw[aO]
    simp only[bQ,lenOf,aB,gR,aR];have e3:La (gf [] (p++[x]))=if((p.filter (gM x)).length:Int)>La (gf [] p)then((p.filter (gM x)).length:Int)else La (gf [] p):=by rw[En,yS];show max _ (max (cnt ([]++p) x:Int) 0)=_;rw[aO,cnt];have:=Eb (gf [] p);split<;>lia
    rw[<-e3];exact hN _ _ ⟨p++[x],s,_,by simp[er],by simp,rfl,rfl⟩
 .rintro ρ μ1 ⟨p,s,v,er,e,rfl,rfl⟩
  cases s with
  |cons x s=>simp[Du]at e|nil=>rw[pX]at er;subst er;exact⟨trivial,h⟩
end DW.K87
namespace DW.K87
open PySem DW DW.VD DW.TX DW.Gn DW.CHO DW.K91
open DW.Ny (aY)
def aoP (μ:Mem) (d:D) (ns:List Nat):Prop:=d= .lst (ns.map aY)∨∃ l,d= .loc l/\μ[l]?=some (.lst (ns.map aY))
def ntx (ns:List Nat):List Nat:=dW [32] (ns.map dg)
def mD:dz:=fun ds μ Q=>∃ (d:D) (ns:List Nat),ds=[d]/\aoP μ d ns/\ns.length<=100/\(∀ x∈ns,x<=1000)/\Q (.str (ntx ns)) μ
def uR:List Str:=["numbers"]
def vf:Ss:=(.cons (.ret (.S5 "join" (.cst (.str [32])) (.cons (.comp false 1 false [] (.blt "str" (.cons (.var 0) .nil)) (.seq (.var 0)) .nil) .nil))) .nil)
theorem akm {ws:List (List Nat)} {b:Nat} (h:∀ w∈ws,w.length<=b):(ws.map dR).sum<=ws.length*b:=by
 induction ws with
 |nil=>simp|cons w ws ih=>have h1:=h w (by simp);have h2:=ih fun x hx=>h x (by simp[hx]);rw[aX,yu,bh,Nat.succ_mul];lia
theorem u5:Keeps uR vf mD:=by
 rintro ds μ Q ⟨d,ns,rfl,hd,hl,hb,q⟩;simp only[vf,uR,aC,bH,wSs,wS,wE,wEs,wI,newL,aX,aW,bh,aN,bB,aO,aJ,bD];refine⟨wN _ (by decide) (by decide) _ _,?_⟩;have walk:∀ {Q:QI},(∀ g:Mem->Prop,g μ->Q (ns.map aY) g μ)->mz d μ Q:=fun {Q} q=>by
  rcases hd with rfl|⟨l,rfl,h⟩
  .exact q _ trivial
  .simp only[mz,h]
   exact q _ h
 refine walk fun g hg=>?_;refine dI aY (fun k=>D.str (dg k)) hg _ _ ?_ ?_
 .intro x hx Y N z
  simp only[bindC,wTs,aJ,if_true,bQ,aY];have:=hb x hx;exact⟨pH ⟨by lia,by lia⟩,by rw[vC];exact z⟩
 .rw[aO,show(ns.map fun k=>D.str (dg k))=(ns.map dg).map D.str by rw[jN];rfl]
  have e:∀ Q:QD,wC "join" (.str [32]) [.lst ((ns.map dg).map D.str)] μ Q=(match(some ((ns.map dg).map D.str)).bind zY with|some ws=>"join"="join"/\(ws.map dR).sum+ws.length*[32].length<=lim/\Q (.str (dW [32] ws)) μ|none=>False):=fun Q=>rfl;rw[e];simp only[lO,vL];refine⟨trivial,?_,q⟩;have:=akm (ws:=ns.map dg) (b:=40) fun w hw=>by obtain⟨k,hk,rfl⟩:=j9.mp hw;exact Er (by have:=hb k hk;lia)
  rw[aR]at this ⊢;simp only[lim,bh,aN];lia
noncomputable abbrev qm:=mD
def Gs:List Str:=["numbers"]
def Gy:Ss:=(.cons (.ret (.S5 "join" (.cst (.str [32])) (.cons (.comp false 1 false [] (.blt "str" (.cons (.var 0) .nil)) (.seq (.var 0)) .nil) .nil))) .nil)
theorem Gw:Keeps Gs Gy qm:=u5
def Vv (μ:Mem) (es:List D) (rs:List (List Itm)):Prop:=es.length=rs.length/\∀ (i:Nat) (e:D) (r:List Itm),es[i]?=some e->rs[i]?=some r->RowC μ e r
theorem Tr (h:Rows μ ls rs):Vv μ (ls.map D.loc) rs:=⟨by rw[aR];exact h.1,fun i e r a b=>by
 rw[jy]at a;cases c:ls[i]? with
 |none=>rw[c]at a;cases a
 |some l=>rw[c]at a;cases a;exact .inr ⟨l,rfl,h.2 i l r c b⟩⟩
theorem abq (μ:Mem) (rs:List (List Itm)):Vv μ (lM rs) rs:=⟨by simp[lM],fun i e r a b=>by simp only[lM,jy,b,gR]at a;cases a;exact .inl rfl⟩
theorem Vv.eY (h:Vv μ es rs):eY μ 8 (.lst es)= .lst (lM rs):=by
 rw[HN];congr 1;apply Jp;intro i;by_cases c:i<es.length
 .have c':i<rs.length:=by have:=h.1;lia
  simp only[jy,dw c,gR,lM,dw c'];have tm:=SJ μ 6 aK (fun x=>aac μ 6 x) rs[i];rcases h.2 i es[i] rs[i] (dw c) (dw c')with e|⟨l,e,hl⟩
  .rw[e,HN,tm]
  .rw[e,HS hl 6,tm]
 .have c':rs.length<=i:=by have:=h.1;lia
  rw[Qz (by simpa using c),Qz (by simpa[lM]using c')]
def lB:dz:=fun ds μ Q=>∃ (es:List D) (rs:List (List Itm)),ds=[.lst es]/\Vv μ es rs/\Small rs/\Q (.str (CJ rs)) μ
def Bb:List Str:=["runs"]
def Bq:Ss:=(.cons (.ite (.RL false (.var 0) (.lst false .nil)) (.cons (.ret (.cst (.str [110,111,110,101]))) .nil) .nil) (.cons (.ret (.S5 "join" (.cst (.str [32,124,32])) (.cons (.comp false 1 false [] (.call "_law_shown" vO (.cons (.var 0) .nil)) (.seq (.var 0)) .nil) .nil))) .nil))
theorem Rg:Keeps Bb Bq lB:=by
 rintro ds μ Q ⟨es,rs,rfl,hR,hS,q⟩;have et:=hR.eY;have ef:=CN (rs:=rs) fun r hr=>(hS.2 r hr).1;have e8:eY μ 8 (.lst [])= .lst []:=rfl;simp only[Bq,Bb,aC,bH,wSs,wS,wT,wE,wEs,wI,newL,aX,aW,bh,aN,bB,aO,aJ,bD,abb,fV,mz];rw[et,e8,Ij];refine⟨by decide,ef,rfl,?_⟩;by_cases e:rs=[]
 .subst e
  simpa[CJ]using q
 .have e0:(false !=rs.isEmpty)=false:=by
   cases rs with
   |nil=>exact absurd rfl e|cons r rs=>rfl
  rw[CJ,if_neg e]at q;simp only[e0,cg,if_false];refine⟨wN _ (by decide) (by decide) _ _,?_⟩;have e1:(es.zip rs).map Ow=es:=X3 (by rw[hR.1];exact aA _);have e2:(es.zip rs).map Wu=rs:=Qi (by rw[hR.1];exact aA _);have z2:(es.zip rs).map (fun p=>D.str (txt p.2))=(rs.map txt).map D.str:=by (conv=>rhs;rw[<-e2]);rw[jN,jN];rfl
  conv=>arg 5;rw[<-e1]
  refine dI (fun p:D×List Itm=>p.1) (fun p=>D.str (txt p.2)) trivial _ _ ?_ ?_
  .intro p hp Y N z
   obtain⟨i,hi⟩:=Yv.mp hp;obtain⟨h1,h2⟩:=afk.mp hi;have y1:=pC h2;simp only[bindC,wTs,aJ,if_true];exact⟨_,p.2,rfl,hR.2 i _ _ h1 h2,(hS.2 _ y1).1,by have:=(hS.2 _ y1).2;lia,z⟩
  .rw[aO,z2]
   refine ajx rfl (fun c=>by simp) ?_ q;have:=Od hS.2;have:=hS.1;simp only[aR,lim];lia
def Tl (t:List Itm->Nat->List Nat):dz:=fun ds μ Q=>∃ (n:Nat) (r:List Itm) (m:Nat) (b c:Int),ds=[.loc n]/\μ[n]?=some (cJ r (m:Int) b c)/\(∀ x∈r,cA x)/\r.length<=10/\1<=m/\m<=50/\∀ μ',Pre μ μ'->Q (.str (t r m)) μ'
def Ob (r:List Itm) (m:Nat):List Nat:=CJ ((cuts m r).map GX)
def ahL (r:List Itm) (_:Nat):List Nat:=CJ (bG r)
def akl (r:List Itm) (_:Nat):List Nat:=jB (mx (Kg r))
def ac2 (r:List Itm) (_:Nat):List Nat:=ntx (sJ.pTr (bG r))
noncomputable abbrev kE:=K21.kE
noncomputable abbrev qz:=K21.qz
noncomputable abbrev qK:=K21.qK
theorem Eh:Keeps qz qK kE:=K21.Eh
noncomputable abbrev iK:=K91.iK
def wU:dz:=Tl Ob
def Ax:List Str:=["desk"]
def Bl:Ss:=(.cons (.ret (.call "show_runs" iK (.cons (.call "loads" S9 (.cons (.fld "Desk" "row" (.var 0)) (.cons (.fld "Desk" "room" (.var 0)) .nil))) .nil))) .nil)
theorem Ra:Keeps Ax Bl wU:=by rintro ds μ Q ⟨n,r,m,b,c,rfl,hn,hr,hl,m1,m2,q⟩;simp only[Bl,Ax,aC,bH,wSs,wS,wE,wEs,aX,aW,bh,aN,bB,aO,aJ,bD,iI,dG,hn,cJ,if_true,bF,adQ,if_false];exact⟨r,m,rfl,by lia,m1,m2,fun μ' n' ls hp ha hR=>⟨n',ls,_,rfl,ha,hR,zE m1 (by lia) hr,q μ' hp⟩⟩
def sU:dz:=Tl ahL
def uQ:List Str:=["desk"]
def vd:Ss:=(.cons (.ret (.call "show_runs" iK (.cons (.call "natural" kE (.cons (.fld "Desk" "row" (.var 0)) .nil)) .nil))) .nil)
theorem JW:Keeps uQ vd sU:=by rintro ds μ Q ⟨n,r,m,b,c,rfl,hn,hr,hl,m1,m2,q⟩;simp only[vd,uQ,aC,bH,wSs,wS,wE,wEs,aX,aW,bh,aN,bB,aO,aJ,bD,iI,dG,hn,cJ,if_true,bF];exact⟨r,rfl,by lia,fun ν n' ls hL=>⟨n',ls,_,rfl,hL.at_,⟨hL.len,hL.row⟩,Ea (by lia) hr,q _ (Pre.app _ _)⟩⟩
def Fo:dz:=Tl akl
def JK:List Str:=["desk"]
def Kc:Ss:=(.cons (.ret (.blt "str" (.cons (.call "far" ac4 (.cons (.fld "Desk" "row" (.var 0)) .nil)) .nil))) .nil)
theorem Zd:Keeps JK Kc Fo:=by rintro ds μ Q ⟨n,r,m,b,c,rfl,hn,hr,hl,m1,m2,q⟩;simp only[Kc,JK,aC,bH,wSs,wS,wE,wEs,aX,aW,bh,aN,bB,aO,aJ,bD,iI,dG,hn,cJ,if_true,bF];refine⟨r,rfl,by lia,?_⟩;simp only[bQ];exact⟨pH (aaU (by lia)),q _ (Pre.refl _)⟩
theorem Lh (r:List Itm):∀ l∈bG r,j5 l:=by
 refine snoc_ind (P:=fun r=>∀ l∈bG r,j5 l) (by simp[bG]) (fun p x ih=>?_) r;rcases Yu p with rfl|⟨p,y,ep⟩
 .intro l hl
  simp[bG,gJ]at hl;subst hl;simp
 .rw[Yt]at ep
  subst ep;obtain⟨a,q,e⟩:=uP p y;rw[lU,e,zF];rw[e]at ih;split
  .intro l hl
   rcases iY.mp hl with hl|hl
   .exact ih l hl
   .simp at hl;subst hl;simp
  .rename_i c
   intro l hl;rcases iY.mp hl with hl|hl
   .exact ih l (by simp[hl])
   .simp only[cH]at hl
    subst hl;have h1:=ih (q++[y]) (by simp);refine Ju.mpr ⟨h1,by simp,fun u hu v hv=>?_⟩;simp at hv;subst hv;rcases iY.mp hu with hu|hu
    .exact jz _ _ _ ((Ju.mp h1).2.2 u hu y (by simp)) (by simpa using c)
    .simp at hu;subst hu;simpa using c
def Ab:dz:=Tl ac2
def Fx:List Str:=["desk","runs"]
noncomputable abbrev GZ:=sJ.GZ
def FZ:Ss:=(.cons (.set 1 (.call "natural" kE (.cons (.fld "Desk" "row" (.var 0)) .nil))) (.cons (.ite (.cmp .Gt (.blt "len" (.cons (.var 1) .nil)) (.gbl "MOST_POURED" (.int 16))) (.cons .Y4 .nil) .nil) (.cons (.ret (.call "show_numbers" mD (.cons (.idx (.call "pour_pours" GZ (.cons (.var 1) .nil)) (.cst (.int 1))) .nil))) .nil)))
theorem ahV (h:LL μ b n ls rs):sJ.vI μ (.loc n) rs:=by
 refine⟨.inl ⟨n,rfl⟩,ls.map D.loc,by simp only[aB,h.at_],by rw[aR];exact h.len,fun i e r h1 h2=>?_⟩;rw[jy]at h1;cases hl:ls[i]? with
 |none=>rw[hl]at h1;cases h1
 |some l=>rw[hl]at h1;cases h1;exact⟨.inl ⟨l,rfl⟩,by simp only[aB,h.row i l r hl h2]⟩
theorem afY (hr:r.length<=60):(sJ.pTr (bG r)).length<=60/\∀ x∈sJ.pTr (bG r),x<=60:=by
 obtain⟨h1,h2⟩:=ju r;refine⟨?_,fun x hx=>?_⟩
 .rw[sJ.pTr,aR,sJ.afJ,h2];exact hr
 .have:=sJ.alk hx
  lia
theorem Uc:Keeps Fx FZ Ab:=by
 rintro ds μ Q ⟨n,r,m,b,c,rfl,hn,hr,hl,m1,m2,q⟩;simp only[FZ,Fx,aC,bH,wSs,wS,wT,wE,wEs,aX,aW,bh,aN,bB,aO,aJ,bA,bY,bZ,bD,iI,dG,hn,cJ,if_true,bF];refine⟨r,rfl,by lia,fun ν k ls hL=>?_⟩;obtain⟨h1,h2⟩:=ju r;have hlen:ls.length=(bG r).length:=hL.len;simp only[bQ,lenOf,aB,hL.at_,gR,aR,hlen,cP,fV];rw[if_neg (by simp;lia)];obtain⟨t1,t2⟩:=afY (r:=r) (by lia);refine⟨.loc k,bG r,rfl,ahV hL,fun l hl'=>⟨Wq (Lh r l hl'),?_⟩,by lia,?_,by rw[h2];lia,fun μ' x y F hx hy ne gx gy=>?_⟩
 .have:=ae6 (afx hl')
  rw[h2]at this;lia
 .rw[h2]
  have:(bG r).length*(r.length+1)<=10*11:=adM (by lia) (by lia);lia
 .have i1:oV [D.loc x,D.loc y].length 1=some 1:=rfl
  simp only[dM,aB,i1,lO,bA,aJ];exact⟨_,_,rfl,.inr ⟨y,rfl,gy⟩,by lia,fun z hz=>by have:=t2 z hz;lia,q μ' ((Pre.app _ _).trans ⟨F.1,fun i hi=>F.2 i hi (by simp)⟩)⟩
end DW.K87
namespace DW.K87
open PySem DW DW.VD DW.TX DW.Gn DW.CHO DW.K91
open DW.Ny (aY)
noncomputable abbrev alo:=QZ
noncomputable abbrev alM:=Rr
theorem alI:Keeps alo alM vQ:=aiJ
noncomputable abbrev uh:=Gn.uh
noncomputable abbrev Bc:=Gn.Bc
noncomputable abbrev Br:=Gn.Br
theorem Ri:Keeps Bc Br uh:=Gn.Ri
noncomputable abbrev JL:=Gn.JL
noncomputable abbrev Kd:=Gn.Kd
theorem Zg:Keeps JL Kd vP:=Gn.Zg
noncomputable abbrev G4:=Gn.G4
noncomputable abbrev Hi:=Gn.Hi
theorem Rh:Keeps G4 Hi gP:=Gn.Rh
noncomputable abbrev lq:=Gn.lq
noncomputable abbrev lA:=Gn.lA
theorem qJ:Keeps lq lA nJ:=Gn.qJ
noncomputable abbrev jw:=K91.jw
noncomputable abbrev oE:=K91.oE
noncomputable abbrev oJ:=K91.oJ
theorem zf:Keeps oE oJ jw:=K91.zf
noncomputable abbrev oA:=K91.oA
noncomputable abbrev oH:=K91.oH
theorem zc:Keeps oA oH tW:=K91.zc
noncomputable abbrev jQ:=K25.jQ
noncomputable abbrev jW:=K25.jW
theorem rZ:Keeps jQ jW eG:=K25.rZ
noncomputable abbrev tY:=sJ.tY
noncomputable abbrev Az:=sJ.Az
noncomputable abbrev Bo:=sJ.Bo
theorem Rc:Keeps Az Bo tY:=sJ.Rc
noncomputable abbrev zP:List Nat:=[108,111,97,100,115]
noncomputable abbrev qb:List Nat:=[110,97,116,117,114,97,108]
def uc:qZ:=fun ds μ Q X=>(∃ r,ds= .str zP::r/\wU r μ Q)∨(∃ r,ds= .str qb::r/\sU r μ Q)∨(∃ r,ds= .str zQ::r/\tX r μ Q)∨(∃ r,ds= .str Z5::r/\Fo r μ Q)∨(∃ r,ds= .str NP::r/\Ab r μ Q)∨(∃ r,ds= .str Z4::r/\tW r μ Q)
def ud:dz:=Wj uc
def Zj:Ss:=acT uc
theorem Zf:Keeps Y8 Zj ud:=by rintro ds μ Q ⟨n,r,a,b,c,line,rfl,hn,h⟩;exact akx (Z:=bH Q) (fun _=>rfl) hn h
def H9:dz:=Wj uc
def aay:List Str:=["desk","line","e"]
def aaM:Ss:=(.cons (.abh "PourError" [] 2 (.cons (.ret (.rW "Desk" "say" ud (.var 0) (.cons (.var 1) .nil))) .nil) (.cons .Y4 .nil)) .nil)
theorem aaH (h:μ[n]?=some (cJ r a b c)):iz μ "Desk" "say" (.loc n):=by simp[iz,dG,h,cJ,bF]
theorem aiI:Keeps aay aaM H9:=by rintro ds μ Q ⟨n,r,a,b,c,line,rfl,hn,h⟩;simp only[aaM,aay,aC,bH,wSs,wS,wE,wEs,aX,aW,bh,aN,bB,aO,aJ,bA,bD];exact⟨aaH hn,n,r,a,b,c,line,rfl,hn,h⟩
def W:List (List Nat):=[zP,qb,zQ,Z5,NP,Z4]
def T (r:List Itm) (m:Nat):List (List Nat):=[Ob r m,ahL r m,CJ (lG r m),akl r m,ac2 r m,txt r]
def Due (r:List Itm) (m:Nat) (w t:List Nat):Prop:=(w=zP/\t=Ob r m)∨(w=qb/\t=ahL r m)∨(w=zQ/\t=CJ (lG r m))∨(w=Z5/\t=akl r m)∨(w=NP/\t=ac2 r m)∨(w=Z4/\t=txt r)
theorem al1 (h:w∈W):∃ t,Due r m w t:=by
 simp only[W,bC,ur,or_false]at h;rcases h with rfl|rfl|rfl|rfl|rfl|rfl
 .exact⟨_,.inl ⟨rfl,rfl⟩⟩
 .exact⟨_,.inr (.inl ⟨rfl,rfl⟩)⟩
 .exact⟨_,.inr (.inr (.inl ⟨rfl,rfl⟩))⟩
 .exact⟨_,.inr (.inr (.inr (.inl ⟨rfl,rfl⟩)))⟩
 .exact⟨_,.inr (.inr (.inr (.inr (.inl ⟨rfl,rfl⟩))))⟩
 .exact⟨_,.inr (.inr (.inr (.inr (.inr ⟨rfl,rfl⟩))))⟩
theorem agR (h:Due r m w t):eX (W.map mK) ((T r m).map D.str) (.inr w:iH)=some (.str t):=by rcases h with⟨rfl,rfl⟩|⟨rfl,rfl⟩|⟨rfl,rfl⟩|⟨rfl,rfl⟩|⟨rfl,rfl⟩|⟨rfl,rfl⟩<;>rfl
theorem ahU (h:Due r m w t) (hd:μ[n]?=some (cJ r (m:Int) 2 3)) (hok:∀ x∈r,cA x) (hl:r.length<=10) (m1:1<=m) (m2:m<=50) (q:∀ μ',Pre μ μ'->Q (.str t) μ'):Wj uc [.loc n,.str w] μ Q:=by
 refine⟨n,r,m,2,3,w,rfl,hd,.inl ⟨?_,?_⟩⟩
 .rcases h with⟨rfl,_⟩|⟨rfl,_⟩|⟨rfl,_⟩|⟨rfl,_⟩|⟨rfl,_⟩|⟨rfl,_⟩<;>rfl
 .rcases h with⟨rfl,rfl⟩|⟨rfl,rfl⟩|⟨rfl,rfl⟩|⟨rfl,rfl⟩|⟨rfl,rfl⟩|⟨rfl,rfl⟩
  .exact .inl ⟨_,rfl,n,r,m,2,3,rfl,hd,hok,hl,m1,m2,q⟩
  .exact .inr (.inl ⟨_,rfl,n,r,m,2,3,rfl,hd,hok,hl,m1,m2,q⟩)
  .exact .inr (.inr (.inl ⟨_,rfl,n,r,m,2,3,rfl,hd,hok,by lia,m1,m2,q⟩))
  .exact .inr (.inr (.inr (.inl ⟨_,rfl,n,r,m,2,3,rfl,hd,hok,hl,m1,m2,q⟩)))
  .exact .inr (.inr (.inr (.inr (.inl ⟨_,rfl,n,r,m,2,3,rfl,hd,hok,hl,m1,m2,q⟩))))
  .exact .inr (.inr (.inr (.inr (.inr ⟨_,rfl,n,r,m,2,3,rfl,hd,hok,by lia,q _ (Pre.refl _)⟩))))
theorem Uj (h:wH sep) (hw:∀ w∈ws,wH w):wH (dW sep ws):=lE.mpr fun c hc=>by
 rcases J6 hc with h1|⟨w,hw',h1⟩
 .exact lE.mp h c h1
 .exact lE.mp (hw w hw') c h1
theorem Ol (h:Small rs):wH (CJ rs):=by
 unfold CJ;split
 .exact rfl
 .refine Uj rfl fun w hw=>?_
  obtain⟨r,hr,rfl⟩:=j9.mp hw;exact Wa (h.2 r hr).1
theorem al0 (h:Due r m w t) (hok:∀ x∈r,cA x) (hl:r.length<=10) (m1:1<=m) (m2:m<=50):wH t:=by
 rcases h with⟨_,rfl⟩|⟨_,rfl⟩|⟨_,rfl⟩|⟨_,rfl⟩|⟨_,rfl⟩|⟨_,rfl⟩
 .exact Ol (zE m1 (by lia) hok)
 .exact Ol (Ea (by lia) hok)
 .exact Ol (sG m1 m2 hok (by lia))
 .exact Ho _
 .refine Uj rfl fun w hw=>?_
  obtain⟨k,_,rfl⟩:=j9.mp hw;rw[<-vC];exact Ho _
 .exact Wa hok
theorem afW (h:wH t) (q:Q (.bl false) μ):cP .NotEq (.str t) (.str t) μ Q:=by refine acC (iB h 60) (iB h 60) ?_;rw[eq_str];simpa using q
structure S6 (μ:Mem) (nb nd nu:Nat) (r:List Itm) (m:Nat) (ks:List iH) (ds:List D):Prop where
 b:Bk μ nb
 d:μ[nd]?=some (cJ r (m:Int) 2 3)
 u:μ[nu]?=some (.jZ ks ds)
 n1:nb≠nd
 n2:nb≠nu
 n3:nd≠nu
theorem S6.pre (h:S6 μ nb nd nu r m ks ds) (p:Pre μ μ'):S6 μ' nb nd nu r m ks ds:=⟨by obtain⟨b,e⟩:=h.b;exact⟨b,p.get e⟩,p.get h.d,p.get h.u,h.n1,h.n2,h.n3⟩
theorem S6.bx (h:S6 μ nb nd nu r m ks ds) (b:Int):S6 (bx μ nb b) nb nd nu r m ks ds:=
 ⟨lW h.b,by unfold DW.bx;rw[cU h.n1];exact h.d,by unfold DW.bx;rw[cU h.n2];exact h.u,h.n1,h.n2,h.n3⟩
theorem S6.set (h:S6 μ nb nd nu r m ks ds) (ks':List iH) (ds':List D):S6 (μ.set nu (.jZ ks' ds')) nb nd nu r m ks' ds' :=
 ⟨by obtain⟨b,e⟩:=h.b;exact⟨b,by rw[cU (bL h.n2)];exact e⟩,by rw[cU (bL h.n3)];exact h.d,eU (bT.mp h.u).1,h.n1,h.n2,h.n3⟩
theorem S6.put (h:S6 μ nb nd nu r m ks ds) (hl:ks.length<100) (hw:(mK w:iH)∉ks) (q:∀ μ',S6 μ' nb nd nu r m (ks++[.inr w]) (ds++[v])->k μ'):Hw (.loc nu) (.str w) v μ k:=by simp only[Hw,h.u,za,iZ,lY,hw,if_false];exact⟨by simp only[lim];lia,q _ (h.set _ _)⟩
def tlL:Ss:=(.cons (.for_ [8] false (.rng (.cons (.cst (.int 2)) .nil)) (.cons (.set 9 (.lst false (.cons (.cst (.str [108,111,97,100,115])) (.cons (.cst (.str [110,97,116,117,114,97,108])) (.cons (.cst (.str [99,104,111,115,101,110])) (.cons (.cst (.str [102,97,114])) (.cons (.cst (.str [112,111,117,114])) (.cons (.cst (.str [114,111,119])) .nil)))))))) (.cons (.set 10 (.call "_law_take" cj (.cons (.var 2) (.cons (.cst (.int 6)) .nil)))) (.cons (.for_ [11] false (.seq (.bin .Add (.slc false (.var 9) (.cons (.var 10) .nil) .nil) (.slc false (.var 9) .nil (.cons (.var 10) .nil)))) (.cons (.ite (.cmp .NotEq (.call "_law_said" H9 (.cons (.var 3) (.cons (.var 11) .nil))) (.Zt (.var 7) (.var 11))) (.cons (.ret (.cst (.bl false))) .nil) .nil) .nil)) .nil)))) .nil)
noncomputable abbrev rho (v0 v1:Option D) (nb nd:Nat) (r:List Itm) (m:Nat) (v6:Option D) (nu:Nat) (v8 v9 v10 v11:Option D):dH:=[v0,v1,some (.loc nb),some (.loc nd),some (.lst (r.map aK)),some (.int (m:Int)),v6,some (.loc nu),v8,v9,v10,v11]
theorem Vl (h:x∈cutD xs lo hi):x∈xs:=DK (Qw h)
theorem Vm:(cutD xs lo hi).length<=xs.length:=by unfold cutD;simp;lia
theorem aki (h:S6 μ nb nd nu r m (W.map mK) ((T r m).map D.str)) (hok:∀ x∈r,cA x) (hl:r.length<=10) (m1:1<=m) (m2:m<=50)
  (hZ:∀ v8 v9 v10 v11 μ',Z.nx (rho v0 v1 nb nd r m v6 nu v8 v9 v10 v11) μ'):wSs tlL Z (rho v0 v1 nb nd r m v6 nu v8 v9 v10 v11) μ:=by
 simp only[tlL,rho,wSs,wS,wI,wE,wEs,m7,Cq];refine⟨by decide,by decide,?_⟩;refine cV (fun _ ρ μ'=>S6 μ' nb nd nu r m (W.map mK) ((T r m).map D.str)/\∃ v8 v9 v10 v11,ρ=rho v0 v1 nb nd r m v6 nu v8 v9 v10 v11) ?_ ?_ _ _ _ ⟨h,_,_,_,_,rfl⟩
 .rintro d ds ρ μ1 N hN ⟨h1,v8,v9,v10,v11,rfl⟩
  refine⟨trivial,?_⟩;simp only[fB,rho,bZ,bY,wE,wEs,newL,bh,aN,aJ,bA,cj];refine⟨by decide,h1.b,by decide,by decide,fun a b a0 a1=>?_⟩;simp only[wO,wE,zR,Gq,newL,jC,mz,aJ,bA];have hW:[D.str zP,D.str qb,D.str zQ,D.str Z5,D.str NP,D.str Z4]=W.map D.str:=rfl;rw[hW];refine⟨?_,?_⟩
  .have:=Vm (xs:=W.map D.str) (lo:=some a) (hi:=none)
   have:=Vm (xs:=W.map D.str) (lo:=none) (hi:=some a);have:(W.map D.str).length=6:=rfl;simp only[lim];lia
  refine cV (fun ds ρ μ'=>(∀ d∈ds,∃ w∈W,d= .str w)/\S6 μ' nb nd nu r m (W.map mK) ((T r m).map D.str)/\∃ v8 v9 v10 v11,ρ=rho v0 v1 nb nd r m v6 nu v8 v9 v10 v11) ?_ ?_ _ _ _ ⟨fun d hd=>?_,h1.bx b,_,_,_,_,rfl⟩
  .rintro d ds ρ μ2 N2 hN2 ⟨hd,h2,v8,v9,v10,v11,rfl⟩
   obtain⟨w,hw,rfl⟩:=hd d (by simp);obtain⟨t,ht⟩:=al1 (r:=r) (m:=m) hw;refine⟨trivial,?_⟩;simp only[fB,rho,bZ,bY,wT,wE,wEs,aJ,bA];refine ahU ht h2.d hok hl m1 m2 fun μ3 hp=>?_;have h3:=h2.pre hp;simp only[Mi,h3.u,za,agR ht];refine afW (al0 ht hok hl m1 m2) ?_;simp only[fV,cg,if_false];exact hN2 _ _ ⟨fun d hd'=>hd d (by simp[hd']),h3,_,_,_,_,rfl⟩
  .rintro ρ μ2 ⟨-,h2,v8,v9,v10,v11,rfl⟩
   exact⟨trivial,hN _ _ ⟨h2,_,_,_,_,rfl⟩⟩
  .have:d∈W.map D.str:=by
    rcases iY.mp hd with hd|hd
    .exact Vl hd
    .exact Vl hd
   obtain⟨w,hw,rfl⟩:=j9.mp this;exact⟨w,hw,rfl⟩
 .rintro ρ μ1 ⟨-,v8,v9,v10,v11,rfl⟩
  exact⟨trivial,hZ _ _ _ _ _⟩
def tlP:Ss:=(.cons (.dput (.var 7) (.cst (.str [99,104,111,115,101,110])) (.call "_law_runs_text" lB (.cons (.call "_law_chosen" Ia (.cons (.var 4) (.cons (.var 5) .nil))) .nil))) (.cons (.dput (.var 7) (.cst (.str [102,97,114])) (.blt "str" (.cons (.call "_law_far" aai (.cons (.var 4) .nil)) .nil))) (.cons (.dput (.var 7) (.cst (.str [112,111,117,114])) (.call "_law_numbers_text" qm (.cons (.call "_law_trace" Mw (.cons (.call "_law_natural" ug (.cons (.var 4) .nil)) .nil)) .nil))) (.cons (.dput (.var 7) (.cst (.str [114,111,119])) (.call "_law_shown" vO (.cons (.var 4) .nil))) tlL))))
def tlH:Ss:=(.cons (.set 6 (.comp false 1 false [4,5] (.call "_law_sorted" nJ (.cons (.slc false (.var 1) (.cons (.var 0) .nil) (.cons (.bin .Add (.var 0) (.var 2)) .nil)) .nil)) (.rng (.cons (.cst (.int 0)) (.cons (.blt "len" (.cons (.var 4) .nil)) (.cons (.var 5) .nil)))) .nil)) (.cons (.set 7 (.dd3 [108,111,97,100,115] [] [110,97,116,117,114,97,108] (.call "_law_runs_text" lB (.cons (.var 6) .nil)) (.cst .non) (.call "_law_runs_text" lB (.cons (.call "_law_natural" ug (.cons (.var 4) .nil)) .nil)))) tlP))
theorem akg (h:S6 μ nb nd nu r m [.inr zP,.inr qb] [.str (Ob r m),.str (ahL r m)]) (hok:∀ x∈r,cA x) (hl:r.length<=10) (m1:1<=m) (m2:m<=50)
  (hZ:∀ v8 v9 v10 v11 μ',Z.nx (rho v0 v1 nb nd r m v6 nu v8 v9 v10 v11) μ'):wSs tlP Z (rho v0 v1 nb nd r m v6 nu v8 v9 v10 v11) μ:=by
 have tl:=fun(μ:Mem) (v:_)=>aki (Z:=Z) (μ:=μ) (nb:=nb) (nd:=nd) (nu:=nu) (m:=m) (r:=r) (v0:=v0) (v1:=v1) (v6:=v6) (v8:=v8) (v9:=v9) (v10:=v10) (v11:=v11) v hok hl m1 m2 hZ;simp only[tlP];generalize tlL=L at tl;simp only[rho,wSs,wS,wE,wEs,aJ,bA]at tl ⊢;refine⟨r,m,rfl,by lia,m1,m2,hok,fun μ1 ls1 p1 R1=>⟨_,_,rfl,Tr R1,sG m1 m2 hok (by lia),?_⟩⟩;refine(h.pre p1).put (by simp) (by simp) fun μ2 h2=>?_;refine⟨r,rfl,by lia,?_⟩;simp only[bQ];refine⟨pH (aaU (by lia)),?_⟩;refine h2.put (by simp) (by simp) fun μ3 h3=>?_;refine⟨r,rfl,by lia,hok,fun μ4 ls4 p4 R4=>?_⟩;obtain⟨t1,t2⟩:=afY (r:=r) (by lia);obtain⟨c1,c2⟩:=ju r;refine⟨ls4,bG r,rfl,R4,by lia,by rw[c2];lia,fun q hq x hx=>hok x (yU hq x hx),fun μ5 p5=>?_⟩;refine⟨_,_,rfl,.inl rfl,by lia,fun z hz=>by have:=t2 z hz;lia,?_⟩;refine(h3.pre (p4.trans p5)).put (by simp) (by simp) fun μ6 h6=>?_;refine⟨_,r,rfl,.inl rfl,hok,by lia,?_⟩;refine h6.put (by simp) (by simp) fun μ7 h7=>?_;exact tl μ7 h7
theorem akj {Z:j6} {μ:Mem} {nb nd m:Nat} {r:List Itm} {v0 v1 v6 v7 v8 v9 v10 v11:Option D} (hb:Bk μ nb) (hd:μ[nd]?=some (cJ r (m:Int) 2 3)) (hn:nb≠nd) (hok:∀ x∈r,cA x) (hl:r.length<=10) (m1:1<=m) (m2:m<=50)
  (hZ:∀ v6 nu v8 v9 v10 v11 μ',Z.nx (rho v0 v1 nb nd r m v6 nu v8 v9 v10 v11) μ'):wSs tlH Z [v0,v1,some (.loc nb),some (.loc nd),some (.lst (r.map aK)),some (.int (m:Int)),v6,v7,v8,v9,v10,v11] μ:=by
 have tp:=fun(μ:Mem) (nu:Nat) (v6:Option D) (v:_)=>akg (Z:=Z) (μ:=μ) (nb:=nb) (nd:=nd) (nu:=nu) (m:=m) (r:=r) (v0:=v0) (v1:=v1) (v6:=v6) (v8:=v8) (v9:=v9) (v10:=v10) (v11:=v11) v hok hl m1 m2 (hZ v6 nu);simp only[tlH];generalize tlP=P at tp;simp only[wSs,wS,wE,wEs,wI,wTs,bQ,lenOf,aB,gR,aR,m7,aX,aW,bB,aO,aJ,bA,uL,bY,bZ];refine aaZ (by lia) m1 m2 (fun j=>.lst ((GX ((r.drop (j*m)).take m)).map aK)) (fun j=>μ++bD j Cell.gone) (by simp) (fun j hj hjm Y N q=>?_) ?_
 .simp only[bindC,aJ,bA,wE,wEs,wO,zR,jC,Gq,newL,if_true]
  rw[Vk _ _ _ (by simpa using hjm),<-Pq,<-Jf];refine⟨(r.drop (j*m)).take m,rfl,by simp;lia,?_⟩;rw[qy,<-List.replicate_succ'];exact q
 .have e0:((aU (cuts m r).length).map fun j=>D.lst ((GX ((r.drop (j*m)).take m)).map aK))=lM ((cuts m r).map GX):=by simp[lM,cuts,Dw]
  rw[e0];simp only[newL,aJ,bA];generalize hμ:μ++bD (cuts m r).length Cell.gone=μ1;have p1:Pre μ μ1:=by rw[<-hμ];exact Pre.app _ _
  refine⟨_,_,rfl,abq _ _,zE m1 (by lia) hok,?_⟩;refine⟨r,rfl,by lia,hok,fun μ2 ls p2 R2=>⟨_,_,rfl,Tr R2,Ea (by lia) hok,?_⟩⟩;have e1:(μ1++[Cell.jZ [] []])[μ1.length]?=some (.jZ [] []):=by simp
  have g:∀ {i:Nat} {c:Cell},μ[i]?=some c->μ2[i]?=some c:=fun z=>p2.get ((Pre.app _ _).get (p1.get z));have lt:∀ {i:Nat} {c:Cell},μ[i]?=some c->i≠μ1.length:=fun z=>by have:=(bT.mp z).1;have:=p1.1;lia
  have h2:S6 μ2 nb nd μ1.length r m [] []:=⟨by obtain⟨b,e⟩:=hb;exact⟨b,g e⟩,g hd,p2.get e1,hn,by obtain⟨b,e⟩:=hb;exact lt e,lt hd⟩;exact⟨h2.u,tp _ _ _ (h2.set _ _)⟩
def aaw:List Str:=["script","k","box","desk","row","room","heaps","due","turn","words","at","word"]
def tlR:Ss:=(.cons (.ite (.cmp .Gt (.call "_law_take" cj (.cons (.var 2) (.cons (.cst (.int 3)) .nil))) (.cst (.int 0))) (.cons (.set 5 (.bin .Add (.cst (.int 1)) (.call "_law_take" cj (.cons (.var 2) (.cons (.cst (.int 6)) .nil))))) (.cons (.ite (.cmp .NotEq (.call "_law_said" H9 (.cons (.var 3) (.cons (.bin .Add (.cst (.str [114,111,111,109,32])) (.blt "str" (.cons (.var 5) .nil))) .nil))) (.cst (.str [111,107]))) (.cons (.ret (.cst (.bl false))) .nil) .nil) .nil)) .nil) tlH)
def aaK:Ss:=(.cons (.for_ [1] false (.rng (.cons (.blt "max" (.cons (.cst (.int 1)) (.cons (.blt "min" (.cons (.blt "len" (.cons (.var 0) .nil)) (.cons (.cst (.int 2)) .nil))) .nil))) .nil)) (.cons (.set 2 (.call "_law_box" vQ (.cons (.var 0) (.cons (.var 1) .nil)))) (.cons (.set 3 (.mk "Desk" Af .nil)) (.cons (.set 4 (.call "_law_row" vP (.cons (.var 2) (.cons (.cst (.int 10)) .nil)))) (.cons (.set 5 (.cst (.int 3))) (.cons (.ite (.cmp .NotEq (.var 4) (.lst false .nil)) (.cons (.exp (.rW "Desk" "say" ud (.var 3) (.cons (.bin .Add (.cst (.str [97,100,100,32])) (.call "_law_shown" vO (.cons (.var 4) .nil))) .nil))) .nil) .nil) tlR)))))) (.cons (.ret (.cst (.bl true))) .nil))
theorem cmp_gt (i j:Int) (μ:Mem) (Q:QD):cP .Gt (.int i) (.int j) μ Q=Q (.bl (decide (j<i))) μ:=rfl
theorem akf {Z:j6} {μ:Mem} {nb nd:Nat} {r:List Itm} {v0 v1 v6 v7 v8 v9 v10 v11:Option D} (hb:Bk μ nb) (hd:μ[nd]?=some (cJ r 3 2 3)) (hn:nb≠nd) (hok:∀ x∈r,cA x) (hl:r.length<=10)
  (hZ:∀ m v6 nu v8 v9 v10 v11 μ',Z.nx (rho v0 v1 nb nd r m v6 nu v8 v9 v10 v11) μ'):wSs tlR Z [v0,v1,some (.loc nb),some (.loc nd),some (.lst (r.map aK)),some (.int 3),v6,v7,v8,v9,v10,v11] μ:=by
 have th:=fun(μ:Mem) (m:Nat) (a:_) (b:_) (m1:1<=m) (m2:m<=50)=>akj (Z:=Z) (μ:=μ) (nb:=nb) (nd:=nd) (m:=m) (r:=r) (v0:=v0) (v1:=v1) (v6:=v6) (v7:=v7) (v8:=v8) (v9:=v9) (v10:=v10) (v11:=v11) a b hn hok hl m1 m2 (hZ m);simp only[tlR];generalize tlH=H at th;simp only[wSs,wS,wT,wE,wEs,cj,aJ,bA,bZ,bY];have gb:∀ {μ:Mem} {b:Int} {c:Cell},μ[nd]?=some c->(bx μ nb b)[nd]?=some c:=fun {μ b c} z=>by unfold bx;rw[cU hn];exact z
 refine⟨hb,by decide,by decide,fun a b a0 a1=>?_⟩;have hb1:=lW (b:=b) hb;have hd1:=gb (b:=b) hd;simp only[cmp_gt,fV];by_cases c:0<a
 .simp only[c,decide_true,if_true]
  refine⟨hb1,by decide,by decide,fun a' b' a0' a1'=>?_⟩;have hb2:=lW (b:=b') hb1;have hd2:=gb (b:=b') hd1;simp only[jC,bQ,aJ,bA,bZ,bY];obtain⟨m,em⟩:∃ m:Nat,(1:Int)+a'=(m:Int):=⟨(1+a').toNat,by lia⟩;rw[em];have m1:1<=m:=by lia
  have m2:m<=50:=by lia
  have hk:keyOk (m:Int):=⟨by lia,by lia⟩;refine⟨pH hk,?_,?_⟩
  .have:=vY hk.1 hk.2
   simp only[lim,bh,aN];lia
  refine⟨nd,r,3,2,3,_,rfl,hd2,.inr (.inr (.inr ⟨m,by rw[vC];rfl,m1,m2,?_⟩))⟩;refine afW (t:=ajY) rfl ?_;simp only[fV,cg,if_false];refine th _ m ?_ ?_ m1 m2
  .obtain⟨x,e⟩:=hb2
   exact⟨x,by rw[cU (bL hn)];exact e⟩
  .exact eU (bT.mp hd2).1
 .simp only[c,decide_false,cg,if_false]
  exact th _ 3 hb1 hd1 (by decide) (by decide)
theorem amV:Keeps aaw aaK Mv:=by
 rintro ds μ Q ⟨ns,rfl,hl,h⟩;have hlo:(ns.length:Int)<=63:=by lia
 have tr:=fun(Z:j6) (μ:Mem) (nb nd:Nat) (r:List Itm) (v0 v1 v6 v7 v8 v9 v10 v11:Option D)=>akf (Z:=Z) (μ:=μ) (nb:=nb) (nd:=nd) (r:=r) (v0:=v0) (v1:=v1) (v6:=v6) (v7:=v7) (v8:=v8) (v9:=v9) (v10:=v10) (v11:=v11);simp only[aaK];generalize tlR=R at tr;simp only[aaw,aC,bH,wSs,wS,wT,wE,wEs,wI,newL,bQ,lenOf,aB,Cq,m7,aX,aW,bh,aN,bB,aO,aJ,aR,gR];refine⟨?_,?_,?_⟩
 .simp only[lim];split<;>split<;>lia
 .split<;>split<;>lia
 refine cV (fun ds ρ μ'=>(∀ d∈ds,∃ i:Int,d= .int i/\0<=i)/\∃ a b c d e f g i j k l,ρ=[some (.ro (ns.map D.int)),a,b,c,d,e,f,g,i,j,k,l]) ?_ ?_ _ _ _ ⟨?_,none,none,none,none,none,none,none,none,none,none,none,rfl⟩
 .rintro d ds ρ μ1 N hN ⟨hd,a1,a2,a3,a4,a5,a6,a7,a8,a9,a10,a11,rfl⟩
  obtain⟨k,rfl,k0⟩:=hd d (by simp);have nx:∀ ρ μ,(∃ a b c d e f g i j k l,ρ=[some (.ro (ns.map D.int)),a,b,c,d,e,f,g,i,j,k,l])->N ρ μ:=fun ρ μ q=>hN ρ μ ⟨fun d hd'=>hd d (by simp[hd']),q⟩;refine⟨trivial,?_⟩;simp only[fB,bZ,bY,aJ,bA];refine⟨ns,rfl,by lia,k0,fun b0=>?_⟩;refine⟨_,rfl,by simp,rfl,?_⟩;have e1:∀ (x y z:Cell),(μ1++[x]++[y]).set (μ1++[x]).length z=μ1++[x]++[z]:=fun x y z=>by simp
  rw[e1];have hb:Bk (μ1++[Cell.lst [.int b0]]++[cJ [] 3 2 3]) μ1.length:=⟨b0,by simp⟩;have hd0:(μ1++[Cell.lst [.int b0]]++[cJ [] 3 2 3])[(μ1++[Cell.lst [.int b0]]).length]?=some (cJ [] 3 2 3):=by simp
  have hne:μ1.length≠(μ1++[Cell.lst [.int b0]]).length:=by simp
  generalize μ1++[Cell.lst [.int b0]]++[cJ [] 3 2 3]=μ2 at hb hd0;generalize (μ1++[Cell.lst [.int b0]]).length=nd at hd0 hne;generalize μ1.length=nb at hb hne;refine⟨hb,by decide,by decide,fun r b rl rok=>?_⟩;have hb2:=lW (b:=b) hb;have hd2:(bx μ2 nb b)[nd]?=some (cJ [] 3 2 3):=by unfold bx;rw[cU hne];exact hd0
  generalize bx μ2 nb b=μ3 at hb2 hd2;simp only[bZ,bY,aJ,bA];refine⟨by decide,aat rok ?_⟩;simp only[fV];cases r with
  |nil=>simp only[XR,kY,cg,if_false];exact tr _ _ _ _ [] _ _ _ _ _ _ _ _ hb2 hd2 hne (by simp) (by simp) fun m v6 nu v8 v9 v10 v11 μ'=>nx _ _ ⟨_,_,_,_,_,_,_,_,_,_,_,rfl⟩
  |cons x t=>simp only[aec,mU,if_true];generalize hr:x::t=r at rl rok;(have r0:r≠[]:=by rw[<-hr];simp);(have rl':r.length<=10:=by lia);refine⟨aaH hd2,?_⟩;refine⟨_,r,rfl,.inl rfl,rok,by lia,?_⟩;simp only[jC];refine⟨by have:=N6 rok;simp[lim];lia,?_⟩;refine⟨nd,[],3,2,3,_,rfl,hd2,.inr (.inr (.inl ⟨r,rfl,r0,rok,by simp;lia,?_⟩))⟩;refine tr _ _ _ _ r _ _ _ _ _ _ _ _ ?_ (by rw[aO];exact eU (bT.mp hd2).1) hne rok rl' fun m v6 nu v8 v9 v10 v11 μ'=>nx _ _ ⟨_,_,_,_,_,_,_,_,_,_,_,rfl⟩;obtain⟨y,e⟩:=hb2;exact⟨y,by rw[cU (bL hne)];exact e⟩
 .rintro ρ μ1 ⟨-,a,b,c,d,e,f,g,i,j,k,l,rfl⟩
  exact⟨trivial,h _⟩
 .intro d hd
  obtain⟨i,rfl,h0,_⟩:=Wt hd;exact⟨i,rfl,h0⟩
end DW.K87
namespace DW.K87
open L2 (inClass dj fQ bO aF Vx)
open PySem DW DW.VD DW.TX DW.Gn DW.CHO DW.K91 DW.Ny DW.sJ
set_option hygiene false in
local macro_rules | `(tactic| trivial) => `(tactic| first | exact ⟨rfl, rfl, rfl, by decide +kernel, rfl, by decide +kernel, by decide +kernel⟩ | (intro _ _ _ _ _ _; first | exact len1 fun _ => rfl | exact len2 fun _ _ => rfl | exact amS fun _ _ _ => rfl | exact ap2 fun _ _ _ _ => rfl | exact ap1 fun _ _ _ _ _ => rfl) | (intro _ _ _ h; (repeat' (refine Or.elim h ?_ ?_ <;> intro h)) <;> first | (obtain ⟨_, rfl, _⟩ := h; rfl) | (obtain ⟨_, _, rfl, _⟩ := h; rfl) | (obtain ⟨_, _, _, rfl, _⟩ := h; rfl) | (obtain ⟨_, _, _, _, rfl, _⟩ := h; rfl) | (obtain ⟨_, _, _, _, _, rfl, _⟩ := h; rfl) | (obtain ⟨_, _, _, _, _, _, rfl, _⟩ := h; rfl) | (obtain ⟨_, _, _, _, _, _, _, rfl, _⟩ := h; rfl) | (obtain ⟨_, _, _, _, _, _, _, _, rfl, _⟩ := h; rfl) | (obtain ⟨_, _, _, _, _, _, _, _, _, rfl, _⟩ := h; rfl) | (obtain ⟨_, _, _, _, _, _, _, _, _, _, rfl, _⟩ := h; rfl) | (obtain ⟨_, _, _, _, _, _, _, _, _, _, _, rfl, _⟩ := h; rfl) | (obtain ⟨_, _, _, _, _, _, _, _, _, _, _, _, rfl, _⟩ := h; rfl) | (obtain ⟨_, _, _, _, _, _, _, _, _, _, _, _, _, rfl, _⟩ := h; rfl) | (obtain ⟨_, _, _, _, _, _, _, _, _, _, _, _, _, _, rfl, _⟩ := h; rfl)) | (intro _ _ _ _ h; (repeat' (refine Or.elim h ?_ ?_ <;> intro h)) <;> first | (obtain ⟨_, rfl, _⟩ := h; rfl) | (obtain ⟨_, _, rfl, _⟩ := h; rfl) | (obtain ⟨_, _, _, rfl, _⟩ := h; rfl) | (obtain ⟨_, _, _, _, rfl, _⟩ := h; rfl) | (obtain ⟨_, _, _, _, _, rfl, _⟩ := h; rfl) | (obtain ⟨_, _, _, _, _, _, rfl, _⟩ := h; rfl) | (obtain ⟨_, _, _, _, _, _, _, rfl, _⟩ := h; rfl) | (obtain ⟨_, _, _, _, _, _, _, _, rfl, _⟩ := h; rfl) | (obtain ⟨_, _, _, _, _, _, _, _, _, rfl, _⟩ := h; rfl) | (obtain ⟨_, _, _, _, _, _, _, _, _, _, rfl, _⟩ := h; rfl) | (obtain ⟨_, _, _, _, _, _, _, _, _, _, _, rfl, _⟩ := h; rfl) | (obtain ⟨_, _, _, _, _, _, _, _, _, _, _, _, rfl, _⟩ := h; rfl) | (obtain ⟨_, _, _, _, _, _, _, _, _, _, _, _, _, rfl, _⟩ := h; rfl) | (obtain ⟨_, _, _, _, _, _, _, _, _, _, _, _, _, _, rfl, _⟩ := h; rfl)) | ((repeat' first | exact yp | refine Dh ?_ ?_ | assumption | exact rfl | exact fun z => absurd z (by decide) | exact qY.up (by assumption) (by decide) | exact alV (by assumption) (by assumption) | exact cO.calm (qY.up (by assumption) (by decide)) | exact cO.apA (qY.up (by assumption) (by decide)) | exact cO.apB (qY.up (by assumption) (by decide)) | exact qY.mild (by assumption) | exact cO.other (by assumption) (by assumption) (by assumption) (qY.up (by assumption) (by decide)) | exact aqs.at (by assumption) (by assumption) (by assumption) | exact acp.at (by assumption) (by assumption) (by assumption) | exact aqr.at (by assumption) (by assumption) (by assumption)); done))
def top (i:Nat):Stmt:=PySem.Challenge.pw_pourwright_k87_runs_at_a_desk.main.body.getD i (.Pass ⟨0,0,0,0⟩)
def iG:List Str:=["isinstance","int","bool","str","len","all","range","sorted","max","min","enumerate","list","reversed","divmod"]
theorem Vt:∀ ds μ Q,dF ds μ Q->ds.length=(["thing"]:List Str).length:=by intro ds μ Q h;unfold dF at h;split at h<;>first|rfl|exact h.elim
theorem ajk:∀ ds μ Q,vQ ds μ Q->ds.length=(["script","k"]:List Str).length:=by intro ds μ Q h;unfold vQ at h;split at h<;>first|rfl|exact h.elim
theorem ahg:∀ ds μ Q,cj ds μ Q->ds.length=(["box","many"]:List Str).length:=by intro ds μ Q h;unfold cj at h;split at h<;>first|rfl|exact h.elim
theorem Vu:∀ ds μ Q,dZ ds μ Q->ds.length=(["thing","many"]:List Str).length:=by intro ds μ Q h;unfold dZ at h;split at h<;>first|rfl|exact h.elim
theorem ajj:∀ ds μ Q,vP ds μ Q->ds.length=(["box","most"]:List Str).length:=by intro ds μ Q h;unfold vP at h;split at h<;>first|rfl|exact h.elim
noncomputable abbrev fK:Stmt:=inClass (top 62) 8
def oh:List Str:=["self","start","behind"]
theorem wG:dj fO oh (aF fK):=⟨rfl,rfl,rfl,by decide+kernel,rfl,by decide+kernel,by decide+kernel⟩
theorem yV:∀ d,Ec (Ctx.of fO (aF fK).names iG) (fP d) (bO fK)=true:=by intro d;kernel_rfl
theorem wL:∀ d ds μ Q,bV d ds μ Q->ds.length=oh.length:=by intro d ds μ Q h;unfold bV at h;obtain⟨_,_,_,_,_,_,_,_,rfl,_⟩:=h;rfl
noncomputable abbrev Tp:Stmt:=top 121
def afR:List Str:=["script"]
theorem akv:dj aaw afR (aF Tp):=⟨rfl,rfl,rfl,by decide+kernel,rfl,by decide+kernel,by decide+kernel⟩
theorem amR:Ec (Ctx.of aaw (aF Tp).names iG) aaK (bO Tp)=true:=by decide+kernel
theorem amd:∀ ds μ Q,Mv ds μ Q->ds.length=afR.length:=by intro ds μ Q h;unfold Mv at h;obtain⟨_,rfl,_⟩:=h;rfl
theorem Gz {K:aV} {CP:Addr} (a:bI K aM (aD "PourError")=some (some (.ref CP))):acp K "PourError" []:=by refine⟨CP,a,?_⟩;intro c hc;simp only[bC,ur,or_false]at hc
theorem zA {T:Top} {h:Heap} (Y:T.K.In h/\h.Ns aM T.mg/\∀ y,iG.contains y=true->T.mg y=none) (k:Nat) (ps:List Str) {x:Str} {st:Stmt} {N:List Str} {i:Ss} {sp:dz} (D:bJ T.K x st) (hk:Keeps N i sp) (har:∀ ds μ Q,sp ds μ Q->ds.length=ps.length:=by trivial) (S:dj N ps (aF st):=by trivial) (hmt:Ec (Ctx.of N (aF st).names iG) i (bO st)=true:=by decide+kernel) (hbd:∀ (kV doc pm:Value) (an:Option Addr) (cdv ct:Value) (us:List Value),us.length=ps.length->rK (lN x x (fQ st) (bO st) (aF st) .none kV doc pm an cdv ct) ⟨us,[]⟩=pure (ps.zip us):=by trivial) (ok:jO (cO T k) (gw T) i:=by trivial):cO T (k+1) (.fn x) sp:=anb D Y.1 Y.2.1 S hmt Y.2.2 hbd har hk ok
theorem zK {T:Top} {h:Heap} (Y:T.K.In h/\h.Ns aM T.mg/\∀ y,iG.contains y=true->T.mg y=none) (k:Nat) (ps:List Str) {c:String} {q:Str} {st:Stmt} {N:List Str} {i:Ss} {sp:dz} (D:gK T.K c "__init__" q st) (Cl:ClsAt T.K c) (hk:Keeps N i sp) (har:∀ ds μ Q,sp ds μ Q->ds.length=ps.length:=by trivial) (S:dj N ps (aF st):=by trivial) (hmt:Ec (Ctx.of N (aF st).names iG) i (bO st)=true:=by decide+kernel) (hbd:∀ (kV doc pm:Value) (an:Option Addr) (cdv ct:Value) (us:List Value),us.length=ps.length->rK (lN (aD "__init__") q (fQ st) (bO st) (aF st) .none kV doc pm an cdv ct) ⟨us,[]⟩=pure (ps.zip us):=by trivial) (ok:jO (cO T k) (gw T) i:=by trivial):cO T (k+2) (.mk c) sp:=amQ Y.1 Y.2.1 D Cl S hmt Y.2.2 hbd har hk ok
theorem zM {T:Top} {h:Heap} (Y:T.K.In h/\h.Ns aM T.mg/\∀ y,iG.contains y=true->T.mg y=none) (k:Nat) (ps:List Str) {c m:String} {q:Str} {st:Stmt} {N:List Str} {i:Ss} {sp:dz} (D:gK T.K c m q st) (Cl:ClsAt T.K c) (hk:Keeps N i sp) (har:∀ ds μ Q,sp ds μ Q->ds.length=ps.length:=by trivial) (S:dj N ps (aF st):=by trivial) (hmt:Ec (Ctx.of N (aF st).names iG) i (bO st)=true:=by decide+kernel) (hbd:∀ (kV doc pm:Value) (an:Option Addr) (cdv ct:Value) (us:List Value),us.length=ps.length->rK (lN (aD m) q (fQ st) (bO st) (aF st) .none kV doc pm an cdv ct) ⟨us,[]⟩=pure (ps.zip us):=by trivial) (ok:jO (cO T k) (gw T) i:=by trivial):cO T (k+1) (.rW c m) sp:=Y9 D Cl S hmt Y.2.2 hbd har hk ok
set_option maxHeartbeats 0 in
theorem alw {T:Top} {h:Heap} {f:Addr} {fd:d7} {zW:Tok} {tU:Tok} {Fl:Tok} {tV:Tok} {wQ:Tok} {K:aV} (eK:T.K=K) (X:T.K.In h) (G:h.Ns aM T.mg) (fr:K7 K iG) (j4:bI K aM "MOST_ITEMS"=some (some (.int 200 zW))) (iC:bI K aM "MOST_LETTERS"=some (some (.int 8 tU))) (mj:bI K aM "MOST_ROOM"=some (some (.int 50 Fl))) (iD:bI K aM "MOST_FIGURES"=some (some (.int 40 tV))) (ji:bI K aM "MOST_POURED"=some (some (.int 16 wQ))) (qR:ClsAt K "Chooser") (iT:ClsAt K "Contest") (Rz:ClsAt K "Desk") (agL:GP K "Chooser" "room") (agN:GP K "Chooser" "kept") (agM:GP K "Chooser" "last") (acu:GP K "Contest" "heads") (aaV:GP K "Contest" "winners") (ab3:GP K "Contest" "played") (alX:GP K "Desk" "row") (ajG:GP K "Desk" "room") (aiW:GP K "Desk" "width") (ahu:GP K "Desk" "drives") (Ce:Hs K "pour_pours" "pour") (ask:aho K "ASKED" DW.Gn.RT) (p8:Ck K "ASKED" [108,111,97,100,115] "tell_loads") (mW:Ck K "ASKED" [110,97,116,117,114,97,108] "tell_natural") (oR:Ck K "ASKED" [99,104,111,115,101,110] "tell_chosen") (vH:Ck K "ASKED" [102,97,114] "tell_far") (sH:Ck K "ASKED" [112,111,117,114] "tell_pour") (vG:Ck K "ASKED" [114,111,119] "tell_row") (Gg:acp K "PourError" []) (ZD:bJ K "is_whole" (top 19)) (ag0:bJ K "is_tag" (top 20)) (al7:bJ K "less" (top 21)) (RD:bJ K "sorted_row" (top 23)) (Vg:bJ K "runs_told" (top 39)) (ai0:bJ K "midst" (top 60)) (Ew:gK K "Contest" "winner" "Contest.winner" (inClass (top 62) 10)) (ab8:bJ K "head_of" (top 65)) (Vf:bJ K "show_item" (top 77)) (LQ:bJ K "are_figures" (top 79)) (Vh:bJ K "read_item" (top 82)) (Ks:bJ K "show_numbers" (top 88)) (ama:bJ K "_law_box" (top 105)) (ai2:bJ K "_law_take" (top 106)) (ai4:bJ K "_law_less" (top 109)) (ag3:bJ K "_law_shown" (top 114)) (GJ:bJ K "_law_numbers_text" (top 117)) (aiZ:bJ K "rises" (top 22)) (GD:bJ K "greater_ahead" (top 24)) (ZF:bJ K "is_below" (top 32)) (RG:bJ K "check_room" (top 33)) (Ez:gK K "Chooser" "may_go" "Chooser.may_go" (inClass (top 37) 4)) (ab7:bJ K "natural" (top 58)) (BR:bJ K "stretches_above" (top 61)) (GF:gK K "Contest" "first" "Contest.first" (inClass (top 62) 1)) (Ey:gK K "Contest" "better" "Contest.better" (inClass (top 62) 11)) (ZC:bJ K "show_row" (top 78)) (LC:bJ K "is_key_text" (top 80)) (Vi:gK K "Desk" "__init__" "Desk.__init__" (inClass (top 103) 0)) (ai5:bJ K "_law_item" (top 107)) (ab9:bJ K "_law_sorted" (top 110)) (RJ:bJ K "_law_runs_text" (top 116)) (ZJ:bJ K "_law_natural" (top 118)) (ag2:bJ K "_law_trace" (top 119)) (al9:bJ K "_law_far" (top 120)) (ang:bJ K "far" (top 25)) (BW:gK K "Chooser" "let_out" "Chooser.let_out" (inClass (top 37) 3)) (ai1:bJ K "loads" (top 57)) (tK:gK K "Contest" "check_place" "Contest.check_place" (inClass (top 62) 7)) (Kw:gK K "Contest" "play" "Contest.play" (inClass (top 62) 9)) (Kv:bJ K "check_rising" (top 64)) (Ku:bJ K "is_item_text" (top 81)) (Ve:bJ K "show_runs" (top 89)) (Zy:bJ K "tell_row" (top 91)) (zy:gK K "Desk" "keep_number" "Desk.keep_number" (inClass (top 103) 3)) (al8:bJ K "_law_row" (top 108)) (acd:bJ K "_law_chosen" (top 111)) (KD:gK K "Chooser" "__init__" "Chooser.__init__" (inClass (top 37) 0)) (KH:gK K "Chooser" "give" "Chooser.give" (inClass (top 37) 1)) (EY:gK K "Chooser" "finish" "Chooser.finish" (inClass (top 37) 2)) (KC:gK K "Contest" "head" "Contest.head" (inClass (top 62) 2)) (LR:gK K "Contest" "put" "Contest.put" (inClass (top 62) 3)) (RB:bJ K "tell_loads" (top 93)) (Kr:bJ K "tell_natural" (top 94)) (Zz:bJ K "tell_far" (top 96)) (Eu:gK K "Desk" "add_items" "Desk.add_items" (inClass (top 103) 2)) (ag1:bJ K "chosen" (top 38)) (LK:bJ K "chosen_runs" (top 90)) (Lz:bJ K "tell_chosen" (top 95)) (zB:gK K "Contest" "play_all" "Contest.play_all" fK) (Kz:gK K "Contest" "__init__" "Contest.__init__" (inClass (top 62) 0)) (al6:bJ K "pour" (top 66)) (Vc:bJ K "tell_pour" (top 97)) (ZG:gK K "Desk" "say" "Desk.say" (inClass (top 103) 1)) (ai3:bJ K "_law_said" (top 115)) (F:Vx K "law" "law" Tp f fd):fG T 33 f fd afR (Sq Mv):=by
 subst eK;have hb:=aaS X G fr;have Y:=Dh X (Dh G hb);have aiS:gw T "MOST_ITEMS" (.int 200):=Bw (pq X G j4);have agF:gw T "MOST_LETTERS" (.int 8):=Bw (pq X G iC);have ajE:gw T "MOST_ROOM" (.int 50):=Bw (pq X G mj);have agG:gw T "MOST_FIGURES" (.int 40):=Bw (pq X G iD);have aht:gw T "MOST_POURED" (.int 16):=Bw (pq X G ji);have:=zA Y 0 ["thing"] ZD Ze Vt;have:=zA Y 0 ["thing"] ag0 agi;have:=zA Y 0 ["one","other"] al7 alG;have:=zA Y 0 ["row"] RD Rb;have:=zA Y 0 ["told"] Vg Ug;have ahF:=zA Y 0 ["start","behind"] ai0 aiF;have:=zM Y 0 ["self","start","behind"] Ew iT Ej;have:=zA Y 0 ["run","taken"] ab8 abP;have:=zA Y 0 ["item"] Vf Ue;have:=zA Y 0 ["text"] LQ Lq;have:=zA Y 0 ["word"] Vh Uh;have:=zA Y 0 ["numbers"] Ks u5;have:=zA Y 0 ["script","k"] ama alI ajk;have:=zA Y 0 ["box","many"] ai2 aiH ahg;have:=zA Y 0 ["one","other"] ai4 Rh;have:=zA Y 0 ["row"] ag3 agn;have:=zA Y 0 ["numbers"] GJ Gw;have:=zA Y 1 ["row"] aiZ Rc;have:=zA Y 1 ["row","place"] GD Gu;have:=zA Y 1 ["thing","many"] ZF JZ Vu;have:=zA Y 1 ["thing"] RG rZ;have:=zM Y 1 ["self","item"] Ez qR El;have:=zA Y 1 ["row"] ab7 Eh;have:=zA Y 1 ["place","many"] BR Bh;have:=zM Y 1 ["self"] GF iT Gv;have:=zM Y 1 ["self","left","right"] Ey iT Ek;have:=zA Y 1 ["row"] ZC zf;have:=zA Y 1 ["text"] LC Ln;have:=zK Y 0 ["self"] Vi Rz Ui;have:=zA Y 1 ["box"] ai5 Ri;have:=zA Y 1 ["row"] ab9 qJ;have:=zA Y 1 ["runs"] RJ Rg;have:=zA Y 1 ["row"] ZJ Zh;have:=zA Y 1 ["runs"] ag2 agm;have:=zA Y 1 ["row"] al9 alH;have:=zA Y 2 ["row"] ang amW;have:=zM Y 2 ["self"] BW qR Bj;have:=zA Y 2 ["row","room"] ai1 aiG;have:=zM Y 2 ["self","thing"] tK iT tH;have HF:=zM Y 2 ["self","start","behind"] Kw iT J1;have:=zA Y 2 ["runs"] Kv J0;have:=zA Y 2 ["word"] Ku JX;have:=zA Y 2 ["runs"] Ve Ud;have V7:=zA Y 2 ["desk"] Zy zc;have:=zM Y 2 ["self","word","text"] zy Rz zj;have:=zA Y 2 ["box","most"] al8 Zg ajj;have:=zA Y 2 ["row","room"] acd abQ;have:=zK Y 2 ["self","room"] KD qR J4;have:=zM Y 3 ["self","item"] KH qR J5;have:=zM Y 3 ["self"] EY qR Em;have:=zM Y 3 ["self","place"] KC iT J3;have:=zM Y 3 ["self","place","head"] LR iT Lr;have N5:=zA Y 3 ["desk"] RB Ra;have HD:=zA Y 3 ["desk"] Kr JW;have V8:=zA Y 3 ["desk"] Zz Zd;have:=zM Y 3 ["self","words"] Eu Rz Ei;have:=zA Y 4 ["row","room"] ag1 agj;have:=zA Y 5 ["desk"] LK Lp;have Lb:=zA Y 6 ["desk"] Lz Lk;have yQ:∀ d j,3<=j->cO T j (.rW "Contest" "play_all") (spP bV d)->jO (cO T j) (gw T) (fP d):=by intro d j hj zz;have Ld:=ahF.up (show 1<=j by lia);have Cm:=HF.up (show 3<=j by lia);trivial
 have V9:=aaz zB iT wG yV hb (fun _ _ _ _ _ _=>amS fun _ _ _=>rfl) wL zm yQ 6;have:=zK Y 10 ["self","heads"] Kz iT J2;have:=zA Y 12 ["runs"] al6 alF;have Sv:=zA Y 13 ["desk"] Vc Uc;have tG:=N5.up (show 4<=14 by decide);have qj:=HD.up (show 4<=14 by decide);have rm:=Lb.up (show 7<=14 by decide);have wF:=V8.up (show 4<=14 by decide);have tQ:=Sv.up (show 14<=14 by decide);have wD:=V7.up (show 3<=14 by decide);have ajK:cO T 14 (.din "ASKED" DW.Gn.RT) spN:=al3 X G ask;have ajI:cO T 14 (.dsp "ASKED" DW.Gn.RT uc) spN:=al2 X G ask fun ds μ Q Xq h=>by
  rcases h with⟨r,rfl,h⟩|⟨r,rfl,h⟩|⟨r,rfl,h⟩|⟨r,rfl,h⟩|⟨r,rfl,h⟩|⟨r,rfl,h⟩
  .exact⟨_,r,_,_,rfl,p8,tG.Sq,h⟩
  .exact⟨_,r,_,_,rfl,mW,qj.Sq,h⟩
  .exact⟨_,r,_,_,rfl,oR,rm.Sq,h⟩
  .exact⟨_,r,_,_,rfl,vH,wF.Sq,h⟩
  .exact⟨_,r,_,_,rfl,sH,tQ.Sq,h⟩
  .exact⟨_,r,_,_,rfl,vG,wD.Sq,h⟩
 have:=zM Y 14 ["self","line"] ZG Rz Zf;have:=zA Y 15 ["desk","line"] ai3 aiI;have o_law:jO (cO T 16) (gw T) aaK:=by trivial
 exact Rv F akv amR hb o_law amd amV
end DW.K87
set_option hygiene false in
local macro_rules | `(tactic| decreasing_trivial) => `(tactic| first | (dsimp only [L2.KOf]; refine' DW.agY ?a ?l ?c ?k; (case a => k_is); (case l => k_is); (case c => k_is); (case k => k_is)) | (dsimp only [L2.KOf]; refine' DW.af3 ?a ?b ?i ?l ?c ?k; (case a => k_is); (case b => k_is); (case i => k_is); (case l => k_is); (case c => k_is); (case k => k_is)) | (dsimp only [L2.KOf]; refine' DW.ais ?a ?b; (case a => k_is); (case b => k_is)) | (dsimp only [L2.KOf]; refine' DW.ag7 ?a ?b ?c ?d ?e ?f ?g; (case a => k_is); (case b => k_is); (case c => k_is); (case d => k_is); (case e => k_is); (case f => k_is); (case g => k_is)))
open PySem PySem.W PyProof.Rows
set_option maxRecDepth 100000 in
set_option maxHeartbeats 0 in
theorem PySem.Challenge.cw_pourwright_k87_runs_at_a_desk_holds : PySem.Challenge.rw_pourwright_k87_runs_at_a_desk.Holds := by
 w_on;o_law;k_head;(case hw=>w_witness2)
 k_fill
 refine DW.agf (l:=PySem.Challenge.rw_pourwright_k87_runs_at_a_desk) (k:=33) ?I rfl (by decide) rfl (fun w h Y=>by first|exact PySem.W.kIn_of Y|exact PySem.W.km_in_of Y) ?F;case I=>kernel_rfl
 case F=>
  intro w mg fa h KX G hmg;have anf:DW.bJ (L2.KOf KX) "law" DW.K87.Tp:=by decreasing_trivial
  have Ce:DW.Hs (L2.KOf KX) "pour_pours" "pour":=by
   dsimp only[L2.KOf];refine' DW.ZS ?a ?b
   (case a=>k_is);(case b=>k_is)
  have ask:DW.aho (L2.KOf KX) "ASKED" DW.Gn.RT:=by
   dsimp only[L2.KOf];refine' DW.ajh ?a ?b ?c
   (case a=>k_is);(case b=>kernel_rfl);(case c=>kernel_rfl)
  have p8:DW.Ck (L2.KOf KX) "ASKED" [108,111,97,100,115] "tell_loads":=by
   dsimp only[L2.KOf];refine' DW.wu ?a ?b ?c
   (case a=>k_is);(case b=>k_is);(case c=>kernel_rfl)
  have mW:DW.Ck (L2.KOf KX) "ASKED" [110,97,116,117,114,97,108] "tell_natural":=by
   dsimp only[L2.KOf];refine' DW.wu ?a ?b ?c
   (case a=>k_is);(case b=>k_is);(case c=>kernel_rfl)
  have oR:DW.Ck (L2.KOf KX) "ASKED" [99,104,111,115,101,110] "tell_chosen":=by
   dsimp only[L2.KOf];refine' DW.wu ?a ?b ?c
   (case a=>k_is);(case b=>k_is);(case c=>kernel_rfl)
  have vH:DW.Ck (L2.KOf KX) "ASKED" [102,97,114] "tell_far":=by
   dsimp only[L2.KOf];refine' DW.wu ?a ?b ?c
   (case a=>k_is);(case b=>k_is);(case c=>kernel_rfl)
  have sH:DW.Ck (L2.KOf KX) "ASKED" [112,111,117,114] "tell_pour":=by
   dsimp only[L2.KOf];refine' DW.wu ?a ?b ?c
   (case a=>k_is);(case b=>k_is);(case c=>kernel_rfl)
  have vG:DW.Ck (L2.KOf KX) "ASKED" [114,111,119] "tell_row":=by
   dsimp only[L2.KOf];refine' DW.wu ?a ?b ?c
   (case a=>k_is);(case b=>k_is);(case c=>kernel_rfl)
  have Gg:DW.acp (L2.KOf KX) "PourError" []:=by
   dsimp only[L2.KOf];refine' DW.K87.Gz ?a
   (case a=>k_is)
  have fr:DW.K7 (L2.KOf KX) DW.K87.iG:=by
   dsimp only[L2.KOf,DW.K87.iG,DW.K7];refine' ⟨?z0,?z1,?z2,?z3,?z4,?z5,?z6,?z7,?z8,?z9,?z10,?z11,?z12,?z13,trivial⟩
   (case z0=>k_is)
   (case z1=>k_is)
   (case z2=>k_is)
   (case z3=>k_is)
   (case z4=>k_is)
   (case z5=>k_is)
   (case z6=>k_is)
   (case z7=>k_is)
   (case z8=>k_is)
   (case z9=>k_is)
   (case z10=>k_is)
   (case z11=>k_is)
   (case z12=>k_is)
   (case z13=>k_is)
  have j4:∃ t,bI (L2.KOf KX) aM "MOST_ITEMS"=some (some (.int 200 t)):=by
   dsimp only[L2.KOf];refine' DW.u9 ?z
   (case z=>k_is)
  obtain⟨zW,j4⟩:=j4;have iC:∃ t,bI (L2.KOf KX) aM "MOST_LETTERS"=some (some (.int 8 t)):=by
   dsimp only[L2.KOf];refine' DW.u9 ?z
   (case z=>k_is)
  obtain⟨tU,iC⟩:=iC;have mj:∃ t,bI (L2.KOf KX) aM "MOST_ROOM"=some (some (.int 50 t)):=by
   dsimp only[L2.KOf];refine' DW.u9 ?z
   (case z=>k_is)
  obtain⟨Fl,mj⟩:=mj;have iD:∃ t,bI (L2.KOf KX) aM "MOST_FIGURES"=some (some (.int 40 t)):=by
   dsimp only[L2.KOf];refine' DW.u9 ?z
   (case z=>k_is)
  obtain⟨tV,iD⟩:=iD;have ji:∃ t,bI (L2.KOf KX) aM "MOST_POURED"=some (some (.int 16 t)):=by
   dsimp only[L2.KOf];refine' DW.u9 ?z
   (case z=>k_is)
  obtain⟨wQ,ji⟩:=ji;obtain⟨f,fd,e1,F⟩:=anf;have e2:=hmg.symm.trans (pq KX G e1);cases e2;refine⟨fd,?_,fun base _ _=>by refine DW.K87.alw (T:=⟨_,w,L2.KOf KX,mg,base⟩) (K:=L2.KOf KX) rfl KX G fr j4 iC mj iD ji ?_ ?_ ?_ ?_ ?_ ?_ ?_ ?_ ?_ ?_ ?_ ?_ ?_ Ce ask p8 mW oR vH sH vG Gg ?_ ?_ ?_ ?_ ?_ ?_ ?_ ?_ ?_ ?_ ?_ ?_ ?_ ?_ ?_ ?_ ?_ ?_ ?_ ?_ ?_ ?_ ?_ ?_ ?_ ?_ ?_ ?_ ?_ ?_ ?_ ?_ ?_ ?_ ?_ ?_ ?_ ?_ ?_ ?_ ?_ ?_ ?_ ?_ ?_ ?_ ?_ ?_ ?_ ?_ ?_ ?_ ?_ ?_ ?_ ?_ ?_ ?_ ?_ ?_ ?_ ?_ ?_ ?_ ?_ F<;>decreasing_trivial⟩;obtain⟨oc,od,kV,doc,pm,an,cdv,ct,osl,rfl,lk,hcd⟩:=F.ex;exact fun s u=>.of_eq rfl
#print axioms PySem.Challenge.cw_pourwright_k87_runs_at_a_desk_holds
