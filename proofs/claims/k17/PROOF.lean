import PyProof.Rows.All
import Wide.All
import OpenK.AllK
import Wide.FinOn
import Lean
import PyProof.EqAt
import PyProof.EqKinds
import PyProof.TupleCall
import PySem.Challenge.RW_cometorest_k17_whole_wishes_from_any_row
import KE.KMinKey
import KE.KLam
import KE.KNestM
import KE.KDictList
import PyProof.EnumMake
import PyProof.EnumFor
import PyProof.EnumStmt
import PyProof.AttrMissHeap
import KE.KDictOf
import PyProof.StrLawsChain
import PyProof.StrLawsTight
import PyProof.Rows.StrItems
import PyProof.Rows.StrSplitCount
import PyProof.FString
import KE.KIntText
import KE.KTryMore
import PyProof.NsDelKeeps
import PyProof.ExcClass3
import PyProof.ExcBaseAll.ValueError
import PyProof.ExcAttrAll.ValueError
import PyProof.NeKinds
import PyProof.FactsAll.dict
import KE.KDictSum
import PyProof.DictItems
import KE.KPairComp
import KE.KxWritten
import PyProof.SumAny
import PyProof.Rows.StrLen
import PyProof.CallStr
import PyProof.StrCalls6
import PyProof.Rows.StrCase
import OpenK.KMake
import KE.KSortTup
import KE.KEqDict
set_option Elab.async false
set_option linter.all false
set_option maxRecDepth 100000
set_option tactic.hygienic false
open Array renaming getElem?_eq_getElem->RC,mem_toList_iff->Xd,append_assoc->Xv
open Bool renaming true->Qr,false->Qv,true_and->WE,false_eq_true->XI,xor->XJ,or_eq_true->YL
open False renaming elim->RF
open ForInStep renaming yield->Uq
open Int renaming eq_ofNat_of_zero_le->QN,toNat_natCast->VF,natAbs_natCast->X2,emod_lt_of_pos->X3,natCast_mul->YT,natCast_add->YU,emod_nonneg->YV,add_comm->Zao
open LawfulBEq renaming eq_of_beq->Wk
open List renaming getElem?_eq_some_iff->Qw,mem_map->Qx,replicate->QE,mem_singleton->QH,mem_cons->QL,all_eq_true->QM,mem_append->QO,append_nil->QP,mem_flatMap->QT,nodup_append->QY,nodup_cons->QZ,getElem?_eq_none_iff->Q2,getElem?_set_self->Q3,range->Q7,exists_cons_of_length_eq_add_one->Re,length->Rh,take_of_length_le->Rj,find?_eq_none->RJ,append_assoc->RP,length_set->RR,getD_eq_getElem?_getD->RY,mem_of_find?_eq_some->R3,mem_range->R9,getElem?_replicate->Sa,getElem?_cons_succ->Sb,filter_cons->Sd,mem_filter->Sn,ext_getElem?->Sw,fst_mem_of_mem_zipIdx->SD,map_reverse->SI,getElem?_zip_eq_some->SM,filter_eq_self->SN,lt_irrefl->Ta,filter_eq_nil_iff->Tb,mem_reverse->Tt,lookup->TF,find?_some->TK,dropLast_concat_getLast->TL,map_congr_left->TQ,length_pos_iff->TR,flatMap_append->TU,pairwise_cons->Uc,map->Ud,length_eraseIdx_of_lt->Ue,drop_eq_getElem_cons->Uk,length_eq_zero_iff->Uw,eraseIdx_cons_succ->Ux,range_succ_eq_map->UD,drop_eq_nil_of_le->UE,of_mem_zip->UL,length_singleton->UN,length_replicate->UO,getElem?_zipIdx->UV,drop_zero->UW,length_take_le->Ve,length_reverse->Vf,any_cons->Vj,mem_replicate->Vm,mem_filterMap->Vn,pairwise_map->Vy,map_nil->Vz,getElem_inj->VM,flatMap_nil->VN,sum_append->V3,filter_cons_of_pos->WL,find?_cons_of_neg->WO,Sublist->WQ,take_append_drop->Xa,mem_iff_getElem?->Xb,mem_of_mem_drop->Xi,length_dropLast->Xj,mem_map_of_mem->Xs,zip_cons_cons->XC,length_zipIdx->XD,foldl_toArray->XE,filter_filter->XF,reverse_perm->XW,getElem?_inj->XX,foldl_append->XY,any_eq_false->XZ,map_flatMap->X5,getElem_mem->X6,cons_append->X7,any_eq_true->X8,take_left'->YF,nil_append->YG,length_zip->YH,length_nil->YI,all_append->YJ,filterMap->YS,map_drop->ZG,any_map->ZV,map_id->Zal
open List.Nodup renaming length_le_of_subset->Vg
open List.Pairwise renaming nil->Zam,imp->Zan
open List.Perm renaming refl->VE,swap->Xt
open List.Sublist renaming map->Zbr
open Nat renaming toDigits->SL,min_le_right->Tw,mul_le_mul->U6,eq_zero_or_pos->Vr,succ->VD,not_lt_zero->Wb,succ_mul->W6,le_of_eq->W7,add_comm->W8,log2_lt->Xr,lt_of_le_of_lt->XU,succ_ne_self->YE,min_eq_left->YQ,zero_add->Zaj,mul_comm->Zak
open Ne renaming symm->Rf
open Option renaming some->Qq,none->Qs,map_eq_some_iff->QA,isSome_iff_exists->RH,isNone_iff_eq_none->SG,isSome_map->S8,map_eq_none_iff->WC,map->ZU
open Or renaming inl->TC,inr->Vx
open PyProof.Rows renaming boot_list->Q1,boot_all->Ri,callWith_type1->Si,seqObj->Su,boot_tuple->SF,slot_tuple_getitem->SV,boot_sum->SY,boot_str->S4,envOfC->Ur,Subscript_->U3,AllBare->U7,boot_isinstance->Vc,boot_dict->VL,boot_set->VW,boot_int->VX,tail_any->V4,IsTup->WD,subscriptTail_builtinR->XP,IntsAre->X1,zipApart_new->Zbe,slice_closes_to->Zbf,sliceIdx_hi_beyond->Zbg,setObjOf_fresh->Zbh,evalAll_nil->Zbi,evalAll_cons->Zbj,callWith_kw->Zbk,callWith_builtin1->Zbl,boot_sorted->Zbm,boot_min->Zbn,boot_bool->Zbo,Top->Zbp
open PyProof.Rows.F renaming plain_set_update_loop->Rb,entry_set_update_loop->RG
open PyProof.Rows.IsTup renaming new->X0
open PyProof.Rows.LCg renaming lst->Uo
open PySem renaming wpAny_bind->Qt,starEach->Qy,Value->Qz,wpAny_pure->QB,Addr->QC,Str->QD,Shared->QF,sizeLine->QG,wpAny->QI,model->QJ,compareOp->QK,boot_len->QU,Program->QW,attributeBase->Q6,wpAny_holding->Q8,backTo->Rc,mainGlobals->Rg,World->Rm,codeAny_builtin->Rn,cLine->Rq,foldedSetIterable->Rt,binaryOp->Ru,Expr->Rx,wpAny_truthy_bool->RD,FuncData->RE,wpAny_mono->RL,sysModules->RM,bootBuiltins->RN,Heap->RS,Around->RT,scanBound->RW,Stmt->RX,wpAny_pyIter_list->R8,assignEach->Se,swapsWith->Sl,keywordEach->Sq,codeAny_mono->Sv,wpAny_passesOwn->Sx,compEnvC->Sz,plainId_quiet->SA,JoinOk->SE,wpAny_setState_of->SH,mem_of_lookup->SJ,wpAny_tryCatch->SO,call_meets->SQ,PyData->SR,codeAny->SW,wpAny_getItem_list_slice->S9,wpAny_Call_Name_kw->Te,tupleKind_room_in1->Tf,wpAny_getItem_str_slice->Tn,sliceBounds->To,Obj->Ts,slot_list_getitem->Tu,Builtin->TB,Scope->TH,wpAny_call_entry->TN,Arguments->TY,behindInMarks->T4,codeAny_call_builtin->T6,bindArgs->T7,backToKw->T8,standAt->UB,fits_of_scanBound->UC,pyIter->UF,evalPart_some->UG,evalPart_none->UH,wpAny_Call_method0_late->UP,setField->UQ,typeIs_str->UX,strKind_is->UY,closureFor->U0,call_meetsIn->U1,evalArgs_none->U4,wpAny_execs_nil->U8,post_val_or_str->U9,wpAny_seqItems->Vo,relayAll->Vp,Paired->Vq,tupleKind->Vs,slicePick->Vt,pickOrder->Vu,getItem->Vv,callerA->Vw,Keyword->VA,wpAny_standAt->VI,wpAny_newList->VJ,wpAny_rule->VO,wpAny_call->VP,builtinsNs->VQ,assign->VR,Pos->VY,entryFor->V5,callWith->V6,SetTable->V9,noFill_tuple_add->Wj,entryFor_of_tree->Wl,IsPart->Wv,wpAny_letGo->Ww,wpAny_Slice->Wx,subscripted->Wy,wpAny_updateSeq->WG,wpAny_specialOf->WH,letOwnedTupleGo->WI,Within->WJ,valueAt->WM,BindsTo->WT,wpAny_runValue->WU,wpAny_Name->WV,recursionLimit->WW,raiseNew->WX,pyNext->WY,defaultsOf->WZ,NameKind->W9,wpAny_comprehension_free->Xl,swapsWithSole->Xm,swappedStores->Xn,seq_tuple_add->Xo,strValues->Xw,lastMarks->Xx,atKey->Xy,PassesOwn->XB,wpAny_typeOf->XM,wpAny_Assign_Subscript->XN,seqIndex_neg->XQ,concat_meets->XR,weight_type_call_type->X4,Env->X9,wpAny_newFunctionEnv->Yw,wpAny_loadName_local->Yx,wpAny_field->Yy,seqIndex_of->Yz,bindL->YA,bindC->YB,Walks->YC,intText?->YD,wpAny_setItem_pairs->YM,KeyKind->YP,typeLookup->YX,typeIs_int->YY,getattributeRaised->YZ,argsOk->ZA,PlainAttrs->ZD,wpAny_storeSet_of->ZH,wpAny_pyIter_enum->ZI,wpAny_newObj_type->ZJ,wpAny_assign_Name->ZK,table->ZL,setItem->ZM,meets_dict_values->ZP,getAttr->ZQ,call_sum_walkAnyS->ZR,Sem->ZT,wpAny_pyIter_zip->ZX,wpAny_pyHash_str->ZY,wpAny_getItem_of->ZZ,wpAny_execs_cons->Za0,wpAny_eqBool_str->Za1,check_set_init_1->Za4,call->Za7
open PySem.Around renaming under_plainId->Ra,under_plain->Xk
open PySem.Builtin.Builtins renaming bindParams->YW
open PySem.Builtin.Dict renaming updateFrom->VH,selfAndRest->Zbv,pairItems->Zbw,addKeywords->Zbx
open PySem.Builtin.Frozenset renaming updateFrom->UM,newClass->YK
open PySem.Builtin.List renaming listTooLong->TM,listLengthHint->Vl,listTouch->Zbt,listSameRef->Zbu
open PySem.Builtin.Range renaming rangeSize->Zat
open PySem.Builtin.Slice renaming slicePlaces->So,sliceAdjust->Tz,slicePartIndex->Zar,sliceApplied->Zas
open PySem.Builtin.Str renaming occurrences->QR,strKind->Tq,partsBetween->TX,tooLong->Wi
open PySem.Builtin.Tuple renaming tupleItemsOf->Zaq
open PySem.Calls renaming callWith_builtin->Sj,call_function_entry->UU,Name_function_global->Wc,evalArgs_plain->Xc,spliced_cons->Xu,spliced_nil->XH
open PySem.Code renaming quiet_builtin->XG
open PySem.Data renaming set->Td
open PySem.EqMixed renaming ne_str_int->Zab,ne_str_bool->Zac,ne_int_str->Zad,ne_bool_str->Zae,eq_str_int->Zaf,eq_str_bool->Zag,eq_int_str->Zah,eq_bool_str->Zai
open PySem.EqNone renaming ne_str_none->Zb0,ne_none_str->Zb1,ne_none_none->Zb2,ne_none_int->Zb3,ne_none_bool->Zb4,ne_int_none->Zb5,ne_bool_none->Zb6,eq_str_none->Zb7,eq_none_str->Zb8,eq_none_none->Zb9,eq_none_int->Zba,eq_none_bool->Zbb,eq_int_none->Zbc,eq_bool_none->Zbd
open PySem.F renaming called_set->QS,plain_min_loop->Rz,slot_dict_values->SK,plainAttrs_list->SS,plainAttrs_dict->SU,plainAttrs_str->S7,slot_NoneType_hash->TV,args_tuple_add_2->Ui,entry_tuple_add->Um,slot_tuple_add->Us,entry_min_loop->Ut,slot_dict_get->Uz,slot_list_getattribute->UA,args_str_split_2->VG,sub_list_frozenset->VT,args_dict_values_1->VU,entry_str_split->VZ,slot_dict_getitem->V1,entry_dict_values->V2,type_dict_values->Wa,slot_list_index->We,slot_dict_items->Wf,entry_type_call->Wg,args_dict_get_2->Wh,typeCall_set_1->Ws,entry_set_init->Wt,entry_dict_get->Wu,sub_list_set->WK,slot_int_rmul->ZW
open PySem.Heap renaming SameBut->Sk,get?_update_self->Ss,get?_update_ne->Vh,get?_update_other->WS
open PySem.Heap.DictOf renaming new->Vk
open PySem.Heap.IsSliceOf renaming new->Tp
open PySem.Heap.SameBut renaming update->Tj,refl->Zbs
open PySem.Moved renaming eq_with->YR
open PySem.NameKind renaming free->Ti,cell->US
open PySem.NumText renaming digitsVal->Zaa
open PySem.Obj renaming mapSeq->R7
open PySem.Paired renaming length->Uj,snoc->ZF
open PySem.PassesOwn renaming leaving->QQ
open PySem.PyData renaming depthAll->Q4,eqv->Q5,strOk->Q9,depth->RA,list->RV,eqvAll->Sm,tuple->SB,str->Vd,canLayAll0->Xq
open PySem.SeqAt renaming shaped->ZC,EqAt->Za6
open PySem.SeqAt.EqAt renaming str_none->Wn,none_str->Wp,str_int->Wz,int_str->WA
open PySem.SetTable renaming grown->Sr,below->S6,fits->V0,standIn->Xf
open PySem.SetTable.below renaming go->V8
open PySem.Shared renaming TypeIs->Wd
open PySem.Str renaming ofString->Qu,join->Rv,empty->R5,length->Wm
open PySem.StrLaws renaming glued_eq_join->Vb,found_one->Za9
open PySem.Txt renaming split->R4,slice->Sf,join->Ug,startswith->U2,slice_le->VB
open PySem.Value renaming ref->QV,str->Rl,none->R6,int->T5,type->Uy,isStrOf->Va,bool->V7,isStrOf_shape->Xe,builtin->YN,isInt->ZS
open PySem.W renaming findIn->QX,fnOf->Q0,keepIn->Rk,kitOne->Ro,kia_one->Rr,codeIn->Ry,emptyDict->RK,instObj->RZ,specialIn->R0,isFn->R1,nsIn->Sh,plainGet->Tg,codeHdIn->Th,takesIn->Tv,hasDictIn->Ub,mg_of->Uh,handedIn->Ul,makesIn->Uu,kla_obj->Uv,lookIn->UI,kla_fn->UJ,kitCls->UK,plainGet_of->UR,mroIn->UT,callWith_K->U5,plainOver->Vi,takerIn->VC,tabObj->VS,cellsFrom_some->Wq,methodCall_KW->WB,codeHd_of_K->WN,kdl_values->W4,kitx_list->Xg,kitx_dict->Xh,kdl_dict->Xp,readsIn->Xz,findCls->XA,keq_ne->XS,keq_eq->XT
open PySem.W.Looks renaming here->Za8
open PySem.Walks renaming list->T9
open PySem.Within renaming cons->Zaz
open PySem.pickOrder renaming go->UZ
open PySem.setAddHashedIn renaming eq_def->ZO
open Sum renaming inr->Ua,inl->W0
open Sum.inr renaming inj->YO
open ToString renaming toString->Sy
open True renaming intro->RQ
theorem A10(h:True:=by rfl):True:=h
theorem A11(h:True:=by decide):True:=h
theorem A12(h:True:=by decide +kernel):True:=h
theorem A13(h:True:=by intro _;rfl):True:=h
theorem A14(h:True:=by exact⟨rfl,rfl,rfl,rfl,rfl⟩):True:=h
theorem A15(h:True:=by first|exact .inl rfl|exact .inr rfl|assumption):True:=h
theorem A16(h:True:=by intros;rfl):True:=h
theorem A17(h:True:=by with_unfolding_all rfl):True:=h
theorem A18(h:True:=by first|(show(js _++_).Nodup;decide +kernel)|(show((js _++_)++_).Nodup;decide +kernel)):True:=h
theorem A19(h:True:=by exact λ_=>rfl):True:=h
theorem A20(h:True:=by exact dh.auto):True:=h
theorem A21(h:True:=by first|exact TC rfl|exact Vx (TC rfl)|exact Vx (Vx rfl)):True:=h
theorem A22(h:True:=by first|exact TC rfl|exact Vx rfl):True:=h
abbrev Z0:=@List.length_map
abbrev Z1:=@PySem.Heap.get?_push_of_some
abbrev Z2:=@List.getElem?_eq_getElem
abbrev Z3:=@Nat.le_refl
abbrev Z4:=@List.mem_cons_of_mem
abbrev Z5:=@PySem.Heap.get?_push_size
abbrev Z6:=@PySem.Heap.lt_size
abbrev Z7:=@List.map_map
abbrev Z8:=@List.map_cons
abbrev Z9:=@Nat.le_trans
abbrev Za:=@List.mem_cons_self
abbrev Zb:=@Bool.false_ne_true
abbrev Zc:=@Nat.ne_of_lt
abbrev Zd:=@Nat.lt_of_lt_of_le
abbrev Ze:=@List.mem_of_getElem?
abbrev Zf:=@List.map_append
abbrev Zg:=@List.length_cons
abbrev Zh:=@List.length_append
abbrev Zi:=@List.getElem?_append_left
abbrev Zj:=@List.mem_append_left
abbrev Zk:=@List.getElem?_map
abbrev Zl:=@Bool.and_eq_true
abbrev Zm:=@List.getElem?_append_right
abbrev Zn:=@List.size_toArray
abbrev Zo:=@Nat.lt_succ_of_lt
abbrev Zp:=@QM
abbrev Zq:=@List.lookup_cons
abbrev Zr:=@Option.some.inj
abbrev Zs:=@PySem.Heap.size_push
abbrev Zt:=@List.mem_append_right
abbrev Zu:=@List.length_take
abbrev Zv:=@Nat.lt_irrefl
abbrev Zw:=@List.length_filter_le
abbrev Zx:=@List.flatMap_cons
abbrev Zy:=@List.getElem?_set_ne
abbrev Zz:=@List.foldl_cons
abbrev Y0:=@Nat.lt_succ_self
abbrev Y1:=@Nat.zero_le
abbrev Y2:=@List.length_range
abbrev Y3:=@List.filterMap_cons
abbrev Y4:=@List.filter_append
abbrev Y5:=@Nat.ne_of_gt
abbrev Y6:=@List.replicate_succ
abbrev Y7:=@List.length_drop
abbrev Y8:=@List.take_length
abbrev Y9:=@Array.getElem?_toList
abbrev Ya:=@List.getElem?_eq_none
abbrev Yb:=@QZ
abbrev Yc:=@PySem.Heap.get?_none_of_le
abbrev Yd:=@List.getElem?_take_of_lt
abbrev Ye:=@List.sum_cons
abbrev Yf:=@List.getElem_of_mem
abbrev Yg:=@Option.getD_some
abbrev Yh:=@List.nodup_nil
abbrev Yi:=@List.filterMap_map
abbrev Yj:=@Nat.mod_lt
abbrev Yk:=@Bool.eq_iff_iff
abbrev Yl:=@List.flatten_cons
abbrev Ym:=@List.take_add_one
abbrev Yn:=@List.not_mem_nil
abbrev Yo:=@Array.length_toList
abbrev Yp:=@List.all_cons
abbrev Yq:=@QL
abbrev Yr:=@List.find?_cons
abbrev Ys:=@Nat.le_of_lt
abbrev Yt:=@List.reverse_cons
abbrev Yu:=@List.all_map
abbrev Yv:=@Nat.le_succ
abbrev aV:=PySem.W.Frag
namespace L2
open PySem PySem.Spec PyProof.Rows
noncomputable abbrev aR:=Sum Int QD
noncomputable def eI:aR->Qz->Bool
 | .inl k,v=>ZS k v
 | .inr x,v=>Va x v
noncomputable def yd(w:Rm):aR->Int
 | .inl k=>hashInt k
 | .inr x=>hashStr w x
theorem mj:∀ {k:aR}{v:Qz},eI k v=Qr->(∃i t,k=W0 i/\v=T5 i t)\/(∃x t,k=Ua x/\v=Rl x t)
 | .inl i,v,h=>by
  obtain⟨t,e⟩:=Value.isInt_shape h;exact .inl ⟨i,t,rfl,e⟩
 | .inr x,v,h=>by
  obtain⟨t,e⟩:=Xe h;exact .inr ⟨x,t,rfl,e⟩
theorem Fs(i:Int)(t:Tok):eI (.inl i) (.int i t)=Qr:=by simp[eI,ZS]
theorem G7(x:QD)(t:Tok):eI (.inr x) (.str x t)=Qr:=by simp[eI,Va]
theorem M6(a b:Int):decide ((W0 a:aR)=W0 b)=(a==b):=by
 by_cases e:a=b
 all_goals simp_all
theorem Mm(a b:QD):decide ((Ua a:aR)=Ua b)=decide (a=b):=by
 simp_all
theorem Hy(a:Int)(b:QD):decide ((W0 a)=Ua b)=Qv:=by rfl
theorem JO(a:QD)(b:Int):decide ((Ua a)=W0 b)=Qv:=by rfl
noncomputable def aN(prog:QW)(w:Rm):YP prog w aR where
 is:=eI
 hash:=yd w
 inj:=λv a b g f=>by
  rcases mj g with⟨i,t,rfl,rfl⟩|⟨x,t,rfl,rfl⟩
  ·rcases mj f with⟨j,u,rfl,e⟩|⟨y,u,rfl,e⟩
   ·injection e with c _;rw[c]
   ·exact nomatch e
  ·rcases mj f with⟨j,u,rfl,e⟩|⟨y,u,rfl,e⟩
   ·exact nomatch e
   ·injection e with c _;rw[c]
 byValue:=λk v h=>by
  rcases mj h with⟨i,t,rfl,rfl⟩|⟨x,t,rfl,rfl⟩<;>rfl
 pyHash:=λd h=>by
  rcases mj d with⟨i,t,rfl,rfl⟩|⟨x,t,rfl,rfl⟩
  ·exact wpAny_pyHash_int h
  ·exact ZY h
 eqBool:=λl d h=>by
  rcases mj l with⟨i,t,rfl,rfl⟩|⟨x,t,rfl,rfl⟩
  ·rcases mj d with⟨j,u,rfl,rfl⟩|⟨y,u,rfl,rfl⟩
   ·rw[M6]at h;exact wpAny_eqBool_int h
   ·rw[Hy]at h;exact WA i t y u _ _ _ _ h
  ·rcases mj d with⟨j,u,rfl,rfl⟩|⟨y,u,rfl,rfl⟩
   ·rw[JO]at h;exact Wz x t j u _ _ _ _ h
   ·rw[Mm]at h;exact Za1 h
 «strs»:=λk x t v h=>by
  rcases mj h with⟨i,u,rfl,e⟩|⟨y,u,rfl,e⟩
  ·exact nomatch e
  ·injection e with c _;subst c;cases v<;>rfl
theorem Lq(a:QW)(w:Rm)(i:Int)(t:Tok):(aN a w).is (.inl i) (.int i t)=Qr:=Fs i t
theorem PD(a:QW)(w:Rm)(x:QD)(t:Tok):(aN a w).is (.inr x) (.str x t)=Qr:=G7 x t
inductive V where
 |non|bl (b:Bool)|int (i:Int)|str (x:QD)|byt (b:Array UInt8)|flt (b:UInt64)|ref (a:QC)|ty (n:String)
 deriving DecidableEq
noncomputable def aM:V->Qz->Prop
 | .non,u=>u=R6
 | .bl b,u=>u=V7 b
 | .int i,u=>∃t,u=T5 i t
 | .str x,u=>∃t,u=Rl x t
 | .byt b,u=>∃t,u=Value.bytes b t
 | .flt b,u=>∃t,u=Value.float b t
 | .ref a,u=>u=QV a
 | .ty n,u=>u=Uy n
noncomputable abbrev aG:List V->List Qz->Prop:=Vq aM
theorem aG.length(r:aG xs us):xs.length=us.length:=Uj r
theorem aG.get:∀ {a:List V}{us:List Qz}{i:Nat}{x:V},aG a us->a[i]?=Qq x->∃u,us[i]?=Qq u/\aM x u
 |_,_,_,_,.nil,e=>by simp at e
 |_,_,0,_,.cons r _,e=>by simp at e;subst e;exact⟨_,rfl,r⟩
 |_,_,i+1,x,.cons _ t,e=>by
  obtain⟨u,b,c⟩:=aG.get t (by simpa using e);exact⟨u,by simpa using b,c⟩
theorem aG.set(r:aM x u):∀ {xs:List V}{us:List Qz}  i ,aG xs us->aG (xs.set i x) (us.set i u)
 |_,_,_,.nil=>.nil
 |_,_,0,.cons _ t=>.cons r t
 |_,_,i+1,.cons q t=>.cons q (aG.set r i t)
theorem aG.append:∀ {b c:List V}{us a:List Qz},aG b us->aG c a->aG (b++c) (us++a)
 |_,_,_,_,.nil,s=>s
 |_,_,_,_,.cons r t,s=>.cons r (aG.append t s)
theorem aG.take:∀ {xs:List V}{us:List Qz}  n ,aG xs us->aG (xs.take n) (us.take n)
 |_,_,0,_=>.nil
 |_,_,_+1,.nil=>.nil
 |_,_,n+1,.cons r t=>.cons r (aG.take n t)
theorem aG.drop:∀ {xs:List V}{us:List Qz}  n ,aG xs us->aG (xs.drop n) (us.drop n)
 |_,_,0,r=>r
 |_,_,_+1,.nil=>.nil
 |_,_,n+1,.cons _ t=>aG.drop n t
noncomputable def dN:Option V->Option Qz->Prop
 |some v,Qq u=>aM v u
 |none,Qs=>True
 |_,_=>False
noncomputable def KV{a:Type}:List (a×V)->List (a×Qz)->Prop:=Vq λ(p:a×V) (q:a×Qz)=>p.1=q.1/\aM p.2 q.2
noncomputable def kV:aR->V
 | .inl i=>.int i
 | .inr x=>.str x
inductive HO where
 |lst (xs:List V)
 |tup (xs:List V)
 |dK (kvs:List (aR×V))|dT (kvs:List (List aR×V))
 |set (S:Int->Bool) (n:Nat)
 |ins (C dx:QC) (fs:List (QD×V))
 |own (x:QC)
 |xd (fs:List (QD×V))
 |met (f x:QC)
 |rng (lo hi:Int)
 |frz (o:Ts) (u:HO)
 |tbl (ps:Array Qz)
 |ext (φ:RS->Prop)
noncomputable abbrev Hp:=QC->Option HO
noncomputable def upd(H:Hp)(a:QC)(o:HO):Hp:=λb=>if b=a then Qq o else H b
theorem dm:upd H a o a=Qq o:=by unfold upd;rw[if_pos rfl]
theorem bS(h:b≠a):upd H a o b=H b:=by unfold upd;rw[if_neg h]
theorem N4:upd (upd H a o) a u=upd H a u:=by
 funext b;unfold upd;split<;>rfl
theorem qG{H:Hp}(h:H a=Qq o)(c:H b=Qq u)(d:o≠u):a≠b:=by
 intro e;simp_all
theorem eK{H:Hp}(h:H a=Qq o)(c:H b=Qs):a≠b:=by
 intro e;simp_all
section
variable (P:QW) (w:Rm)
noncomputable def cg(H:Hp)(h:RS)(a:QC):HO->Prop
 | .lst d=>d.length<=QG/\∃(b:List Qz) (n:Nat),aG d b/\h.get? a=Qq {cls:=.type "list",data:=.seq b.toArray n}
 | .tup d=>d.length<=QG/\∃b:List Qz,aG d b/\WD h a b.toArray
 | .dK c=>c.length<=QG/\(a==RM)=Qv/\∃r,KV c r/\h.DictOf (aN P w) a r
 | .dT c=>c.length<=QG/\(a==RM)=Qv/\∃d:List (List aR×QC×Qz),
  Vq (λ(p:List aR×V) (q:List aR×QC×Qz)=>p.1=q.1/\H q.2.1=Qq (.tup (p.1.map kV))/\aM p.2 q.2.2) c d /\
  ∃o k s,h.get? a=Qq o/\o.ExactDict/\o.data=.dict k s/\k.toList=d.map (entryOfKey (Vs (aN P w)))/\(d.map (·.1)).Nodup
 | .set S n=>h.SetOf (intKind P w) a S n
 | .ins C i g=>H i=Qq (.own a)/\g.length<=1000/\i≠a/\h.get? a=Qq (RZ C i) /\
  ∃e,h.Ns1 i e/\(∀f,dN (g.lookup f) (e f))/\WJ e (g.map (·.1))
 | .own _=>∃o,h.get? a=Qq o
 | .xd g=>∃e,h.Ns1 a e/\∀f,dN (g.lookup f) (e f)
 | .rng lo y=>∃t u v,h.get? a=Qq {cls:=.type "range",data:=.fields #[.int lo t,.int y u,.int 1 v]}
 | .frz o u=>h.get? a=Qq o/\cg H h a u
 | .tbl z=>h.get? a=Qq {cls:=.none,data:=.fields z}
 | .met f x=>h.get? a=Qq (PySem.W.methodObj (.ref f) (.ref x))
 | .ext j=>j h/\(∃o,h.get? a=Qq o)/\∀l m:RS,j l->(∀o,l.get? a=Qq o->m.get? a=Qq o)->j m
noncomputable def fC(H:Hp)(h:RS):Prop:=∀a o,H a=Qq o->cg P w H h a o
end
section
theorem cg.lt(x:cg P w H h a o):a<h.objs.size:=by
 cases o with
 |lst d=>obtain⟨_,_,_,_,e⟩:=x;exact Z6 e
 |tup d=>obtain⟨_,_,_,p⟩:=x;exact p.lt
 |dK b=>obtain⟨_,_,_,_,o,_,_,e,_⟩:=x;exact Z6 e
 |dT b=>obtain⟨_,_,_,_,o,_,_,e,_⟩:=x;exact Z6 e
 |set S n=>obtain⟨o,_,_,_,e,_⟩:=x;exact Z6 e
 |ins C g c=>obtain⟨_,_,_,e,_⟩:=x;exact Z6 e
 |own y=>obtain⟨_,e⟩:=x;exact Z6 e
 |xd c=>obtain⟨_,⟨_,_,_,e,_⟩,_⟩:=x;exact Z6 e
 |rng lo i=>obtain⟨_,_,_,e⟩:=x;exact Z6 e
 |frz j u=>obtain⟨e,_⟩:=x;exact Z6 e
 |tbl k=>exact Z6 (x)
 |met f y=>exact Z6 (x)
 |ext l=>obtain⟨_,⟨_,e⟩,_⟩:=x;exact Z6 e
theorem Vq.mapP:∀ {c:List e}{d:List g},Vq F c d->(∀a b,F a b->G a b)->Vq G c d
 |_,_,.nil,_=>.nil
 |_,_,.cons r t,f=>.cons (f _ _ r) (Vq.mapP t f)
theorem cg.stay(x:cg P w H h a o)(k:∀b u,(b=a\/H b=Qq (.own a))->h.get? b=Qq u->h'.get? b=Qq u)
 (G:∀b,H b=Qq (.own a)->D b=Qq (.own a)) (I:∀b m,H b=Qq (.tup m)->D b=Qq (.tup m)):cg P w D h' a o:=by
 induction o with
 |lst m=>obtain⟨z,l,n,r,e⟩:=x;exact⟨z,l,n,r,k _ _ (.inl rfl) e⟩
 |tup m=>obtain⟨z,l,r,g,e,c⟩:=x;exact⟨z,l,r,g,k _ _ (.inl rfl) e,c⟩
 |dK s=>obtain⟨z,y,M,r,g,j,i,e,c⟩:=x;exact⟨z,y,M,r,g,j,i,k _ _ (.inl rfl) e,c⟩
 |dT s =>
  obtain⟨z,y,m,r,g,j,i,e,c⟩:=x;exact⟨z,y,m,Vq.mapP r λp q z=>⟨z.1,I _ _ z.2.1,z.2.2⟩,g,j,i,k _ _ (.inl rfl) e,c⟩
 |set S n=>obtain⟨g,j,i,t,e,c⟩:=x;exact⟨g,j,i,t,k _ _ (.inl rfl) e,c⟩
 |ins C N F =>
  obtain⟨d,z,L,e,A,⟨B,j,i,E,c⟩,r⟩:=x;exact⟨G _ d,z,L,k _ _ (.inl rfl) e,A,⟨B,j,i,k _ _ (.inr d) E,c⟩,r⟩
 |own y=>obtain⟨g,e⟩:=x;exact⟨g,k _ _ (.inl rfl) e⟩
 |xd F=>obtain⟨A,⟨B,j,i,e,c⟩,r⟩:=x;exact⟨A,⟨B,j,i,k _ _ (.inl rfl) e,c⟩,r⟩
 |rng lo O=>obtain⟨t,u,v,e⟩:=x;exact⟨t,u,v,k _ _ (.inl rfl) e⟩
 |frz g u J=>obtain⟨e,q⟩:=x;exact⟨k _ _ (.inl rfl) e,J q⟩
 |tbl Q =>
  have e:=x;exact k a _ (.inl rfl) e
 |met f y =>
  have e:=x;exact k a _ (.inl rfl) e
 |ext R=>obtain⟨p,⟨o,e⟩,st⟩:=x;exact⟨st _ _ p λo q=>k _ _ (.inl rfl) q,⟨o,k _ _ (.inl rfl) e⟩,st⟩
theorem fC.lt(x:fC P w H h)(e:H a=Qq o):a<h.objs.size:=(x a o e).lt
theorem fC.fresh(x:fC P w H h)(e:h.objs.size<=a):H a=Qs:=by
 cases q:H a with
 |none=>rfl
 |some u=>exact absurd (Zd (x.lt q) e) (Zv _)
theorem fC.kept(x:fC P w H h)(k:∀b u,h.get? b=Qq u->h'.get? b=Qq u):fC P w H h':=λa o e =>
 (x a o e).stay (λb u ω q=>k b u q) (λ_ q=>q) λ_ ω q=>q
theorem fC.laid(x:fC P w H h)(k:∀b u,h.get? b=Qq u->h'.get? b=Qq u)(i:h.objs.size<=a)(d:cg P w (upd H a o) h' a o):fC P w (upd H a o) h':=λb u e=>by
 have g:=x.fresh i;by_cases f:b=a
 ·subst f;rw[dm]at e;cases e;exact d
 ·rw[bS f]at e;exact(x b u e).stay (λc v ω q=>k c v q) (λc q=>by rw[bS (eK q g)];exact q) λc j q=>by rw[bS (eK q g)];exact q
end
noncomputable def Rd(H:Hp)(a:QC)(u:HO):Prop:=H a=Qq u\/∃o,H a=Qq (.frz o u)
theorem Rd.ok(r:Rd H a u)(x:fC P w H h):cg P w H h a u:=by
 rcases r with r|⟨o,r⟩
 ·exact x a u r
 ·obtain⟨_,q⟩:=x a _ r;exact q
noncomputable def rZ:Option HO->Prop
 |some (.lst _)=>True
 |some (.dK _)=>True
 |some (.dT _)=>True
 |some (.set _ _)=>True
 |some (.ins _ _ _)=>True
 |some (.ext _)=>True
 |_=>False
section
theorem fC.write(A:fC P w H h)(g:rZ (H x))(B:e=x\/H e=Qq (.own x))(k:∀b u,b≠e->h.get? b=Qq u->j.get? b=Qq u)(l:∃u,j.get? e=Qq u)
 (m:cg P w (upd H x p) j x p):fC P w (upd H x p) j:=λb u q=>by
 have d:∀c y,H c=Qq (.own y)->c≠x:=λc y r z=>by subst z;rw[r]at g;exact g
 have f:∀c i,H c=Qq (.tup i)->c≠x:=λc i r z=>by subst z;rw[r]at g;exact g
 by_cases n:b=x
 ·subst n;rw[dm]at q;cases q;exact m
 ·rw[bS n]at q;by_cases a:b=e
  ·have s:H b=Qq (.own x):=by
    grind
   rw[q]at s;cases s;obtain⟨v,t⟩:=l;exact⟨v,by rw[a];exact t⟩
  ·refine(A b u q).stay (λc v o r=>k c v ?_ r) (λc r=>by rw[bS (d c b r)];exact r) λc i r=>by rw[bS (f c i r)];exact r
   rcases o with rfl|o
   ·exact a
   ·rintro rfl
    simp_all
end
structure Un(fs ex:List QC)(H H':Hp)(h h':RS):Prop where
 keep:∀b o,h.get? b=Qq o->H b=Qs->b∉fs->b∉ex->h'.get? b=Qq o
 slot:∀b o,h.get? b=Qq o->H b=Qs->b∈fs->b∉ex->∃sl,h'.get? b=Qq {o with slots:=sl}
 free:∀b o,h.get? b=Qq o->H b=Qs->b∉ex->H' b=Qs
 there:∀b o,h.get? b=Qq o->b∉ex->∃o',h'.get? b=Qq o'
 tups:∀b xs,H b=Qq (.tup xs)->H' b=Qq (.tup xs)
 frzs:∀b o u,H b=Qq (.frz o u)->H' b=Qq (.frz o u)
 tbls:∀b ps,H b=Qq (.tbl ps)->∃more,H' b=Qq (.tbl (ps++more))
section
theorem Un.any(u:Un f e H j h g)(q:h.get? b=Qq a)(n:H b=Qs)(d:b∉e):∃i,g.get? b=Qq {a with slots:=i}:=by
 by_cases c:b∈f
 ·exact u.slot b a q n c d
 ·exact⟨a.slots,u.keep b a q n c d⟩
theorem Un.trans(a:Un fs ex H H1 h h1)(b:Un fs ex H1 H2 h1 h2):Un fs ex H H2 h h2 where
 keep:=λc ob q n hc hx=>b.keep c ob (a.keep c ob q n hc hx) (a.free c ob q n hx) hc hx
 slot:=λc ob q n hc hx=>by
  obtain⟨sl,e1⟩:=a.slot c ob q n hc hx;obtain⟨sl',e2⟩:=b.slot c _ e1 (a.free c ob q n hx) hc hx;exact⟨sl',e2⟩
 free:=λc ob q n hx=>by
  obtain⟨o',e1⟩:=a.there c ob q hx;exact b.free c o' e1 (a.free c ob q n hx) hx
 there:=λc ob q hx=>by
  obtain⟨o',e1⟩:=a.there c ob q hx;exact b.there c o' e1 hx
 tups:=λc xs q=>b.tups c xs (a.tups c xs q)
 frzs:=λc ob xs q=>b.frzs c ob xs (a.frzs c ob xs q)
 tbls:=λc ps q=>by
  obtain⟨m1,e1⟩:=a.tbls c ps q;obtain⟨m2,e2⟩:=b.tbls c _ e1;exact⟨m1++m2,by rw[e2,Xv]⟩
theorem Un.kept(k:∀b u,h.get? b=Qq u->h'.get? b=Qq u):Un d c H H h h' :=
 ⟨λb a q ω ω ω=>k b a q,λb a q ω ω ω=>⟨a.slots,k b a q⟩,λ_ ω ω n ω=>n,λb a q ω=>⟨a,k b a q⟩,λ_ ω q=>q,λ_ ω ω q=>q,λ_ e q=>⟨#[],by rw[q];simp⟩⟩
theorem Un.refl:Un b a H H h h:=Un.kept λ_ ω q=>q
theorem Un.laid(k:∀b u,h.get? b=Qq u->h'.get? b=Qq u)(d:h.objs.size<=a)(c:H a=Qs):Un g f H (upd H a o) h h' where
 keep:=λb u q ω ω ω=>k b u q
 slot:=λb u q ω ω ω=>⟨u.slots,k b u q⟩
 free:=λb u q n ω=>by rw[bS (Zc (Zd (Z6 q) d))];exact n
 there:=λb u q ω=>⟨u,k b u q⟩
 tups:=λb e q=>by rw[bS (eK q c)];exact q
 frzs:=λb u e q=>by rw[bS (eK q c)];exact q
 tbls:=λb i q=>⟨#[],by rw[bS (eK q c),q];simp⟩
theorem Un.write(i:rZ (H x))(r:e=x\/H e=Qq (.own x))(k:∀b u,b≠e->h.get? b=Qq u->f.get? b=Qq u)(c:∃u,f.get? e=Qq u):Un p m H (upd H x o) h f:=by
 have j:∀b,H b=Qs->b≠x:=λb n z=>by subst z;rw[n]at i;exact i
 have g:∀b,H b=Qs->b≠e:=λb n z=>by
  simp_all
 have d:∀b u,H b=Qq u->¬rZ (Qq u)->b≠x:=λb u q s z=>by simp_all
 refine ⟨λb u q n ω ω=>k b u (g b n) q,λb u q n ω ω=>⟨u.slots,k b u (g b n) q⟩,λb u q n ω=>by rw [bS (j b n)];exact n,λb u q ω=>?_,
  λb l q=>by rw[bS (d b _ q λz=>z)];exact q,λb u l q=>by rw[bS (d b _ q λz=>z)];exact q,λb t q=>⟨#[],by rw[bS (d b _ q λz=>z),q];simp⟩⟩
 by_cases a:b=e
 ·subst a;exact c
 ·exact⟨u,k b u a q⟩
end
noncomputable def wo(h:RS)(H:Hp):List QC:=(Q7 h.objs.size).filter λa=>(H a).isSome
noncomputable def iT(h:RS)(H:Hp):RS:=PySem.W.hideAll h (wo h H)
theorem Pn(h:RS)(H:Hp):(iT h H).objs.size=h.objs.size:=PySem.W.hideAll_size _ _
theorem HL(e:h.get? b=Qq o)(n:H b=Qs):(iT h H).get? b=Qq o :=
 PySem.W.hideAll_get _ e λa=>by
  have q:=(Sn.mp a).2;rw[n]at q;simp at q
theorem Hc(e:(iT h H).get? b=Qq o):h.get? b=Qq o/\H b=Qs:=by
 have a:=PySem.W.of_hideAll (wo h H) e;refine⟨a,?_⟩;cases q:H b with
 |none=>rfl
 |some x =>
  have c:b∈wo h H:=Sn.mpr ⟨R9.mpr (Z6 a),by simp[q]⟩;have z:(iT h H).get? b=Qs:=PySem.W.hideAll_none (wo h H) c;rw[z]at e;cases e
structure Mod(K:aV)(mg:QD->Option Qz)(base:RS):Prop where
 kin:K.In base
 glob:base.Ns Rg mg
 blt:∃mb,base.Ns VQ mb/\∀x:QD,x≠"__name__"->mb x=RN x
 nolimit:base.NoLimit
structure Cx where
 prog:QW
 w:Rm
 K:aV
 mg:QD->Option Qz
 base:RS
 A:RT
 N:List QD
 s₀ : QF
 H₀ : Hp
 env:X9
 outer:List X9
 stack:List X9
 ex:List QC
 fn:QD->Bool
 calm:Bool
 pn:List (QC×Ts)
 xe:Qz->QF->Prop
noncomputable def j0(l:List X9):List QC:=l.filterMap (·.frame)
noncomputable abbrev Cx.fs(X:Cx):List QC:=j0 X.outer
noncomputable def vp(a:TH)(x:QD):Prop:=a.names.lookup x=Qq .local\/a.names.lookup x=Qq .cell\/a.names.lookup x=Qq .free
noncomputable def qb(a:TH)(x:QD):Prop:=a.names.lookup x=Qq .local\/a.names.lookup x=Qq .cell
noncomputable def zo(a:X9)(h:RS)(m:QD->Option Qz)(x:QD)(u:Qz):Prop :=
 (a.kindOf x=Qq .local/\m x=Qq u)\/((a.kindOf x=Qq .cell\/a.kindOf x=Qq .free)/\∃c,a.cells.lookup x=Qq c/\h.IsCell c (Qq u))
structure Cx.Ok(X:Cx):Prop where
 mod:Mod X.K X.mg X.base
 kind:X.env.scope.kind=.function
 glob:X.env.globals=Rg
 blt:X.env.builtins=VQ
 above:X.s₀.heap.objs.size<=X.env.locals
 inj:∀x y c,X.env.cells.lookup x=Qq c->X.env.cells.lookup y=Qq c->x=y
 has:∀x,(X.env.kindOf x=Qq .cell\/X.env.kindOf x=Qq .free)->∃c,X.env.cells.lookup x=Qq c
 cab:∀x c,X.fn x=Qr->X.env.cells.lookup x=Qq c->X.s₀.heap.objs.size<=c
 hd:X.calm=Qr->X.A.handled=Qs
 frames:X.A.frames=Qq X.stack
 stk:X.stack=X.outer\/(X.stack=X.env::X.outer/\X.env.frame=Qq X.env.locals)
 exf:∀b∈X.ex,b≠X.env.locals/\∀x c,X.env.cells.lookup x=Qq c->c≠b
 bs:∀b o,X.base.get? b=Qq o->X.s₀.heap.get? b=Qq o/\X.H₀ b=Qs
 bsz:X.base.objs.size<=X.s₀.heap.objs.size
 noex:∀b o,X.base.get? b=Qq o->b∉X.ex
 exfs:∀b∈X.ex,b∉X.fs
 funs:X.s₀.heap.FunFrames X.base X.outer
 frf:∀b∈X.fs,X.H₀ b=Qs
structure aD(X:Cx)(pins:List (QC×Ts))(σ:List (Option V))(H:Hp)(s:QF):Prop where
 ok:X.Ok
 os:s.os=X.s₀.os
 bare:U7 s.gens
 base:Un X.fs X.ex X.H₀ H X.s₀.heap s.heap
 loc:∃m,s.heap.Ns X.env.locals m/\∀(i:Nat) (x:QD) (v:V),X.N[i]?=Qq x->σ[i]?=Qq (Qq v)->vp X.env.scope x->∃u,aM v u/\zo X.env s.heap m x u
 cell:∀x c,X.env.cells.lookup x=Qq c->∃v,s.heap.IsCell c v
 free:H X.env.locals=Qs
 freeC:∀x c,X.env.cells.lookup x=Qq c->H c=Qs
 pin:∀p∈X.pn++pins,s.heap.get? p.1=Qq p.2/\H p.1=Qs/\p.1≠X.env.locals/\p.1∉X.fs/\∀v,p.2.data≠.cell v
 hok:fC X.prog X.w H s.heap
 len:σ.length=X.N.length
section
variable {X:Cx}
theorem Cx.Ok.nofr(c:X.Ok)(e:X.base.get? b=Qq o):b∉X.fs:=λa=>by
 have:=(c.funs.mem a).1;rw[e]at this;cases this
theorem aD.bs(I:aD X a c H s):∀b o,X.base.get? b=Qq o->s.heap.get? b=Qq o/\H b=Qs:=λb o e =>
 ⟨I.base.keep b o (I.ok.bs b o e).1 (I.ok.bs b o e).2 (I.ok.nofr e) (I.ok.noex b o e),I.base.free b o (I.ok.bs b o e).1 (I.ok.bs b o e).2 (I.ok.noex b o e)⟩
theorem aD.bk(I:aD X a c H s):∀b o,X.base.get? b=Qq o->s.heap.get? b=Qq o:=λb o e=>(I.bs b o e).1
theorem aD.mod(I:aD X a b H s):Mod X.K X.mg X.base:=I.ok.mod
theorem aD.kIn(I:aD X a b H s):X.K.In s.heap:=I.ok.mod.kin.keeps I.bk
theorem aD.nolimit(I:aD X a b H s):s.heap.NoLimit:=I.ok.mod.nolimit.keeps I.bk
theorem aD.lt(I:aD X a c H s):X.env.locals<s.heap.objs.size:=let⟨_,b,_⟩:=I.loc;b.lt
theorem aD.sz(I:aD X a b H s):X.s₀.heap.objs.size<=s.heap.objs.size:=Z9 I.ok.above (Ys I.lt)
theorem aD.nofs(I:aD X b e H s)(h:s.heap.objs.size<=a):a∉X.fs:=λc=>by
 obtain⟨_,o,d,_⟩:=I.ok.funs.mem c;exact absurd (Zd (Z6 d) (Z9 I.sz h)) (Zv _)
theorem aD.cne(I:aD X a k H s):∀x c,X.env.cells.lookup x=Qq c->c≠X.env.locals:=λx c e z=>by
 obtain⟨v,o,i,h⟩:=I.cell x c e;obtain⟨m,⟨j,g,f,d,b,_⟩,_⟩:=I.loc
 simp_all
theorem aD.funs(I:aD X h v H s):s.heap.FunFrames X.base X.outer:=by
 have a:∀  l ,(∀b∈j0 l,b∈X.fs)->X.s₀.heap.FunFrames X.base l->s.heap.FunFrames X.base l:=by
  intro l
  induction l with
  |nil=>intro _ _;trivial
  |cons i r t =>
   intro g m;obtain⟨k,⟨L,o,f,n,p,j⟩,q⟩:=m;have c:=g L (by unfold j0;simp_all);obtain⟨u,e⟩:=I.base.slot L o p (I.ok.frf L c) c λz=>I.ok.exfs L z c;exact⟨k,⟨L,_,f,n,e,j⟩,t (λb d=>g b (by unfold j0;rw[Y3,f];exact Z4 _ d)) q⟩
 exact a X.outer (λ_ d=>d) I.ok.funs
theorem aD.stack(I:aD X a d H s):s.heap.FunFrames X.base X.stack:=by
 rcases I.ok.stk with e|⟨e,b⟩
 ·rw[e];exact I.funs
 ·rw[e];obtain⟨m,c,_⟩:=I.loc;refine .cons (by rw[I.ok.kind];decide) b c ?_ I.funs;exact Yc (Z9 I.ok.bsz I.ok.above)
theorem aD.stkSub(I:aD X c f H s):∀b∈j0 X.stack,b∈X.env.locals::X.fs:=λb a=>by
 rcases I.ok.stk with e|⟨e,d⟩
 ·simp_all
 ·rw[e]at a;unfold j0 at a;rw[Y3,d]at a;exact a
theorem aD.stkFree(I:aD X c f H s):∀b∈j0 X.stack,H b=Qs:=λb a=>by
 rcases QL.mp (I.stkSub b a)with e|a
 ·rw[e];exact I.free
 ·obtain⟨_,o,d,_⟩:=I.ok.funs.mem a;exact I.base.free b o d (I.ok.frf b a) λz=>I.ok.exfs b z a
theorem aD.step{ch:List QC}(I:aD X A σ H s)
 (h:∀b∈ch,(b∈X.ex\/X.s₀.heap.get? b=Qs)/\b≠X.env.locals/\(∀x c,X.env.cells.lookup x=Qq c->c≠b)/\∀p∈X.pn++A,p.1≠b)
 (j:∀b o,b≠X.env.locals->b∉X.fs->b∉ch->s.heap.get? b=Qq o->H b=Qs->h'.get? b=Qq o)
 (B:∀b o,b≠X.env.locals->b∈X.fs->b∉ch->s.heap.get? b=Qq o->H b=Qs->∃U,h'.get? b=Qq {o with slots:=U}) (f:∀b o,b∉ch->s.heap.get? b=Qq o->H b=Qs->G b=Qs)
 (E:∀b o,b∉ch->s.heap.get? b=Qq o->∃O,h'.get? b=Qq O)
 (Q:∀b C,H b=Qq (.tup C)->G b=Qq (.tup C)) (L:∀b o u,H b=Qq (.frz o u)->G b=Qq (.frz o u)) (P:∀b R,H b=Qq (.tbl R)->∃M,G b=Qq (.tbl (R++M)))
 (ns:∀m,s.heap.Ns X.env.locals m->h'.Ns X.env.locals m) (T:fC X.prog X.w G h') (hg:U7 g') :
 aD X A σ G {s with heap:=h',gens:=g',drawn:=d',toks:=t'}:=by
 have N:∀b o,X.s₀.heap.get? b=Qq o->b≠X.env.locals:=λb o e=>Zc (Zd (Z6 e) I.ok.above);have y:∀b o,X.s₀.heap.get? b=Qq o->b∉X.ex->b∉ch:=λb o e a D=>by
  rcases(h b D).1 with z|z
  all_goals simp_all
 have g:∀x c,X.env.cells.lookup x=Qq c->∀v,s.heap.IsCell c v->h'.IsCell c v:=λx c e v ⟨o,F,S⟩=>by
  have t:=λz=>(h c z).2.2.1 x c e rfl;by_cases Y:c∈X.fs
  ·obtain⟨U,q⟩:=B c o (I.cne x c e) Y t F (I.freeC x c e);exact⟨_,q,S⟩
  ·exact⟨o,j c o (I.cne x c e) Y t F (I.freeC x c e),S⟩
 refine⟨I.ok,I.os,hg,⟨λb o e n D a=>?_,λb o e n D a=>?_,λb o e n a=>?_,λb o e a=>?_,λb C e=>Q b C (I.base.tups b C e),λb o C e=>L b o C (I.base.frzs b o C e),λb R e=>?_⟩,?_,λx c e=>?_,?_,λx c e=>?_,λp Z=>?_,T,I.len⟩
 ·exact j b o (N b o e) D (y b o e a) (I.base.keep b o e n D a) (I.base.free b o e n a)
 ·obtain⟨U,w⟩:=I.base.slot b o e n D a;obtain⟨W,J⟩:=B b _ (N b o e) D (y b o e a) w (I.base.free b o e n a);exact⟨W,J⟩
 ·obtain⟨O,w⟩:=I.base.there b o e a;exact f b O (y b o e a) w (I.base.free b o e n a)
 ·obtain⟨O,w⟩:=I.base.there b o e a;exact E b O (y b o e a) w
 ·obtain⟨m1,w⟩:=I.base.tbls b R e;obtain⟨m2,J⟩:=P b _ w;exact⟨m1++m2,by rw[J,Xv]⟩
 ·obtain⟨m,hn,hl⟩:=I.loc;refine⟨m,ns m hn,λi x v w J e3=>?_⟩;obtain⟨u,r,l⟩:=hl i x v w J e3;refine⟨u,r,?_⟩;rcases l with l|⟨k,c,e,z⟩
  ·exact .inl l
  ·exact .inr ⟨k,c,e,g x c e _ z⟩
 ·obtain⟨v,z⟩:=I.cell x c e;exact⟨v,g x c e v z⟩
 ·obtain⟨m,⟨o,_,_,F,_⟩,_⟩:=I.loc;exact f _ o (λz=>(h _ z).2.1 rfl) F I.free
 ·obtain⟨v,o,F,S⟩:=I.cell x c e;exact f c o (λz=>(h c z).2.2.1 x c e rfl) F (I.freeC x c e)
 ·obtain⟨e,n,ne,nf,d⟩:=I.pin p Z;have t:=λz=>(h p.1 z).2.2.2 p Z rfl;exact⟨j p.1 p.2 ne nf t e n,f p.1 p.2 t e n,ne,nf,d⟩
theorem aD.un(I:aD X c q H s)(u:Un X.fs [] H i s.heap h')(h:fC X.prog X.w i h'):aD X c q i {s with heap:=h',toks:=t'}:=by
 obtain⟨m,⟨o,v,t,j,r⟩,_⟩:=id I.loc;obtain⟨y,k⟩:=u.any j I.free (by simp)
 exact I.step (ch:=[]) (λ_ z=>nomatch z) (λb o ω g ω e n=>u.keep b o e n g (by simp)) (λb o ω g ω e n=>u.slot b o e n g (by simp)) (λb o ω e n=>u.free b o e n (by simp)) (λb o ω e=>u.there b o e (by simp)) u.tups u.frzs u.tbls (λw l=>by
  obtain⟨x,f,d,a,p⟩:=l;rw[j]at a;cases a
  exact⟨_,f,d,k,p⟩) h I.bare
theorem aD.call(I:aD X a A H s)(u:Un (j0 X.stack) ch H q s.heap h')(l:fC X.prog X.w q h')(v:U7 g')
 (f:∀b∈ch,(b∈X.ex\/X.s₀.heap.objs.size<=b)/\b≠X.env.locals/\(∀x c,X.env.cells.lookup x=Qq c->c≠b)/\∀p∈X.pn++a,p.1≠b) :
 aD X a A q {s with heap:=h',gens:=g',drawn:=d',toks:=t'}:=by
 obtain⟨m,⟨o,C,B,t,r⟩,_⟩:=id I.loc;obtain⟨F,k⟩:=u.any t I.free λz=>(f _ z).2.1 rfl
 exact I.step (λb h=>⟨(f b h).1.imp_right λz=>Yc z,(f b h).2⟩) (λb o k h d e n=>u.keep b o e n (λz=>(QL.mp (I.stkSub b z)).elim k h) d) (λb o ω ω d e n=>u.any e n d) (λb o d e n=>u.free b o e n d) (λb o d e=>u.there b o e d) u.tups u.frzs u.tbls (λD w=>by
  obtain⟨E,j,i,g,y⟩:=w;rw[t]at g;cases g
  exact⟨_,j,i,k,y⟩) l v
theorem aD.turned(I:aD X a C H s)(k:∀b o,b≠it->s.heap.get? b=Qq o->j.get? b=Qq o)(D:H it=Qs)(g:it≠X.env.locals)
 (l:it∈X.ex\/X.s₀.heap.objs.size<=it) (t:∀x c,X.env.cells.lookup x=Qq c->c≠it) (w:∀p∈X.pn++a,p.1≠it):aD X a C H {s with heap:=j,toks:=t'}:=by
 have f:∀b u,H b=Qq u->b≠it:=λb u e z=>by simp_all
 refine I.step (ch:=[it]) (λb y=>?_) (λb o ω ω d e ω=>k b o (λz=>d (by simp[z])) e) (λb o ω ω d e ω=>⟨o.slots,k b o (λz=>d (by simp[z])) e⟩) (λ_ ω ω ω n=>n)
  (λb o d e=>⟨o,k b o (λz=>d (by simp[z])) e⟩) (λ_ ω e=>e) (λ_ ω ω e=>e) (λb E e=>⟨#[],by rw[e];simp⟩) (λm A=>?_) (λb u e=>?_) I.bare
 ·have e:b=it:=by simpa using y
  subst e;exact⟨l.imp_right λz=>Yc z,g,t,w⟩
 ·obtain⟨o,i,h,B,r⟩:=A;exact⟨o,i,h,k _ o (Rf g) B,r⟩
 ·refine(I.hok b u e).stay (λc v d q=>k c v ?_ q) (λ_ q=>q) λ_ ω q=>q;rcases d with z|z
  ·rw[z];exact f b u e
  ·exact f c _ z
theorem aD.tok(I:aD X a b H s)(t:Nat):aD X a b H {s with toks:=t}:=I.un Un.refl I.hok
theorem aD.kept(I:aD X a c H s)(k:∀b u,s.heap.get? b=Qq u->h'.get? b=Qq u):aD X a c H {s with heap:=h',toks:=t'}:=I.un (Un.kept k) (I.hok.kept k)
theorem aD.laid(I:aD X c f H s)(k:∀b u,s.heap.get? b=Qq u->h'.get? b=Qq u)(d:s.heap.objs.size<=a)(e:cg X.prog X.w (upd H a o) h' a o):
 aD X c f (upd H a o) {s with heap:=h',toks:=t'}:=I.un (Un.laid k d (I.hok.fresh d)) (I.hok.laid k d e)
theorem aD.write(I:aD X c i H s)(h:rZ (H x))(g:e=x\/H e=Qq (.own x))(k:∀b u,b≠e->s.heap.get? b=Qq u->d.get? b=Qq u)(a:∃u,d.get? e=Qq u)
 (f:cg X.prog X.w (upd H x o) d x o):aD X c i (upd H x o) {s with heap:=d,toks:=t'}:=I.un (Un.write h g k a) (I.hok.write h g k a f)
theorem aD.pins_of(I:aD X b d H s)(h:∀p∈a,s.heap.get? p.1=Qq p.2/\H p.1=Qs/\p.1≠X.env.locals/\p.1∉X.fs/\∀v,p.2.data≠.cell v):aD X a d H s :=
 ⟨I.ok,I.os,I.bare,I.base,I.loc,I.cell,I.free,I.freeC,λp c=>(QO.mp c).elim (λz=>I.pin p (Zj _ z)) (h p),I.hok,I.len⟩
theorem FZ{N:List QD}(e:N.Nodup){i j:Nat}(a:N[i]?=Qq x)(b:N[j]?=Qq x):i=j:=by
 obtain⟨f,c⟩:=Qw.mp a;obtain⟨g,d⟩:=Qw.mp b;exact(VM e).mp (c.trans d.symm)
theorem Fi(I:aD X T σ H s)(hN:X.N.Nodup)(S:X.N[i]?=Qq x)(t:qb X.env.scope x)(r:aM v u)
 (h:∀s',aD X T (σ.set i (Qq v)) H s'->(∃a,Sk a s.heap s'.heap/\(a=X.env.locals\/X.env.cells.lookup x=Qq a))->Q () s') (hf:autoParam (X.fn x=Qr\/X.env.scope.names.lookup x=Qq .local) A15._auto_1):QI M A (storeName X.env x u) Q E s:=by
 obtain⟨m,hn,hl⟩:=id I.loc;have R:(X.env.scope.kind==.class||(X.env.scope.kind==.module&&X.env.locals != X.env.globals))=Qv:=by rw[I.ok.kind];rfl
 have C:i<σ.length:=by rw[I.len];exact(Qw.mp S).1
 have D:=I.cne;have l:∀ {a:QC}{L:RS},(∃o,s.heap.get? a=Qq o/\H a=Qs)->Sk a s.heap L->fC X.prog X.w H L:=fun {a L} ha f b ob e=>by
  obtain⟨_,_,Z⟩:=ha;refine(I.hok b ob e).stay (λc w' w q=>(f.2 c ?_).trans q) (λ_ q=>q) λ_ ω q=>q;rintro rfl
  simp_all
 rcases t with N|N
 ·refine wpAny_storeName_local N hn (λL aa f=>?_) R;obtain⟨oL,_,_,ab,_⟩:=id hn;refine h _ ⟨I.ok,I.os,I.bare,⟨λb o e n F t=>?_,λb o e n F t=>?_,I.base.free,λb o e t=>?_,I.base.tups,I.base.frzs,I.base.tbls⟩,⟨_,aa,λj y v' g B Y=>?_⟩,λy c e=>?_,I.free,I.freeC,λp hp=>?_,l ⟨oL,ab,I.free⟩ f,by simpa using I.len⟩ ⟨_,f,.inl rfl⟩
  ·exact(f.2 b (Zc (Zd (Z6 e) I.ok.above))).trans (I.base.keep b o e n F t)
  ·obtain⟨sl,g⟩:=I.base.slot b o e n F t;exact⟨sl,(f.2 b (Zc (Zd (Z6 e) I.ok.above))).trans g⟩
  ·obtain⟨o',g⟩:=I.base.there b o e t;exact⟨o',(f.2 b (Zc (Zd (Z6 e) I.ok.above))).trans g⟩
  ·by_cases J:j=i
   ·subst J;rw[S]at g;cases g;rw[Q3 C]at B;cases B;exact⟨u,r,.inl ⟨N,by simp⟩⟩
   ·rw[Zy (Rf J)]at B;obtain⟨u',r',q⟩:=hl j y v' g B Y;refine⟨u',r',?_⟩;rcases q with⟨k,e⟩|⟨k,c,e,z⟩
    ·refine .inl ⟨k,?_⟩;have:y≠x:=λe=>J (FZ hN g (e▸S));simp[this,e]
    ·exact .inr ⟨k,c,e,z.sameBut f (D y c e)⟩
  ·obtain⟨w',z⟩:=I.cell y c e;exact⟨w',z.sameBut f (D y c e)⟩
  ·obtain⟨e,n,W,nf,d⟩:=I.pin p hp;exact⟨(f.2 p.1 W).trans e,n,W,nf,d⟩
 ·have G:X.fn x=Qr:=by
   simp_all
  obtain⟨c,w⟩:=I.ok.has x (.inl N);obtain⟨w',z⟩:=I.cell x c w;refine wpAny_storeName_cell I.ok.kind N w z (λL O f=>?_);obtain⟨oc,ac,ae⟩:=id z;refine h {s with heap:=L} ⟨I.ok,I.os,I.bare,⟨λb o e n F t=>?_,λb o e n F t=>?_,I.base.free,λb o e t=>?_,I.base.tups,I.base.frzs,I.base.tbls⟩,⟨m,hn.sameBut f (Rf (D x c w)),λj y v' g B Y=>?_⟩,λy U e=>?_,I.free,I.freeC,λp hp=>?_,l ⟨oc,ac,I.freeC x c w⟩ f,by simpa using I.len⟩ ⟨c,f,.inr w⟩
  ·exact(f.2 b (Zc (Zd (Z6 e) (I.ok.cab x c G w)))).trans (I.base.keep b o e n F t)
  ·obtain⟨sl,g⟩:=I.base.slot b o e n F t;exact⟨sl,(f.2 b (Zc (Zd (Z6 e) (I.ok.cab x c G w)))).trans g⟩
  ·obtain⟨o',g⟩:=I.base.there b o e t;exact⟨o',(f.2 b (Zc (Zd (Z6 e) (I.ok.cab x c G w)))).trans g⟩
  ·by_cases J:j=i
   ·subst J;rw[S]at g;cases g;rw[Q3 C]at B;cases B;exact⟨u,r,.inr ⟨.inl N,c,w,O⟩⟩
   ·rw[Zy (Rf J)]at B;obtain⟨u',r',q⟩:=hl j y v' g B Y;refine⟨u',r',?_⟩;rcases q with q|⟨k,U,e,z'⟩
    ·exact .inl q
    ·refine .inr ⟨k,U,e,z'.sameBut f ?_⟩;rintro rfl;exact J (FZ hN g (I.ok.inj _ _ _ e w▸S))
  ·by_cases P:U=c
   ·subst P;exact⟨_,O⟩
   ·obtain⟨w2,z2⟩:=I.cell y U e;exact⟨w2,z2.sameBut f P⟩
  ·obtain⟨e,n,W,nf,d⟩:=I.pin p hp;refine⟨(f.2 p.1 ?_).trans e,n,W,nf,d⟩;intro q
   simp_all
theorem Gy(I:aD X a j H s)(d:X.N.Nodup)(f:X.N[i]?=Qq x)(g:qb X.env.scope x)(r:aM v u)
 (h:∀b,aD X a (j.set i (Qq v)) H b->Q () b) (e:autoParam (X.fn x=Qr\/X.env.scope.names.lookup x=Qq .local) A15._auto_1):QI M A (storeName X.env x u) Q E s :=
 Fi I d f g r (λb c ω=>h b c) e
theorem aD.call'(I:aD X a l H s)(k:d.os=s.os)(u:Un (j0 X.stack) ch H h s.heap d.heap)(g:fC X.prog X.w h d.heap)(j:U7 d.gens)
 (f:∀b∈ch,(b∈X.ex\/X.s₀.heap.objs.size<=b)/\b≠X.env.locals/\(∀x c,X.env.cells.lookup x=Qq c->c≠b)/\∀p∈X.pn++a,p.1≠b):aD X a l h d:=by
 obtain⟨n,m,i,q,o⟩:=d;have e:=k;subst e;exact I.call (d':=i) u g j f
end
noncomputable abbrev XK:=Qz->Option QC->Hp->Prop
noncomputable abbrev St:=List (Option V)
noncomputable abbrev VK:=V->Hp->Prop
noncomputable abbrev TE:=St->Hp->VK->Prop
noncomputable abbrev TT:=St->Hp->(Bool->Hp->Prop)->Prop
noncomputable abbrev TA:=St->Hp->(List V->Hp->Prop)->Prop
structure gM where
 nx:St->Hp->Prop
 rt:VK
 bk:St->Hp->Prop:=λ_ ω=>False
 ct:St->Hp->Prop:=λ_ ω=>False
noncomputable abbrev TS:=gM->St->Hp->Prop
noncomputable def EP(X:Cx)(a:List (QC×Ts))(d:St)(Q:VK)(u:Qz)(c:QF):Prop:=∃v b,aD X a d b c/\aM v u/\Q v b
noncomputable def TP(X:Cx)(a:List (QC×Ts))(e:St)(Q:Bool->Hp->Prop)(b:Bool)(d:QF):Prop:=∃c,aD X a e c d/\Q b c
noncomputable def AP(X:Cx)(a:List (QC×Ts))(f:St)(Q:List V->Hp->Prop)(e:List Qz)(d:QF):Prop:=∃c b,aD X a f b d/\aG c e/\Q c b
noncomputable def SP(X:Cx)(b:List (QC×Ts))(D:gM)(f:Flow)(d:QF):Prop :=
 match f with
 | .next=>∃a c,aD X b a c d/\D.nx a c
 | .brk=>∃a c,aD X b a c d/\D.bk a c
 | .cont=>∃a c,aD X b a c d/\D.ct a c
 | .ret u=>∃v a c,aD X b a c d/\aM v u/\D.rt v c
noncomputable def PE(X:Cx)(e:Rx)(t:TE):Prop :=
 ∀(a:List (QC×Ts)) (s:QF) (b:St) (H:Hp) (Q:VK),aD X a b H s->t b H Q->QI (QJ X.prog X.w) X.A (eval e X.env) (EP X a b Q) X.xe s
noncomputable def PT(X:Cx)(e:Rx)(t:TT):Prop :=
 ∀(a:List (QC×Ts)) (s:QF) (b:St) (H:Hp) (Q:Bool->Hp->Prop),aD X a b H s->t b H Q->QI (QJ X.prog X.w) X.A (isTrue e X.env (eval e X.env)) (TP X a b Q) X.xe s
noncomputable def PW(X:Cx)(e:Rx)(t:TT):Prop :=
 ∀(b:ZT Qz) (a:List (QC×Ts)) (s:QF) (c:St) (H:Hp) (Q:Bool->Hp->Prop),aD X a c H s->t c H Q->QI (QJ X.prog X.w) X.A (isTrue e X.env b) (TP X a c Q) X.xe s
theorem PW.pt(h:PW X e t):PT X e t:=h _
noncomputable def PA(X:Cx)(d:List Rx)(t:TA):Prop :=
 ∀(b:VY) (a:List (QC×Ts)) (s:QF) (c:St) (H:Hp) (Q:List V->Hp->Prop),aD X a c H s->t c H Q->QI (QJ X.prog X.w) X.A (spliced (Rc b (Qy d X.env))) (AP X a c Q) X.xe s
noncomputable def PS(X:Cx)(st:RX)(t:TS):Prop :=
 ∀(a:List (QC×Ts)) (s:QF) (b:St) (H:Hp) (D:gM),aD X a b H s->t D b H->QI (QJ X.prog X.w) X.A (exec st X.env) (SP X a D) X.xe s
noncomputable def PSs(X:Cx)(st:List RX)(t:TS):Prop :=
 ∀(a:List (QC×Ts)) (s:QF) (b:St) (H:Hp) (D:gM),aD X a b H s->t D b H->QI (QJ X.prog X.w) X.A (execs st X.env) (SP X a D) X.xe s
theorem bt{Q b:d->QF->Prop}(h:QI M A t Q E s)(c:∀a s,Q a s->b a s):QI M A t b E s:=RL h c λ_ ω x=>x
section
theorem bin(n:PE X a A)(o:PE X b B){R:V->V->Hp->Prop}(I:aD X c i H s)(h:A i H λx k=>B i k λy d=>R x y d)
 {f:Qz->Qz->ZT C}
 (p:∀v u j x y d,aD X c i d j->aM x v->aM y u->R x y d->QI (QJ X.prog X.w) X.A (f v u) Q X.xe j) :
 QI (QJ X.prog X.w) X.A (eval a X.env) (λv e=>QI (QJ X.prog X.w) X.A (eval b X.env) (λu g=>QI (QJ X.prog X.w) X.A (f v u) Q X.xe g) X.xe e) X.xe s:=by
 refine bt (n c s i H _ I h) λv z ⟨x,k,l,t,q⟩=>?_;refine bt (o c z i k _ l q) λu j ⟨y,d,m,w,r⟩=>?_;exact p v u j x y d m t w r
noncomputable def gD(i:Nat):TE:=λa H Q=>∃v,a[i]?=Qq (Qq v)/\Q v H
noncomputable def tC(v:V):TE:=λ_ H Q=>Q v H
theorem zY2(n:X.N[i]?=Qq x)(t:vp X.env.scope x)(j:autoParam ((x==("__debug__"))=Qv) A11._auto_1)(g:autoParam ((x==("__classdict__"))=Qv) A11._auto_1):PE X (.Name x pos) (gD i):=by
 intro f s w H Q I h;obtain⟨v,e,h⟩:=h;obtain⟨m,q,o⟩:=I.loc;obtain⟨u,r,l⟩:=o i x v n e t;have b:EP X f w Q u s:=⟨v,H,I,r,h⟩;rcases l with⟨d,p⟩|⟨d,c,k,a⟩
 ·exact WV (Yx I.ok.kind d q p b) j
 ·rcases d with d|d
  ·exact WV (wpAny_loadName_cell I.ok.kind d k a b) j
  ·exact WV (wpAny_loadName_free I.ok.kind d k a b g) j
theorem zF8:PE X (.Constant (.int i) j a) (tC (.int i)):=λ_ ω ω H ω I h=>wpAny_Constant_int ⟨.int i,H,I.tok _,⟨_,rfl⟩,h⟩
theorem pe_bl:PE X (.Constant (.bool b) j a) (tC (.bl b)):=λ_ ω ω H ω I h=>Constant_bool ⟨.bl b,H,I,rfl,h⟩
theorem zY4:PE X (.Constant .none j a) (tC .non):=λ_ ω ω H ω I h=>Constant_none ⟨.non,H,I,rfl,h⟩
theorem zY3:PE X (.Constant (.str x) j a) (tC (.str x)):=λ_ ω ω H ω I h=>Calls.Constant_str ⟨.str x,H,I.tok _,⟨_,rfl⟩,h⟩
noncomputable def Gl(X:Cx)(x:QD):Prop:=X.env.kindOf x=Qq .globalImplicit
theorem BA(I:aD X a f H s)(c:Gl X x)(d:X.mg x=Qq u)(h:Q u s)
 (b:autoParam ((x==("__debug__"))=Qv) A11._auto_1):QI (QJ X.prog X.w) X.A (eval (.Name x e) X.env) Q E s :=
 Wc I.ok.kind c (Calls.loadGlobal_global (by rw[I.ok.glob];exact I.mod.glob.keeps I.bk) d h) b
theorem pI(I:aD X a l H s)(e:Gl X x)(f:X.mg x=Qs)(i:RN x=Qq u)(h:Q u s)
 (g:autoParam (x≠"__name__") A11._auto_1) (d:autoParam ((x==("__debug__"))=Qv) A11._auto_1):QI (QJ X.prog X.w) X.A (eval (.Name x j) X.env) Q E s:=by
 obtain⟨k,b,c⟩:=I.mod.blt;exact Wc I.ok.kind e (Calls.loadGlobal_builtin (by rw[I.ok.glob];exact I.mod.glob.keeps I.bk) f (by rw[I.ok.blt];exact b.keeps I.bk) ((c x g).trans i) h) d
theorem zMs(b:Gl X x)(c:X.mg x=Qq u)(r:aM v u)(a:autoParam ((x==("__debug__"))=Qv) A11._auto_1):PE X (.Name x d) (tC v) :=
 λ_ ω ω H ω I h=>BA I b c ⟨v,H,I,r,h⟩ a
theorem yA5(b:Gl X x)(c:X.mg x=Qs)(e:RN x=Qq u)(r:aM v u)(d:autoParam (x≠"__name__") A11._auto_1)(a:autoParam ((x==("__debug__"))=Qv) A11._auto_1):PE X (.Name x f) (tC v) :=
 λ_ ω ω H ω I h=>pI I b c e ⟨v,H,I,r,h⟩ d a
variable {rest:List Rx}
noncomputable def A6(t u:TT):TT:=λb H Q=>t b H λc a=>if c=Qr then u b a Q else Q Qv a
noncomputable def LZ(t u:TT):TT:=λb H Q=>t b H λc a=>if c=Qr then Q Qr a else u b a Q
noncomputable def AW(t:TT):TT:=λb H Q=>t b H λc a=>Q (!c) a
theorem zZj(d:PT X a g):PW X (.BoolOp .And [a] f) g:=by
 intro k b s i H Q I h;refine isTrue_and (bt (d b s i H Q I h) λc j e=>?_);cases c with
 |true=>exact isTrue_and_nil e
 |false=>exact e
theorem yDa(d:PT X a g):PW X (.BoolOp .Or [a] f) g:=by
 intro k b s i H Q I h;refine isTrue_or (bt (d b s i H Q I h) λc j e=>?_);cases c with
 |false=>exact isTrue_or_nil e
 |true=>exact e
theorem yDb(l:PT X a o)(m:PW X (.BoolOp .And (b::rest) e) f):PW X (.BoolOp .And (a::b::rest) e) (A6 o f):=by
 intro p d s k H Q I h;refine isTrue_and (bt (l d s k H _ I h) λc n ⟨g,i,j⟩=>?_);cases c with
 |true=>exact m p d n k g Q i j
 |false=>exact⟨g,i,j⟩
theorem pw_or(l:PT X a o)(m:PW X (.BoolOp .Or (b::rest) e) f):PW X (.BoolOp .Or (a::b::rest) e) (LZ o f):=by
 intro p d s k H Q I h;refine isTrue_or (bt (l d s k H _ I h) λc n ⟨g,i,j⟩=>?_);cases c with
 |true=>exact⟨g,i,j⟩
 |false=>exact m p d n k g Q i j
theorem yDf(e:PT X a g):PT X (.UnaryOp .Not a f) (AW g):=by
 intro b s i H Q I h;exact isTrue_not (e b s i H (λc d=>Q (!c) d) I h)
noncomputable def rl(d e:TE):TE:=λb H Q=>d b H λx a=>∃c,x=.bl c/\if c=Qr then e b a Q else Q (.bl Qv) a
noncomputable def sr(b:TE):TE:=λd H Q=>b d H λx a=>∃c,x=.bl c/\Q (.bl (!c)) a
theorem yDs(h:PE X a t):PE X (.BoolOp f [a] d) t:=λb s e H Q I c=>BoolOp_one (h b s e H Q I c)
theorem yDw(k:PE X a o)(l:PE X (.BoolOp .And (b::rest) f) p):PE X (.BoolOp .And (a::b::rest) f) (rl o p):=by
 intro d s j H Q I h;refine BoolOp_and (bt (k d s j H _ I h) λv n ⟨x,g,i,m,e⟩=>?_);obtain⟨c,rfl,e⟩:=e;cases m;refine RD ?_;cases c with
 |true=>exact l d n j g Q i e
 |false=>exact⟨.bl Qv,g,i,rfl,e⟩
theorem yDu(g:PE X a k):PE X (.UnaryOp .Not a i) (sr k):=by
 intro b s l H Q I h;refine UnaryOp_ (bt (g b s l H _ I h) λv m ⟨x,e,f,j,d⟩=>?_);obtain⟨c,rfl,d⟩:=d;cases j;exact not_of (RD ⟨.bl (!c),e,f,rfl,d⟩)
noncomputable def OB(t:TT)(d e:TE):TE:=λa H Q=>t a H λc b=>if c=Qr then d a b Q else e a b Q
theorem zVi(n:PT X c p)(l:PE X a q)(m:PE X b r):PE X (.IfExp c a b o) (OB p q r):=by
 intro e s f H Q I h;refine wpAny_IfExp (bt (n e s f H _ I h) λd k ⟨g,i,j⟩=>?_);cases d with
 |true=>exact l e k f g Q i j
 |false=>exact m e k f g Q i j
end
noncomputable def cF(K:aV)(H:Hp)(a:QC)(c:List V):Prop :=
 Rd H a (.lst c) \/
  ∃(o:Ts) (b:Array Qz) (n:Nat),K.lookup a=Qq o/\o.cls=.type "list"/\o.dict=Qs/\o.data=.seq b n/\b.size<=QG/\aG c b.toList
noncomputable def gC(K:aV)(H:Hp)(a:QC)(c:List V):Prop :=
 Rd H a (.tup c) \/
  ∃(o:Ts) (b:Array Qz) (n:Nat),K.lookup a=Qq o/\o.cls=.type "tuple"/\o.data=.seq b n/\b.size<=QG/\aG c b.toList
noncomputable def xV:Qz->Option V
 | .none=>Qq .non
 | .bool b=>Qq (.bl b)
 | .int i _=>Qq (.int i)
 | .str x _=>Qq (.str x)
 | .bytes b _=>Qq (.byt b)
 | .float b _=>Qq (.flt b)
 | .ref a=>Qq (.ref a)
 | .type n=>Qq (.ty n)
 |_=>Qs
theorem aM.abs(r:aM x u):xV u=Qq x:=by
 cases x with
 |non=>cases r;rfl
 |bl _=>cases r;rfl
 |int _=>obtain⟨t,rfl⟩:=r;rfl
 |str _=>obtain⟨t,rfl⟩:=r;rfl
 |byt _=>obtain⟨t,rfl⟩:=r;rfl
 |flt _=>obtain⟨t,rfl⟩:=r;rfl
 |ref _=>cases r;rfl
 |ty _=>cases r;rfl
theorem aM.inj(r:aM x u)(q:aM y u):x=y:=Zr (r.abs.symm.trans q.abs)
theorem aG.inj:∀ {a b:List V}{us:List Qz},aG a us->aG b us->a=b
 |_,_,_,.nil,.nil=>rfl
 |_,_,_,.cons r t,.cons c d=>by rw[r.inj c,aG.inj t d]
section
theorem cF.of{K:aV}(h:H a=Qq (.lst xs)):cF K H a xs:=.inl (.inl h)
theorem gC.of{K:aV}(h:H a=Qq (.tup xs)):gC K H a xs:=.inl (.inl h)
theorem aD.list(I:aD X c l H s)(h:cF X.K H a d):∃b:List Qz,aG d b/\PlainL s.heap a b.toArray/\d.length<=QG:=by
 rcases h with h|⟨o,b,n,i,f,g,j,k,r⟩
 ·obtain⟨z,b,n,r,e⟩:=h.ok I.hok;exact⟨b,r,⟨_,n,e,rfl,rfl,rfl⟩,z⟩
 ·refine⟨b.toList,r,⟨o,n,I.kIn a o i,f,g,by simpa using j⟩,?_⟩;have e:=r.length
  simp_all
theorem aD.tuple(I:aD X c j H s)(h:gC X.K H a xs):∃b:List Qz,aG xs b/\WD s.heap a b.toArray/\xs.length<=QG:=by
 rcases h with h|⟨o,b,n,f,d,g,i,r⟩
 ·obtain⟨z,b,r,p⟩:=h.ok I.hok;exact⟨b,r,p,z⟩
 ·refine⟨b.toList,r,⟨o,I.kIn a o f,d,n,by simpa using g⟩,?_⟩;have e:=r.length
  simp_all
theorem aD.list_inj(I:aD X i u H s)(h:cF X.K H a l)(j:cF X.K H a m):l=m:=by
 obtain⟨c,r,⟨o,n,e,_,_,d⟩,_⟩:=I.list h;obtain⟨b,k,⟨t,q,g,_,_,f⟩,_⟩:=I.list j;rw[e]at g;cases g;rw[d]at f;injection f with p _;have:c=b:=by simp_all
 subst this;exact r.inj k
theorem aD.tuple_inj(I:aD X i u H s)(h:gC X.K H a l)(j:gC X.K H a m):l=m:=by
 obtain⟨c,r,⟨o,e,_,n,d⟩,_⟩:=I.tuple h;obtain⟨b,k,⟨t,g,_,q,f⟩,_⟩:=I.tuple j;rw[e]at g;cases g;rw[d]at f;injection f with p _;have:c=b:=by simp_all
 subst this;exact r.inj k
end
noncomputable abbrev Cx.wish(X:Cx)(E:Qz->QF->Prop):Cx:={X with xe:=E}
noncomputable abbrev Cx.nox(X:Cx):Cx:=X.wish λ_ ω=>False
theorem Cx.Ok.wish{X:Cx}(ok:X.Ok)(E:Qz->QF->Prop):(X.wish E).Ok :=
 ⟨ok.mod,ok.kind,ok.glob,ok.blt,ok.above,ok.inj,ok.has,ok.cab,ok.hd,ok.frames,ok.stk,ok.exf,ok.bs,ok.bsz,ok.noex,ok.exfs,ok.funs,ok.frf⟩
theorem Cx.Ok.unwish{X:Cx}{E:Qz->QF->Prop}(ok:(X.wish E).Ok):X.Ok :=
 ⟨ok.mod,ok.kind,ok.glob,ok.blt,ok.above,ok.inj,ok.has,ok.cab,ok.hd,ok.frames,ok.stk,ok.exf,ok.bs,ok.bsz,ok.noex,ok.exfs,ok.funs,ok.frf⟩
section
theorem aD.wish(I:aD X pins σ H s)(E:Qz->QF->Prop):aD (X.wish E) pins σ H s:=⟨I.ok.wish E,I.os,I.bare,I.base,I.loc,I.cell,I.free,I.freeC,I.pin,I.hok,I.len⟩
theorem aD.unwish(I:aD (X.wish E) pins σ H s):aD X pins σ H s:=⟨I.ok.unwish,I.os,I.bare,I.base,I.loc,I.cell,I.free,I.freeC,I.pin,I.hok,I.len⟩
theorem SP.unwish{D:gM}{f:Flow}{s':QF}(h:SP (X.wish E) pins D f s'):SP X pins D f s':=by
 cases f with
 |next=>obtain⟨σ',H',I,q⟩:=h;exact⟨σ',H',I.unwish,q⟩
 |brk=>obtain⟨σ',H',I,q⟩:=h;exact⟨σ',H',I.unwish,q⟩
 |cont=>obtain⟨σ',H',I,q⟩:=h;exact⟨σ',H',I.unwish,q⟩
 |ret u=>obtain⟨v,σ',H',I,r,q⟩:=h;exact⟨v,σ',H',I.unwish,r,q⟩
theorem PE.nox{e:Rx}{t:TE}(h:PE X.nox e t):PE X e t:=λpins s σ H Q I hw =>
 RL (h pins s σ H Q (I.wish _) hw) (λ_ _ ⟨v,H',I',r,q⟩=>⟨v,H',I'.unwish,r,q⟩) λ_ ω z=>RF z
theorem PT.nox{e:Rx}{t:TT}(h:PT X.nox e t):PT X e t:=λpins s σ H Q I hw =>
 RL (h pins s σ H Q (I.wish _) hw) (λ_ _ ⟨H',I',q⟩=>⟨H',I'.unwish,q⟩) λ_ ω z=>RF z
theorem PSs.nox{st:List RX}{t:TS}(h:PSs X.nox st t):PSs X st t:=λpins s σ H D I hw =>
 RL (h pins s σ H D (I.wish _) hw) (λ_ ω q=>q.unwish) λ_ ω z=>RF z
end
section
variable {st:RX}{rest:List RX}
noncomputable def ue:TS:=λD a H=>D.nx a H
noncomputable def oQ(t u:TS):TS:=λD a H=>t {D with nx:=u D} a H
theorem zZm:PSs X [] ue:=λ_ ω a H ω I h=>U8 ⟨a,H,I,h⟩
theorem zJd(e:PS X st t)(g:PSs X rest u):PSs X (st::rest) (oQ t u):=by
 intro a s j H D I h;refine Za0 (bt (e a s j H {D with nx:=u D} I h) λf i q=>?_);cases f with
 |next =>
  obtain⟨b,c,d,q⟩:=q;exact g a i b c D d q
 |ret v=>exact q
 |brk=>exact q
 |cont=>exact q
theorem zMp(b:PS X st t):PSs X [st] t:=by
 intro a s c H D I h;refine Za0 (bt (b a s c H D I h) λf d q=>?_);cases f with
 |next=>exact U8 q
 |ret v=>exact q
 |brk=>exact q
 |cont=>exact q
theorem aD.quiet(I:aD X a b H s):interactive X.env=Qv:=by simp[interactive,I.ok.kind]
noncomputable def rT(c:TE):TS:=λD a H=>c a H λ_ b=>D.nx a b
theorem zZo(g:PE X e k)(i:autoParam (Sl e Qs b.line X.env=pure Qv) A10._auto_1):PS X (.Expr e b) (rT k):=by
 intro a s c H D I h;exact wpAny_Expr_any (bt (g a s c H _ I h) λv m ⟨x,d,f,l,j⟩=>⟨c,d,f,j⟩) I.quiet i
noncomputable def uQ(a:TE):TS:=λD b H=>a b H D.rt
theorem zXw(f:PE X e k):PS X (.Return (Qq e) g) (uQ k):=by
 intro a s b H D I h;exact wpAny_Return_some (bt (f a s b H _ I h) λv l ⟨x,c,d,j,i⟩=>⟨x,b,c,d,j,i⟩)
noncomputable def xP(c:TT)(t u:TS):TS:=λD a H=>c a H λb d=>if b=Qr then t D a d else u D a d
theorem ps_if(n:PT X c p)(l:PSs X a t)(m:PSs X b u):PS X (.If c a b o) (xP p t u):=by
 intro e s f H D I h;refine wpAny_If (bt (n e s f H _ I h) λd k ⟨g,i,j⟩=>?_);cases d with
 |true=>exact l e k f g D i j
 |false=>exact m e k f g D i j
end
noncomputable abbrev TG:=V->St->Hp->(St->Hp->Prop)->Prop
noncomputable abbrev rF:=List V->St->Hp->(St->Hp->Prop)->Prop
noncomputable def PG(X:Cx)(a:Rx)(t:TG):Prop :=
 ∀(b:List (QC×Ts)) (s:QF) (e:St) (H:Hp) (v:V) (u:Qz) (Q:St->Hp->Prop),aD X b e H s->aM v u->t v e H Q ->
  QI (QJ X.prog X.w) X.A (VR a X.env u) (λ_ f=>∃c d,aD X b c d f/\Q c d) X.xe s
noncomputable def PGs(X:Cx)(h:List Rx)(t:rF):Prop :=
 ∀(a:List (QC×Ts)) (s:QF) (f:St) (H:Hp) (e:List V) (d:List Qz) (Q:St->Hp->Prop),aD X a f H s->aG e d->t e f H Q ->
  QI (QJ X.prog X.w) X.A (assignInOrder ((Se h X.env).map (·.2)) d) (λ_ g=>∃b c,aD X a b c g/\Q b c) X.xe s
noncomputable abbrev sU:=V->V->V->Hp->(Hp->Prop)->Prop
noncomputable def t6(X:Cx)(t:sU):Prop :=
 ∀(a:List (QC×Ts)) (s:QF) (e:St) (H:Hp) (o i v:V) (d c u:Qz) (Q:Hp->Prop),aD X a e H s->aM o d->aM i c->aM v u->t o i v H Q ->
  QI (QJ X.prog X.w) X.A (ZM d c u) (λ_ f=>∃b,aD X a e b f/\Q b) X.xe s
section
noncomputable def fq(i:Nat):TG:=λv a H Q=>Q (a.set i (Qq v)) H
theorem zHa(c:X.N.Nodup)(e:X.N[i]?=Qq x)(f:qb X.env.scope x)(d:autoParam (X.fn x=Qr\/X.env.scope.names.lookup x=Qq .local) A15._auto_1):PG X (.Name x g) (fq i):=by
 intro a s k H v u Q I r h;exact ZK (Gy I c e f r (λj b=>⟨_,H,b,h⟩) d)
noncomputable def uY:rF:=λa b H Q=>a=[]/\Q b H
noncomputable def ku(t:TG)(u:rF):rF:=λc d H Q=>∃v r,c=v::r/\t v d H λa b=>u r a b Q
theorem zRs:PGs X [] uY:=by
 intro a s b H d c Q I r h;obtain⟨e,h⟩:=h;subst e;cases r;exact assignInOrder_nil ⟨b,H,I,h⟩
theorem zGx(i:PG X e t)(j:PGs X b u)
 (k:autoParam ((Se (e::b) X.env).map (·.2)=VR e X.env::(Se b X.env).map (·.2)) A10._auto_1):PGs X (e::b) (ku t u):=by
 intro a s o H w p Q I r h;obtain⟨v,q,g,h⟩:=h;subst g;cases r with
 |cons r m =>
  rw[k];refine assignInOrder_cons (bt (i a s o H _ _ _ I r h) λ_ n ⟨c,d,f,l⟩=>?_);exact j a n c d _ _ Q f m l
noncomputable def tA(K:aV)(n:Nat)(t:rF):TG:=λv c H Q=>∃a b,v=.ref a/\gC K H a b/\b.length=n/\t b c H Q
theorem zY0(m:X.calm=Qr)(h:PGs X d t)
 (q:autoParam ((Se d X.env).length=n) A10._auto_1) (f:autoParam ((Se d X.env).findIdx? (·.1)=Qs) A10._auto_1):PG X (.Tuple d k A) (tA X.K n t):=by
 intro c s C H v u Q I r g;obtain⟨a,B,l,w,p,g⟩:=g;subst l;cases r;obtain⟨z,i,x,E⟩:=I.tuple w;refine assign_Tuple_tuple (I.ok.hd m) x (by simp[q,<- p,i.length]) f λD y=>?_;have j:=I.kept (t':=s.toks) λb o e=>y b o (Zc (Z6 e)) e;exact h c _ C H B _ Q j (by simpa using i) g
noncomputable def Ao(f e:TE)(t:sU):TG:=λv a H Q=>f a H λo b=>e a b λi c=>t o i v c λd=>Q a d
theorem yDn(q:PE X o J)(p:PE X i G)(w:t6 X t)
 (n:autoParam (∀ v,VR (.Subscript o i d) X.env v=(do
  let b<-holding [v] (eval o X.env)
  let c<-holding [v,b] (eval i X.env)
  UB d
  holding [v,b,c] (ZM b c v)
  release [v,b,c] [])) A13._auto_1):PG X (.Subscript o i d) (Ao J G t):=by
 intro a s e H v u Q I r h;rw[n];refine Qt (Q8 (bt (q a s e H _ I h) λb E ⟨x,f,k,C,z⟩=>?_));refine Qt (Q8 (bt (p a E e f _ k z) λc F ⟨y,g,l,D,A⟩=>?_));refine Qt (VI (Qt (Q8 (bt (w a F e g x y v b c u _ l C D r A) λ_ L ⟨j,m,B⟩=>?_))));exact wpAny_release ⟨e,j,m,B⟩
noncomputable def nH(c:TE)(g:TG):TS:=λD a H=>c a H λx b=>g x a b D.nx
theorem zXy(k:PE X e t)(l:PG X b g)(m:autoParam (Xm [b] e c.line X.env=pure Qv) A10._auto_1)(n:autoParam (Xn [b] e X.env=pure Qs) A10._auto_1)
 (j:autoParam ((Se [b] X.env).map (·.2)=[VR b X.env]) A10._auto_1):PS X (.Assign [b] e c) (nH t g):=by
 intro a s d H D I h;refine wpAny_Assign_stores (bt (k a s d H _ I h) λv r ⟨x,f,i,p,o⟩=>?_) m n;rw[j];exact bt (l a r d f x v _ i p o) λ_ u q=>q
theorem zXv(j:X.N.Nodup)(m:X.N[i]?=Qq x)(o:qb X.env.scope x)(k:PE X e r)(n:autoParam (Sl e (Qq (.Name x b)) c.line X.env=pure Qv) A10._auto_1)(l:autoParam (X.fn x=Qr\/X.env.scope.names.lookup x=Qq .local) A15._auto_1):
 PS X (.Assign [.Name x b] e c) (nH r (fq i)):=by
 intro a s t H D I h;refine wpAny_Assign_Name (bt (k a s t H _ I h) λv u ⟨y,d,f,q,p⟩=>?_) n;exact Gy f j m o q (λw g=>⟨_,d,g,p⟩) l
end
section
noncomputable def pq(c:TT)(h:TS):TS:=λD a H=>∃W:Nat->St->Hp->Prop,(∃m,W m a H)/\∀m a H,W m a H ->
 c a H λb f=>if b=Qr then ∃N:St->Hp->Prop,(∀d e,N d e->∃g,g<m/\W g d e)/\h {D with nx:=N,ct:=N,bk:=D.nx} a f else D.nx a f
theorem zVa(A:XB (QJ X.prog X.w) X.A X.env X.xe)(E:PT X c P)(C:PSs X i O):PS X (.While c i [] G) (pq P O):=by
 intro a s S H D I h;obtain⟨W,⟨F,Q⟩,j⟩:=h;refine wpAny_While (codeAny_whileLoop (λn J=>∃k u,aD X a k u J/\W n k u) ?_ F ⟨S,H,I,Q⟩);rintro n L ⟨e,w,B,R⟩;refine Sx A (bt (E a L e w _ B (j n e w R)) λb M ⟨x,y,l⟩=>?_);cases b with
 |true =>
  obtain⟨N,z,l⟩:=l;rw[if_pos rfl];refine Sx A (bt (C a M e x _ y l) λf T m=>?_);cases f with
  |next =>
   obtain⟨d,g,o,r⟩:=m;obtain⟨q,p,t⟩:=z d g r;exact⟨q,p,d,g,o,t⟩
  |cont =>
   obtain⟨d,g,o,r⟩:=m;obtain⟨q,p,t⟩:=z d g r;exact⟨q,p,d,g,o,t⟩
  |brk=>exact m
  |ret v=>exact m
 |false =>
  rw[if_neg Zb];exact U8 ⟨e,x,y,l⟩
end
structure It where
 go:Nat->Hp->Prop
 yld:Nat->Hp->V->Hp->Prop
 stop:Nat->Hp->Prop
noncomputable def gO(X:Cx)(a:List (QC×Ts))(H:Hp)(b:QC):Prop :=
 H b=Qs/\b≠X.env.locals/\b∉X.fs/\(b∈X.ex\/X.s₀.heap.objs.size<=b)/\(∀x c,X.env.cells.lookup x=Qq c->c≠b)/\∀p∈X.pn++a,p.1≠b
theorem aD.fpOk(I:aD X d i H s)(a:s.heap.objs.size<=b)(g:f b=Qs):gO X d f b:=by
 refine⟨g,Y5 (Zd I.lt a),I.nofs a,.inr (Z9 I.sz a),λx c e z=>?_,λp h z=>?_⟩
 ·obtain⟨v,q⟩:=I.cell x c e;exact absurd (Zd q.lt (by rw[z];exact a)) (Zv _)
 ·exact absurd (Zd (Z6 (I.pin p h).1) (by rw[z];exact a)) (Zv _)
structure oq(Φ : Cx->Prop)(P:QW)(w:Rm)(K:aV)(tg:Rx)(J:It)(fp:List QC)(it:QC)(tn:Nat->RS->Prop):Prop where
 mem:it∈fp
 obj:∀i h,tn i h->∀b∈fp,∃o,h.get? b=Qq o/\∀v,o.data≠.cell v
 keep:∀i h h',tn i h->(∀b∈fp,∀o,h.get? b=Qq o->h'.get? b=Qq o)->tn i h'
 item:∀(X:Cx),X.prog=P->X.w=w->X.K=K->Φ X->∀(i:Nat) (pins:List (QC×Ts)) (s:QF) (σ:St) (H:Hp) (E:Qz->QF->Prop),aD X pins σ H s->(∀b∈fp,gO X pins H b)->tn i s.heap->J.go i H ->
  QI (QJ P w) X.A (WY (.ref it)) (λr s1=>∃ u,r=Qq u /\
   QI (QJ P w) X.A (WI tg (.ref it) u) (λ_ s2=>∃x H',aD X pins σ H' s2/\aM x u/\J.yld i H x H'/\tn (i+1) s2.heap/\∀b∈fp,H' b=Qs) E s1) E s
 done:∀(X:Cx),X.prog=P->X.w=w->X.K=K->Φ X->∀(i:Nat) (pins:List (QC×Ts)) (s:QF) (σ:St) (H:Hp) (E:Qz->QF->Prop),aD X pins σ H s->(∀b∈fp,gO X pins H b)->tn i s.heap->J.stop i H ->
  QI (QJ P w) X.A (WY (.ref it)) (λr s1=>r=Qs/\aD X pins σ H s1) E s
 self:∀(A:RT) (i:Nat) (s:QF) (Q:Qz->QF->Prop) (E:Qz->QF->Prop),tn i s.heap->Q (.ref it) s->QI (QJ P w) A (UF (.ref it)) Q E s
noncomputable abbrev ia:=oq λX=>X.calm=Qr
noncomputable abbrev TI:=St->Hp->(It->Hp->Prop)->Prop
noncomputable def sQ(X:Cx)(a:List (QC×Ts))(j:St)(i:Rx)(R:It->Hp->Prop)(d:Qz)(g:QF):Prop :=
 ∃(f:QC) (e:List QC) (h:Nat->RS->Prop) (J:It) (c:Hp),d=.ref f/\aD X a j c g/\ia X.prog X.w X.K i J e f h/\h 0 g.heap/\(∀b∈e,gO X a c b)/\R J c
noncomputable def PI(X:Cx)(e b:Rx)(f:TI):Prop :=
 ∀(a:List (QC×Ts)) (s:QF) (c:St) (H:Hp) (R:It->Hp->Prop),aD X a c H s->f c H R ->
  QI (QJ X.prog X.w) X.A (eval b X.env) (λv d=>QI (QJ X.prog X.w) X.A (UF v) (sQ X a c e R) X.xe d) X.xe s
theorem xr(d:s.heap.get? e=Qq o)(b:o.cls=.type n)(c:o.data=.fields g)
 (h:["enumerate", "zip", "dict_itemiterator", "dict_reverseitemiterator", "odict_iterator", "itertools.zip_longest", "itertools.pairwise"].contains n=Qv) (a:Q () s):QI M A (WI f (.ref e) u) Q E s:=by
 cases f<;>first
  |exact QB a
  | (cases u <;> first
     |exact QB a
     | (refine Qt (wpAny_load d ?_)
        rw[b,c];show QI M A (if(["enumerate", "zip", "dict_itemiterator", "dict_reverseitemiterator", "odict_iterator", "itertools.zip_longest", "itertools.pairwise"].contains n&&g[0]?==Qq (rawInt _))=Qr then _ else _) Q E s;rw[if_neg (by grind)]
        exact QB a))
noncomputable def nY(K:aV)(a:QC):It :=
 ⟨λi H=>∃b x,cF K H a b/\b[i]?=Qq x,λi H x c=>c=H/\∀b,cF K H a b->b[i]?=Qq x,λi H=>∃b,cF K H a b/\b.length<=i⟩
noncomputable def Ak(K:aV)(a:QC):It :=
 ⟨λi H=>∃b x,gC K H a b/\b[i]?=Qq x,λi H x c=>c=H/\∀b,gC K H a b->b[i]?=Qq x,λi H=>∃b,gC K H a b/\b.length<=i⟩
noncomputable def BF(lo:Int)(n:Nat):It:=⟨λi ω=>i<n,λi H x a=>a=H/\x=.int (lo+i),λi ω=>n<=i⟩
theorem Ko{P:QW}{w:Rm}{K:aV}{W:Rx}(a g:QC):ia P w K W (nY K a) [g] g (λi h=>h.IsListIter g a i) where
 mem:=by simp
 obj:=λi h st b f=>by
  have e:b=g:=by simpa using f
  subst e;obtain⟨o,e,c,d⟩:=st
  simp_all
 keep:=λi h J st k=>st.at λo e=>k g (by simp) o e
 item:=by
  intro X A C z L i j s Z H E I m st B;subst A C z;obtain⟨Y,x,n,D⟩:=B;obtain⟨F,G,p,S⟩:=I.list n;obtain⟨u,Q,T⟩:=G.get D;obtain⟨q,r,O,t,v,y⟩:=m g (by simp);refine wpAny_pyNext_list_item st p.isList (by simpa using Q) λJ l U=>?_;have M:=I.turned (t':=s.toks) (λb o f e=>(U.2 b f).trans e) q r t v y;obtain⟨o,e,c,d⟩:=id l;exact⟨u,rfl,xr e c d (by decide) ⟨x,H,M,T,⟨rfl,λys R=>by rw[I.list_inj R n];exact D⟩,l,λb f=>(m b f).1⟩⟩
 done:=by
  intro X A C z L i j s Z H E I m st B;subst A C z;obtain⟨Y,n,D⟩:=B;obtain⟨F,G,p,S⟩:=I.list n;obtain⟨q,r,O,t,v,y⟩:=m g (by simp);have hl:=G.length;exact wpAny_pyNext_list_end (I.ok.hd L) st p.isList (by simp;omega) λJ N=>⟨rfl,I.turned (λb o f e=>N b o f e) q r t v y⟩
 self:=λ_ ω ω ω ω st h=>wpAny_pyIter_listiter st h
theorem Nw{P:QW}{w:Rm}{K:aV}{W:Rx}(a g:QC):ia P w K W (Ak K a) [g] g (λi h=>h.IsTupleIter g a i) where
 mem:=by simp
 obj:=λi h st b f=>by
  have e:b=g:=by simpa using f
  subst e;obtain⟨o,e,c,d⟩:=st
  simp_all
 keep:=λi h J st k=>st.at λo e=>k g (by simp) o e
 item:=by
  intro X A C z L i j s Z H E I m st B;subst A C z;obtain⟨Y,x,n,D⟩:=B;obtain⟨F,G,p,S⟩:=I.tuple n;obtain⟨u,Q,T⟩:=G.get D;obtain⟨q,r,O,t,v,y⟩:=m g (by simp);refine wpAny_pyNext_tuple_item st (p) (by simpa using Q) λJ l U=>?_;have M:=I.turned (t':=s.toks) (λb o f e=>(U.2 b f).trans e) q r t v y;obtain⟨o,e,c,d⟩:=id l;exact⟨u,rfl,xr e c d (by decide) ⟨x,H,M,T,⟨rfl,λys R=>by rw[I.tuple_inj R n];exact D⟩,l,λb f=>(m b f).1⟩⟩
 done:=by
  intro X A C z L i j s Z H E I m st B;subst A C z;obtain⟨Y,n,D⟩:=B;obtain⟨F,G,p,S⟩:=I.tuple n;obtain⟨q,r,O,t,v,y⟩:=m g (by simp);have hl:=G.length;exact wpAny_pyNext_tuple_end (I.ok.hd L) st (p) (by simp;omega) λJ N=>⟨rfl,I.turned (λb o f e=>N b o f e) q r t v y⟩
 self:=λ_ ω ω ω ω st h=>wpAny_pyIter_tupleiter st h
theorem MX{P:QW}{w:Rm}{K:aV}{tg:Rx}(c:QC)(lo:Int)(n:Nat):ia P w K tg (BF lo n) [c] c (λi h=>IsRangeIter h c (lo +  i  * 1) ( n  -  i ) 1) where
 mem:=by simp
 obj:=λi h st b d=>by
  simp_all
 keep:=λi h r st k=>k c (by simp) _ st
 item:=by
  intro X z A y u i a s B H E I g st x;subst z A y;obtain⟨j,l,F,m,p,q⟩:=g c (by simp);have W:=Walks.range (prog:=X.prog) (w:=X.w) (I.ok.hd u) c lo 1 n;refine W.item i s _ _ x st λv r L G f J=>?_;obtain⟨t,rfl⟩:=G;have C:aD X a B H {s with heap:=r,toks:=L}:=I.turned (λb o d e=>J b o (by simpa using d) e) j l m p q;refine⟨_,rfl,xr f rfl rfl (by decide) ⟨.int (lo+i),H,C,⟨t,?_⟩,⟨rfl,rfl⟩,f,λb d=>(g b d).1⟩⟩;rw[Int.mul_one]
 done:=by
  intro X z A y u i a s B H E I g st x;obtain⟨j,l,F,m,p,q⟩:=g c (by simp);exact wpAny_pyNext_range_end (I.ok.hd u) st (by have:n<=i:=x;omega) λr D=>⟨rfl,I.turned (λb o d e=>D b o d e) j l m p q⟩
 self:=λ_ ω ω ω ω st h=>wpAny_pyIter_rangeiter st h
section
noncomputable def lz(K:aV)(c:TE):TI:=λe H R=>c e H λx b=>∃a,x=.ref a/\(∃d,cF K b a d)/\R (nY K a) b
noncomputable def AF(K:aV)(c:TE):TI:=λe H R=>c e H λx b=>∃a,x=.ref a/\(∃d,gC K b a d)/\R (Ak K a) b
theorem zMr(j:PE X l t):PI X z l (lz X.K t):=by
 intro c s u H R I h;refine bt (j c s u H _ I h) λv f ⟨x,g,d,r,n⟩=>?_;obtain⟨a,e,⟨A,k⟩,q⟩:=n;subst e;cases r;obtain⟨m,y,p,w⟩:=d.list k;refine R8 p.isList ?_;refine⟨f.heap.objs.size,[f.heap.objs.size],_,_,g,rfl,d.kept λb o e=>Z1 _ e,Ko a _,⟨_,Z5 _ rfl,rfl,rfl⟩,λb i=>?_,q⟩;have e:b=f.heap.objs.size:=by simpa using i
 subst e;exact d.fpOk (Z3 _) (d.hok.fresh (Z3 _))
theorem yDl(j:PE X l t):PI X z l (AF X.K t):=by
 intro c s u H R I h;refine bt (j c s u H _ I h) λv f ⟨x,g,d,r,n⟩=>?_;obtain⟨a,e,⟨A,k⟩,q⟩:=n;subst e;cases r;obtain⟨m,y,p,w⟩:=d.tuple k;refine wpAny_pyIter_tuple (p) ?_;refine⟨f.heap.objs.size,[f.heap.objs.size],_,_,g,rfl,d.kept λb o e=>Z1 _ e,Nw a _,⟨_,Z5 _ rfl,rfl,rfl⟩,λb i=>?_,q⟩;have e:b=f.heap.objs.size:=by simpa using i
 subst e;exact d.fpOk (Z3 _) (d.hok.fresh (Z3 _))
theorem PU{lo a:Int}(I:aD X c f H s)(i:-(2^62)<=lo)(j:lo<2^62)(k:-(2^62)<=a)(l:a<2^62)
 (q:R (BF lo (a-lo).toNat) H):QI (QJ X.prog X.w) X.A (UF (.ref s.heap.objs.size)) (sQ X c f p R) E {s with heap:=s.heap.push {cls:=.type "range",data:=.fields #[.int lo t,.int a u,.int 1 v]},toks:=n}:=by
 refine wpAny_pyIter_range (IsRange.new ..) (small_one i j k l) ?_;have d:aD X c f H {s with heap:=s.heap.push {cls:=.type "range",data:=.fields #[.int lo t,.int a u,.int 1 v]},toks:=n}:=I.kept λb o e=>Z1 _ e
 refine ⟨(s.heap.push { cls:=.type "range",data:=.fields #[.int lo t,.int a u,.int 1 v] }).objs.size,[(s.heap.push { cls:=.type "range",data:=.fields #[.int lo t,.int a u,.int 1 v] }).objs.size],_,_,H,rfl,
  d.kept λb o e=>Z1 _ e,MX _ lo (a-lo).toNat,?_,λb m=>?_,q⟩
 ·have g:lo+((0:Nat))*1=lo:=by simp
  have h:(((a-lo).toNat))-((0:Nat))=Zat lo a 1:=by rw[rangeSize_one];split<;>omega
  rw[g,h];exact Z5 _ rfl
 ·have e:b=(s.heap.push {cls:=.type "range",data:=.fields #[.int lo t,.int a u,.int 1 v]}).objs.size:=by simpa using m
  subst e;exact d.fpOk (Z3 _) (d.hok.fresh (Z3 _))
noncomputable def uF(b:TA):TI:=λd H R=>b d H λc a=>∃j:Int,c=[.int j]/\-(2^62)<=j/\j<2^62/\R (BF 0 j.toNat) a
theorem zRq(i:Gl X "range")(k:X.mg "range" = Qs)(g:PA X [a] u)(l:autoParam (Qy [a] X.env=[(Qv,eval a X.env)]) A10._auto_1):PI X y (.Call (.Name "range" p) [a] [] c) (uF u):=by
 intro b s v H R I h;refine Call_ (pI I i k boot_range (Si (bt (g c b s v H _ I h) λz x ⟨A,w,f,n,d⟩=>?_) l rfl));obtain⟨j,e,d,m,q⟩:=d;subst e;cases n with
 |cons r o =>
  cases o;obtain⟨t,rfl⟩:=r;exact call_range_1 (PU f (by omega) (by omega) d m (by simpa using q))
noncomputable def rD(k:TI)(g:TG)(j:TS):TS:=λD a H=>k a H λJ f=>∃W:Nat->Nat->St->Hp->Prop,(∃m,W 0 m a f)/\∀i m a H,W i m a H ->
 (J.stop i H/\D.nx a H)\/(J.go i H/\∃N:St->Hp->Prop,(∀c b,N c b->∃e,e<m/\W (i+1) e c b)/\∀x b,J.yld i H x b->g x a b λd h=>j {D with nx:=N,ct:=N,bk:=D.nx} d h)
noncomputable def f9(a:List QC)(h:RS):List (QC×Ts):=a.filterMap λb=>(h.get? b).map λo=>(b,o)
theorem xG(c:b∈a)(e:h.get? b=Qq o):(b,o)∈f9 a h:=Vn.mpr ⟨b,c,by rw[e];rfl⟩
theorem Nb(f:p∈f9 c h):p.1∈c/\h.get? p.1=Qq p.2:=by
 obtain⟨b,d,e⟩:=Vn.mp f;cases q:h.get? b with
 |none=>rw[q]at e;cases e
 |some o =>
  rw[q]at e;have a:=Zr e;subst a;exact⟨d,q⟩
theorem aD.pinned(I:aD X a j H s)(g:∀b∈c,gO X a H b)(h:∀b∈c,∃o,s.heap.get? b=Qq o/\∀v,o.data≠.cell v):aD X (a++f9 c s.heap) j H s :=
 I.pins_of λp i=>(QO.mp i).elim (λz=>I.pin p (Zt _ z)) λz=>by
  obtain⟨f,e⟩:=Nb z;obtain⟨l,m,n,_⟩:=g p.1 f;obtain⟨o,k,d⟩:=h p.1 f
  simp_all
theorem aD.unpinned(I:aD X (a++d) b H s):aD X a b H s:=I.pins_of λp c=>I.pin p (by simp_all)
theorem zXx(F:XB (QJ X.prog X.w) X.A X.env X.xe)(hc:X.calm=Qr)(hi:PI X tg y wi)(hg:PG X tg g)(l:PSs X B tb)
 (hs:autoParam (∀x,Rt y X.env x=pure x) A13._auto_1):PS X (.For tg y B [] ab) (rD wi g tb):=by
 intro a s σ H D I h;refine wpAny_For (bt (hi a s σ H _ I h) λv s1 h1=>bt h1 λaa s2 h2=>?_) hs;obtain⟨it,C,tn,J,H2,e,I2,T,Y,f2,W,⟨m0,w0⟩,O⟩:=h2;subst e;have p:∀ {w:Hp},(∀b∈C,w b=Qs)->∀b∈C,gO X a w b:=λhn b l=>⟨hn b l,(f2 b l).2⟩;refine codeAny_forLoop_any (λn s'=>∃i q w,aD X a q w s'/\tn i s'.heap/\(∀b∈C,w b=Qs)/\W i n q w) ?_ m0 ⟨0,σ,H2,I2,Y,λb l=>(f2 b l).1,w0⟩;rintro n s3 ⟨i,t,P,I3,L,E,w3⟩;rcases O i n t P w3 with⟨M,qn⟩|⟨go,N,hN,step⟩
 ·refine Sx F (bt (T.done X rfl rfl rfl hc i a s3 t P X.xe I3 (p E) L M) λr s4 ⟨S,I4⟩=>?_);subst S;exact U8 ⟨t,P,I4,qn⟩
 ·refine Sx F (bt (T.item X rfl rfl rfl hc i a s3 t P X.xe I3 (p E) L go) λr s4 ⟨u,S,h4⟩=>?_);subst S;refine Sx F (bt h4 λ_ s5 ⟨x,H5,I5,r5,y5,A,R⟩=>?_);have Q:=I5.pinned (p R) (T.obj _ _ A);refine Sx F (bt (hg _ s5 t H5 x u _ Q r5 (step x H5 y5)) λ_ s6 ⟨Z,H6,I6,q6⟩=>?_);refine Sx F (bt (l _ s6 Z H6 _ I6 q6) λf U z=>?_);have again:∀ {c:St}{j:Hp},aD X (a++f9 C s5.heap) c j U->N c j->∃m,m<n/\∃i q w,aD X a q w U/\tn i U.heap/\(∀b∈C,w b=Qs)/\W i m q w:=fun {c j} k G=>by
   obtain⟨m',hm,w7⟩:=hN c j G;refine⟨m',hm,i+1,c,j,k.unpinned,T.keep _ _ _ A λb l o e=>(k.pin (b,o) (Zt _ (Zt _ (xG l e)))).1,λb l=>?_,w7⟩;obtain⟨o,e,d⟩:=T.obj _ _ A b l;exact(k.pin (b,o) (Zt _ (Zt _ (xG l e)))).2.1
  cases f with
  |next=>obtain⟨c,j,k,G⟩:=z;exact again k G
  |cont=>obtain⟨c,j,k,G⟩:=z;exact again k G
  |brk=>obtain⟨c,j,k,z⟩:=z;exact⟨c,j,k.unpinned,z⟩
  |ret v=>obtain⟨x7,c,j,k,r7,z⟩:=z;exact⟨x7,c,j,k.unpinned,r7,z⟩
end
theorem Mn{K:aV}{g:TG}{n:TS}{D:gM}(c:Nat->St->Hp->Prop)(o:c 0 b H)(t:∀i b H,i<=xs.length->c i b H->cF K H a xs)
 (u:∀i x b H,xs[i]?=Qq x->c i b H->g x b H λh k=>n {D with nx:=c (i+1),ct:=c (i+1),bk:=D.nx} h k) (r:∀b H,c xs.length b H->D.nx b H) :
 ∃W:Nat->Nat->St->Hp->Prop,(∃m,W 0 m b H)/\∀i m b H,W i m b H ->
  ((nY K a).stop i H/\D.nx b H)\/((nY K a).go i H/\∃N:St->Hp->Prop,(∀f d,N f d->∃l,l<m/\W (i+1) l f d)/\∀x d,(nY K a).yld i H x d->g x b d λh k=>n {D with nx:=N,ct:=N,bk:=D.nx} h k):=by
 refine⟨λi m b H=>m=xs.length-i/\i<=xs.length/\c i b H,⟨xs.length,by simp,Y1 _,o⟩,?_⟩;rintro i m b H ⟨rfl,s,p⟩;have q:=t i b H s p;by_cases j:i<xs.length
 ·refine .inr ⟨⟨xs,xs[i],q,by simp[j]⟩,c (i+1),λf d v=>⟨xs.length-(i+1),by omega,rfl,j,v⟩,λx d y=>?_⟩;obtain⟨e,y⟩:=y;subst e;exact u i x b _ (y xs q) p
 ·have e:i=xs.length:=by omega
  subst e;exact .inl ⟨⟨xs,q,Z3 _⟩,r b H p⟩
noncomputable abbrev R2:=V->V->Hp->VK->Prop
noncomputable def dS(X:Cx)(f:Qz->Qz->ZT Qz)(r:R2):Prop :=
 ∀(a:List (QC×Ts)) (s:QF) (b:St) (H:Hp) (x y:V) (v u:Qz) (Q:VK),aD X a b H s->aM x v->aM y u->r x y H Q ->
  QI (QJ X.prog X.w) X.A (f v u) (EP X a b Q) X.xe s
noncomputable def By(X:Cx)(f:Qz->ZT Qz)(r:V->Hp->VK->Prop):Prop :=
 ∀(a:List (QC×Ts)) (s:QF) (b:St) (H:Hp) (x:V) (v:Qz) (Q:VK),aD X a b H s->aM x v->r x H Q ->
  QI (QJ X.prog X.w) X.A (f v) (EP X a b Q) X.xe s
noncomputable def bL(X:Cx)(f:Qz)(r:List V->Hp->VK->Prop):Prop :=
 ∀(a:List (QC×Ts)) (s:QF) (d:St) (H:Hp) (c:List V) (b:List Qz) (Q:VK),aD X a d H s->aG c b->r c H Q ->
  QI (QJ X.prog X.w) X.A (call f b) (EP X a d Q) X.xe s
noncomputable def xQ(X:Cx)(r:V->Hp->(Bool->Hp->Prop)->Prop):Prop :=
 ∀(a:List (QC×Ts)) (s:QF) (b:St) (H:Hp) (x:V) (v:Qz) (Q:Bool->Hp->Prop),aD X a b H s->aM x v->r x H Q ->
  QI (QJ X.prog X.w) X.A (truthy v) (TP X a b Q) X.xe s
noncomputable def nG(r:R2)(d e:TE):TE:=λa H Q=>d a H λx b=>e a b λy c=>r x y c Q
noncomputable def L7(r:V->Hp->VK->Prop)(b:TE):TE:=λc H Q=>b c H λx a=>r x a Q
noncomputable def rI(C:Int->Int->Prop)(g:Int->Int->V):R2:=λx y H Q=>∃i j,x=.int i/\y=.int j/\C i j/\Q (g i j) H
noncomputable def ov(g:Int->Int->V):R2:=λx y H Q=>∃i j,x=.int i/\y=.int j/\Q (g i j) H
noncomputable def rU(g:Int->V):V->Hp->VK->Prop:=λx H Q=>∃i,x=.int i/\Q (g i) H
section
theorem o3(n:PE X a A)(o:PE X b B){R:V->V->Hp->Prop}(I:aD X c i H s)
 (h:A i H λx k=>B i k λy d=>R x y d) {f:Qz->Qz->ZT Qz}
 (p:∀v u j x y d,aD X c i d j->aM x v->aM y u->R x y d->QI (QJ X.prog X.w) X.A (f v u) Q X.xe j) :
 QI (QJ X.prog X.w) X.A (eval a X.env) (λv e=>QI (QJ X.prog X.w) X.A (eval b X.env) (λu g=>QI (QJ X.prog X.w) X.A (f v u) Q X.xe g) X.xe e) X.xe s:=by
 refine bt (n c s i H _ I h) λv z ⟨x,k,l,t,q⟩=>?_;refine bt (o c z i k _ l q) λu j ⟨y,d,m,w,r⟩=>?_;exact p v u j x y d m t w r
theorem zZy(i:dS X (Ru j) r)(f:PE X a o)(g:PE X b p):PE X (.BinOp a j b k) (nG r o p):=by
 intro c s t H Q I h;exact wpAny_BinOp (o3 f g I h λv u n x y d e l m q=>i c n t d x y v u Q e l m q)
theorem yDp(g:By X (unaryOp i) r)(f:PE X a n):PE X (.UnaryOp i a j) (L7 r n):=by
 intro b s c H Q I h;exact UnaryOp_ (bt (f b s c H _ I h) λv m ⟨x,d,e,l,k⟩=>g b m c d x v Q e l k)
theorem j4{g:Int->Int->Int}
 (rule:∀  i j   t u   s   Q   E ,C i j->Q (.int (g i j) s.toks) {s with toks:=s.toks+1}->QI (QJ X.prog X.w) X.A (f (.int i t) (.int j u)) Q E s) :
 dS X f (rI C λi j=>.int (g i j)):=by
 intro a s k H x y v u Q I c d h;obtain⟨i,j,rfl,rfl,b,q⟩:=h;obtain⟨t,rfl⟩:=c;obtain⟨e,rfl⟩:=d;exact rule i j t e s _ _ b ⟨.int (g i j),H,I.tok _,⟨_,rfl⟩,q⟩
theorem uv{g:Int->Int->Int}
 (rule:∀  i j   t u   s   Q   E ,Q (.int (g i j) s.toks) {s with toks:=s.toks+1}->QI (QJ X.prog X.w) X.A (f (.int i t) (.int j u)) Q E s) :
 dS X f (ov λi j=>.int (g i j)):=by
 intro a s e H x y v u Q I b c h;obtain⟨i,j,rfl,rfl,q⟩:=h;obtain⟨t,rfl⟩:=b;obtain⟨d,rfl⟩:=c;exact rule i j t d s _ _ ⟨.int (g i j),H,I.tok _,⟨_,rfl⟩,q⟩
theorem oY{g:Int->Int->Bool}
 (rule:∀  i j   t u   s   Q   E ,Q (.bool (g i j)) s->QI (QJ X.prog X.w) X.A (f (.int i t) (.int j u)) Q E s) :
 dS X f (ov λi j=>.bl (g i j)):=by
 intro a s e H x y v u Q I b c h;obtain⟨i,j,rfl,rfl,q⟩:=h;obtain⟨t,rfl⟩:=b;obtain⟨d,rfl⟩:=c;exact rule i j t d s _ _ ⟨.bl (g i j),H,I,rfl,q⟩
noncomputable def mL(i j:Int):Prop:=(-(2^64)<i/\i<2^64)\/(-(2^64)<j/\j<2^64)
theorem mL.ok(h:mL i j):IntMulOk i j:=by
 rcases h with⟨a,b⟩|⟨a,b⟩
 ·exact .of_left (intBits_le_64 a b)
 ·exact .of_right (intBits_le_64 a b)
theorem I0:dS X (Ru .Add) (ov λi j=>.int (i+j)):=uv λ_ ω ω ω ω ω ω q=>add_int q
theorem zY6:dS X (Ru .Sub) (ov λi j=>.int (i-j)):=uv λ_ ω ω ω ω ω ω q=>sub_int q
theorem zY7:dS X (Ru .Mult) (rI mL λi j=>.int (i*j)):=j4 λ_ ω ω ω ω ω ω a q=>mul_int q a.ok
theorem Jm:dS X (Ru .Mod) (rI (λ_ j=>0<j) λi j=>.int (i%j)):=j4 λi j ω ω ω ω ω a q=>by
 exact mod_int' (by omega) (by rw[Int.fmod_eq_emod_of_nonneg i (by omega)];exact q)
theorem KY{g:Int->Int}
 (rule:∀  i   t   s   Q   E ,Q (.int (g i) s.toks) {s with toks:=s.toks+1}->QI (QJ X.prog X.w) X.A (f (.int i t)) Q E s) :
 By X f (rU λi=>.int (g i)):=by
 intro a s c H x v Q I b h;obtain⟨i,rfl,q⟩:=h;obtain⟨t,rfl⟩:=b;exact rule i t s _ _ ⟨.int (g i),H,I.tok _,⟨_,rfl⟩,q⟩
theorem GI:By X (unaryOp .USub) (rU λi=>.int (-i)):=KY λ_ ω ω ω ω q=>neg_int q
end
noncomputable def pG:V->V->Bool
 | .non,.non=>Qr|.non,.int _=>Qr|.int _,.non=>Qr|.non,.bl _=>Qr|.bl _,.non=>Qr|.non,.str _=>Qr|.str _,.non=>Qr
 | .int _,.int _=>Qr|.bl _,.bl _=>Qr|.str _,.str _=>Qr|.byt _,.byt _=>Qr
 | .int _,.str _=>Qr|.str _,.int _=>Qr|.bl _,.str _=>Qr|.str _,.bl _=>Qr
 |_,_=>Qv
noncomputable def EK:R2:=λx y H Q=>pG x y=Qr/\Q (.bl (decide (x=y))) H
noncomputable def OQ:R2:=λx y H Q=>pG x y=Qr/\Q (.bl (!decide (x=y))) H
theorem CP:decide (V.int i=V.int j)=(i==j):=by
 rw[Yk];simp
theorem CT:decide (V.bl i=V.bl j)=(i==j):=by
 rw[Yk];simp
theorem Dm:decide (V.str i=V.str j)=(i==j):=by
 rw[Yk];simp
theorem FV:decide (V.byt i=V.byt j)=(i.toList==j.toList):=by
 rw[Yk];cases i;cases j;simp
section
theorem fh(I:aD X a c H s)(q:Q (.bl k) H)(e:k=b):EP X a c Q (.bool b) s:=by
 subst e;exact⟨.bl k,H,I,rfl,q⟩
theorem yEh:dS X (QK .Eq) EK:=by
 intro e s f H x y v u Q I d a h;obtain⟨c,q⟩:=h;cases x with
 |non =>
  cases d;cases y with
  |non=>cases a;exact Zb9 (fh I q (by simp))
  |bl j=>cases a;exact Zbb (fh I q (by simp))
  |int j=>obtain⟨b,rfl⟩:=a;exact Zba (fh I q (by simp))
  |str j=>obtain⟨b,rfl⟩:=a;exact Zb8 (fh I q (by simp))
  |_=>exact absurd (c) Zb
 |bl i =>
  cases d;cases y with
  |non=>cases a;exact Zbd (fh I q (by simp))
  |bl j=>cases a;exact eq_bool (fh I q CT)
  |str j=>obtain⟨b,rfl⟩:=a;exact Zai (fh I q (by simp))
  |_=>exact absurd (show Qv=Qr from c) Zb
 |int i =>
  obtain⟨t,rfl⟩:=d;cases y with
  |non=>cases a;exact Zbc (fh I q (by simp))
  |int j=>obtain⟨b,rfl⟩:=a;exact eq_int (fh I q CP)
  |str j=>obtain⟨b,rfl⟩:=a;exact Zah (fh I q (by simp))
  |_=>exact absurd (c) Zb
 |str i =>
  obtain⟨t,rfl⟩:=d;cases y with
  |non=>cases a;exact Zb7 (fh I q (by simp))
  |bl j=>cases a;exact Zag (fh I q (by simp))
  |int j=>obtain⟨b,rfl⟩:=a;exact Zaf (fh I q (by simp))
  |str j=>obtain⟨b,rfl⟩:=a;exact eq_str (fh I q Dm)
  |_=>exact absurd (show Qv=Qr from c) Zb
 |byt i =>
  obtain⟨t,rfl⟩:=d;cases y with
  |byt j=>obtain⟨b,rfl⟩:=a;exact PySem.W.eq_bytes (fh I q FV)
  |_=>exact absurd (show Qv=Qr from c) Zb
 |_=>cases y<;>exact absurd (show Qv=Qr from c) Zb
theorem uC:dS X (QK .NotEq) OQ:=by
 intro e s f H x y v u Q I d a h;obtain⟨c,q⟩:=h;cases x with
 |non =>
  cases d;cases y with
  |non=>cases a;exact Zb2 (fh I q (by simp))
  |bl j=>cases a;exact Zb4 (fh I q (by simp))
  |int j=>obtain⟨b,rfl⟩:=a;exact Zb3 (fh I q (by simp))
  |str j=>obtain⟨b,rfl⟩:=a;exact Zb1 (fh I q (by simp))
  |_=>exact absurd (c) Zb
 |bl i =>
  cases d;cases y with
  |non=>cases a;exact Zb6 (fh I q (by simp))
  |bl j=>cases a;exact ne_bool (fh I q (congrArg not CT))
  |str j=>obtain⟨b,rfl⟩:=a;exact Zae (fh I q (by simp))
  |_=>exact absurd (c) Zb
 |int i =>
  obtain⟨t,rfl⟩:=d;cases y with
  |non=>cases a;exact Zb5 (fh I q (by simp))
  |int j=>obtain⟨b,rfl⟩:=a;exact ne_int (fh I q (congrArg not CP))
  |str j=>obtain⟨b,rfl⟩:=a;exact Zad (fh I q (by simp))
  |_=>exact absurd (c) Zb
 |str i =>
  obtain⟨t,rfl⟩:=d;cases y with
  |non=>cases a;exact Zb0 (fh I q (by simp))
  |bl j=>cases a;exact Zac (fh I q (by simp))
  |int j=>obtain⟨b,rfl⟩:=a;exact Zab (fh I q (by simp))
  |str j=>obtain⟨b,rfl⟩:=a;exact ne_str (fh I q (congrArg not Dm))
  |_=>exact absurd (show Qv=Qr from c) Zb
 |byt i =>
  obtain⟨t,rfl⟩:=d;cases y with
  |byt j=>obtain⟨b,rfl⟩:=a;exact PySem.W.ne_bytes (fh I q (congrArg not FV))
  |_=>exact absurd (show Qv=Qr from c) Zb
 |_=>cases y<;>exact absurd (show Qv=Qr from c) Zb
theorem sy:dS X (QK .Lt) (ov λi j=>.bl (decide (i<j))):=oY λ_ ω ω ω ω ω ω q=>lt_int q
theorem si:dS X (QK .LtE) (ov λi j=>.bl (decide (i<=j))):=oY λ_ ω ω ω ω ω ω q=>le_int q
theorem uj:dS X (QK .Gt) (ov λi j=>.bl (decide (j<i))):=oY λ_ ω ω ω ω ω ω q=>gt_int q
theorem JU:dS X (QK .In) (λx y H Q=>∃i j,x=.str i/\y=.str j/\Q (.bl (!(QR j i 0 j.length 1).isEmpty)) H):=by
 intro a s e H x y v u Q I b c h;obtain⟨i,j,rfl,rfl,q⟩:=h;obtain⟨t,rfl⟩:=b;obtain⟨d,rfl⟩:=c;exact in_str (fh I q rfl)
theorem Ql:dS X (QK .Is) (λx y H Q=>y=.non/\Q (.bl (decide (x=.non))) H):=by
 intro a s d H x y v u Q I b c h;obtain⟨rfl,q⟩:=h;cases c;refine is_none_gen (fh I q ?_)
 cases x<;>first
  |(cases b;rfl)
  |(obtain⟨t,rfl⟩:=b;rfl)
theorem IC:dS X (QK .IsNot) (λx y H Q=>y=.non/\Q (.bl (!decide (x=.non))) H):=by
 intro a s d H x y v u Q I b c h;obtain⟨rfl,q⟩:=h;cases c;refine isnot_none_gen (fh I q ?_)
 cases x<;>first
  |(cases b;rfl)
  |(obtain⟨t,rfl⟩:=b;rfl)
theorem nomark(b:Rx)(h:autoParam (a≠.In) A11._auto_1)(e:autoParam (a≠.NotIn) A11._auto_1):T4 a b=Qv:=by
 have c:(a==CmpOp.In)=Qv:=by simp_all
 have d:(a==CmpOp.NotIn)=Qv:=by simp_all
 cases b<;>simp[T4,c,d]
theorem yA3(k:dS X (QK d) r)(g:PE X a p)(i:PE X b t)(j:T4 d b=Qv):PE X (.Compare a [d] [b] l) (nG r p t):=by
 intro c s w H Q I h;exact wpAny_Compare1 (o3 g i I h λv u o x y e f m n q=>k c o w e x y v u Q f m n q) j
noncomputable def lO(t:TE):TT:=λb H Q=>t b H λx a=>∃k,x=.bl k/\Q k a
theorem zRi(w:dS X (QK g) r)(p:PE X a M)(q:PE X b N)(t:T4 g b=Qv):PT X (.Compare a [g] [b] A) (lO (nG r M N)):=by
 intro d s f H Q I h
 refine wpAny_isTrue_Compare1 (bt (p d s f H _ I h) λv J ⟨x,i,m,E,B⟩=>bt (q d J f i _ m B) λu L ⟨y,j,n,F,C⟩ =>
  bt (w d L f j x y v u _ n E F C) λc O ⟨z,l,o,G,k,e,D⟩=>?_) t
 subst e;cases G;exact RD ⟨l,o,D⟩
noncomputable def lQ(r f:R2)(g h i:TE):TE:=λa H Q=>g a H λx c=>h a c λy d=>r x y d λz b=>∃k,z=.bl k /\
 (if k=Qr then i a b λj e=>f y j e Q else Q (.bl Qv) b)
theorem zVl(J:dS X (QK n) r)(j:dS X (QK g) P)(D:PE X a ta)(E:PE X b tb)(F:PE X c tc)
 (G:autoParam (Xx [n,g] [b,c]=Qv) A17._auto_1):PE X (.Compare a [n,g] [b,c] L) (lQ r P ta tb tc):=by
 intro f s i H Q I h
 refine Compare_chain (bt (D f s i H _ I h) λv U ⟨x,q,A,R,M⟩=>chain_link (bt (E f U i q _ A M) λu W ⟨y,t,B,p,N⟩ =>
  bt (J f W i t x y v u _ B R p N) λd Y ⟨z,l,m,S,k,e,o⟩=>?_)) G
 subst e;cases S;refine RD ?_;cases k with
 |false=>exact ite_ff ⟨.bl Qv,l,m,rfl,o⟩
 |true=>exact ite_tt (chain_last (bt (F f Y i l _ m o) λw' Z ⟨z',w,C,T,O⟩=>j f Z i w y z' u w' Q C p T O))
theorem zV9(O:dS X (QK n) r)(j:dS X (QK g) Y)(J:PE X a ta)(L:PE X b tb)(M:PE X c tc)
 (N:autoParam (Xx [n,g] [b,c]=Qv) A17._auto_1):PT X (.Compare a [n,g] [b,c] P) (lO (lQ r Y ta tb tc)):=by
 intro f s i H Q I h
 refine isTrue_chain (bt (J f s i H _ I h) λv s1 ⟨x,q,B,Z,S⟩=>test_link (bt (L f s1 i q _ B S) λu s2 ⟨y,t,C,p,T⟩ =>
  bt (O f s2 i t x y v u _ C Z p T) λd s3 ⟨z,l,m,r3,k,e,o⟩=>?_)) N
 subst e;cases r3;refine RD ?_;cases k with
 |false =>
  obtain⟨k',F,R⟩:=o;cases F;exact ite_ff ⟨l,m,R⟩
 |true =>
  refine ite_tt (test_last (bt (M f s3 i l _ m o) λw' s4 ⟨z',w,D,r4,U⟩=>bt (j f s4 i w y z' u w' _ D p r4 U) λd' s5 ⟨z2,A,E,r5,k2,G,W⟩=>?_));subst G;cases r5;exact RD ⟨A,E,W⟩
noncomputable def oO(K:aV)(x:V)(H:Hp)(k:Bool):Prop :=
 match x with
 | .non=>k=Qv
 | .bl b=>k=b
 | .int i=>k=(i != 0)
 | .str y=>y.length<=QG/\k=((y.length:Int) != 0)
 | .byt y=>y.size<=QG/\k=((y.size:Int) != 0)
 | .ref p=>(∃c,cF K H p c/\k=!c.isEmpty)\/(∃c,gC K H p c/\k=!c.isEmpty)\/∃a,H p=Qq (.dK a)/\k=!a.isEmpty
 |_=>False
theorem ID{b:List (c×Qz)}(r:KV a b):(!b.isEmpty)=!a.isEmpty:=by
 cases r<;>rfl
theorem Gp(r:aG b a):(!a.toArray.isEmpty)=!b.isEmpty:=by
 cases r<;>simp
theorem gk :  QG  < 2^63:=by rw[sizeLine_eq];decide
theorem NL:xQ X (λx H Q=>∃k,oO X.K x H k/\Q k H):=by
 intro u s C H x v Q I f h;obtain⟨k,e,q⟩:=h;have B:=sizeLine_eq;cases x with
 |non =>
  cases f;have a:=e;subst a;exact truthy_none ⟨H,I,q⟩
 |bl b =>
  cases f;have a:=e;subst a;exact RD ⟨H,I,q⟩
 |int i =>
  obtain⟨t,rfl⟩:=f;have a:=e;subst a;exact PySem.P.truthy_int ⟨H,I,q⟩
 |str y =>
  obtain⟨t,rfl⟩:=f;obtain⟨z,a⟩:y.length<=QG/\k=((y.length:Int) != 0):=e;subst a;exact PySem.P.truthy_str (by omega) ⟨H,I.tok _,q⟩
 |byt y =>
  obtain⟨t,rfl⟩:=f;obtain⟨z,a⟩:y.size<=QG/\k=((y.size:Int) != 0):=e;subst a;exact PySem.W.truthy_bytes (by omega) ⟨H,I.tok _,q⟩
 |ref p =>
  cases f;have a:=e;rcases a with⟨A,g,a⟩|⟨A,g,a⟩|⟨d,g,a⟩
  ·subst a;obtain⟨l,r,n,o⟩:=I.list g;have c:=r.length;exact wpAny_truthy_list n.isList (by simp only[Zn];omega) ⟨H,I.tok _,by rw[Gp r];exact q⟩
  ·subst a;obtain⟨l,r,n,o⟩:=I.tuple g;have c:=r.length;exact truthy_tuple n (by simp only[Zn];omega) ⟨H,I.tok _,by rw[Gp r];exact q⟩
  ·subst a;obtain⟨o,w,j,r,m⟩:d.length<=QG/\(p==RM)=Qv/\∃j,KV d j/\s.heap.DictOf (aN X.prog X.w) p j:=I.hok p _ g;have c:d.length=j.length:=Uj r;exact wpAny_truthy_dict w m (by omega) ⟨H,I.tok _,by rw[ID r];exact q⟩
 |_=>exact(show False from e).elim
theorem zV8(i:PE X a o)(j:∀b,isTrue a X.env b=(do let v<-b;UB a.pos;holding [v] (truthy v))):
 PT X a (λd H Q=>o d H λx e=>∃k,oO X.K x e k/\Q k e):=by
 intro c s d H Q I h;exact isTrue_plain (bt (i c s d H _ I h) λv n ⟨x,f,g,m,l⟩=>NL c n d f x v Q g m l) (j _)
theorem PR:dS X (Ru .Add) (λx y H Q=>∃i j,x=.str i/\y=.str j/\i.length+j.length<=QG/\Q (.str (i++j)) H):=by
 intro a s g H x y v u Q I c d h;obtain⟨i,j,rfl,rfl,b,q⟩:=h;obtain⟨t,rfl⟩:=c;obtain⟨e,rfl⟩:=d;exact add_str (λe f=>⟨.str (i++j),H,I.tok _,⟨_,rfl⟩,q⟩) b
theorem iZ(r:aG [x] c):∃u,c=[u]/\aM x u:=by
 cases r with
 |cons a b=>cases b;exact⟨_,rfl,a⟩
theorem IK:bL X (.type "str") (λb H Q=>∃i,b=[.int i]/\i.natAbs.log2<1920/\Q (.str (Sy i)) H):=by
 intro a s e H b d Q I r h;obtain⟨i,rfl,c,q⟩:=h;obtain⟨u,rfl,t,rfl⟩:=iZ r;exact PySem.P.str_of_int c ⟨.str _,H,I.tok _,⟨_,rfl⟩,q⟩
end
structure jD(h:RS)(x dx C:QC)(mA:QD->Option Qz):Prop where
 obj:h.get? x=Qq (RZ C dx)
 ns:h.Ns1 dx mA
 ne:dx≠x
theorem NR{h:RS}(n:h.Ns1 f p):∃d,h.get? f=Qq d/\∀b,UI b d=Qq (p b):=by
 obtain⟨o,g,r,l,i,j,_,k⟩:=n;refine⟨o,l,λb=>?_⟩;have e:=k b;unfold nsFind findBy at e;rw[<- Array.find?_toList]at e;unfold UI;rw[i];dsimp only;split
 ·simp_all
 ·rename_i q
  rw[q]at e;have a:g.toList.any (·.refKey)=Qv:=by
   rw[XZ];intro y m;obtain⟨z,t,c⟩:=j y (Xd.mp m);simp[DictEntry.refKey,c]
  grind
theorem jD.look(I:jD h x c C f):∃b,PySem.W.InstAt h x (RZ C c) C (Qq b)/\∀a,UI a b=Qq (f a) :=
 let⟨b,e,d⟩:=NR I.ns
 ⟨b,⟨I.obj,rfl,rfl,e⟩,d⟩
section
variable {K:aV}
theorem Ce(X:K.In s.heap)(I:jD s.heap x l C k)(f:Tg K C a=Qr)(g:Ub K C=Qr)
 (e:QX K (.ref C) a=Qq Qs) (j:k a=Qq v) (b:Ul v=Qr) (h:Q v {s with toks:=s.toks+1}) :
 QI (QJ d w) A (ZQ (.ref x) a c) Q E s:=by
 obtain⟨m,J,i⟩:=I.look;exact PySem.W.get_value X J (UR f).1 (PySem.W.findObj_own g e rfl (by rw[i,j])) b h
theorem Mr(X:K.In s.heap)(I:jD s.heap x l C j)(b:Tg K C a=Qr)
 (d:QX K (.ref C) a=Qq (Qq (.ref f))) (g:R1 K (.ref f)=Qr) (i:j a=Qs) (h:Q (.ref f,[.ref x]) s) :
 QI (QJ c w) A (getMethod (.ref x) a m) Q E s:=by
 obtain⟨k,J,e⟩:=I.look;exact PySem.W.method_fn X J (UR b).1 (UR b).2 d (beq_iff_eq.mp g) (by show(UI a k).map (·.isSome)=Qq Qv;rw[e,i];rfl) h
theorem La(X:K.In s.heap)(I:jD s.heap x k C l)
 (t:QX K (.ref C) "__setattr__" = Qq (Qq (.builtin "object.__setattr__"))) (r:Vi K C=Qr) (z:VC K C a=Qq Qs) (q:Ub K C=Qr)
 (B:WJ l F) (u:F.length<=QG)
 (h:∀e,jD e x k C (λy=>if y=a then Qq v else l y)->Sk k s.heap e->Q () {s with heap:=e,toks:=s.toks+2}) :
 QI (QJ m w) A (setAttr (.ref x) a v) Q E s:=by
 obtain⟨M,J,H⟩:=I.look;refine PySem.W.set_plain X J t (PySem.W.osa_open X J r z λb=>?_);obtain⟨G,p,g⟩:=PySem.W.any_some q;have D:=I.obj;refine Qt (QB (Qt (Qt (wpAny_loadPart D (Qt (Za8 (PySem.W.looks_clsIn X p) ?_))))));rw[g];refine QB (Qt (QB (Qt ?_)));refine wpAny_nsSet1 I.ns λe c d=>?_;obtain⟨L,o,n,j,i,f⟩:=c.count (Zaz a v B);refine Qt (wpAny_lookBehind j (by rw[i];exact pastItsLine_dict (Z9 f (by simp_all))) ?_);exact QB (h _ ⟨(d.2 _ (Rf I.ne)).trans I.obj,c,I.ne⟩ d)
theorem HW(X:K.In s.heap)(k:Uu K C=Qr)
 (j:QX K (.ref C) "__init__" = Qq (Qq (.ref f))) (i:PySem.W.typeIn K (.ref f)=Qq (.type "function"))
 (h:SW (QJ a w) (A.under (.builtin "type.__call__" ⟨.ref C :: e,c⟩)) (.call (.ref f) ⟨.ref (s.heap.objs.size + 1) :: e,c⟩) (PySem.W.InitBack (s.heap.objs.size + 1) R)
  {s with heap:=(s.heap.push RK).push (RZ C s.heap.objs.size)}) :
 SW (QJ a w) A (.call (.ref C) ⟨e,c⟩) R s:=by
 obtain⟨l,g,d,t,os⟩:=s;exact PySem.W.make_core (PySem.W.makes_of X k) (PySem.W.looks_findIn X j) (λb=>PySem.W.bind_fn X b i) (.inl rfl) h
end
noncomputable def putF(f:QD)(v:V):List (QD×V)->List (QD×V)
 |[]=>[(f,v)]
 |(g,x)::r=>if g=f then(g,v)::r else(g,x)::putF f v r
theorem EB(f g:QD)(v:V):∀c ,(putF f v c).lookup g=if g=f then Qq v else c.lookup g
 |[]=>by
  show TF g [(f,v)]=_;by_cases h:g=f
  all_goals simp_all
 |(k,x)::r=>by
  have d:=EB f g v r;rw[show putF f v ((k,x)::r)=(if k=f then(k,v)::r else(k,x)::putF f v r)from rfl];by_cases b:k=f
  ·rw[if_pos b];by_cases h:g=k
   ·simp_all
   ·have a:=beq_eq_false_iff_ne.mpr h;simp[TF,a,if_neg (λe:g=f=>h (e.trans b.symm))]
  ·rw[if_neg b];by_cases h:g=k
   ·simp_all
   ·have a:=beq_eq_false_iff_ne.mpr h;simp[TF,a];exact d
theorem yI(f:QD)(v:V):∀a ,f∈(putF f v a).map (·.1)/\∀g,g∈a.map (·.1)->g∈(putF f v a).map (·.1)
 |[]=>⟨by simp[putF],λg h=>by simp at h⟩
 |(k,x)::r=>by
  obtain⟨d,c⟩:=yI f v r;rw[show putF f v ((k,x)::r)=(if k=f then(k,v)::r else(k,x)::putF f v r)from rfl];by_cases b:k=f
  ·grind
  ·rw[if_neg b];refine⟨?_,λg h=>?_⟩
   ·grind
   ·rw[Z8]at h ⊢;rcases QL.mp h with e|e
    ·exact QL.mpr (.inl e)
    ·exact Z4 _ (c g e)
theorem EH(f:QD)(v:V):∀a ,(putF f v a).length<=a.length+1
 |[]=>by simp[putF]
 |(k,x)::r=>by
  have c:=EH f v r;rw[show putF f v ((k,x)::r)=(if k=f then(k,v)::r else(k,x)::putF f v r)from rfl];by_cases b:k=f
  all_goals simp_all
theorem dN.some_of(r:dN (Qq v) o):∃u,o=Qq u/\aM v u:=by
 cases o with
 |none=>exact(r).elim
 |some u=>exact⟨u,rfl,r⟩
theorem dN.none_of(r:dN Qs o):o=Qs:=by
 cases o with
 |none=>rfl
 |some u=>exact(r).elim
theorem L3(r:aM v u):Ul u=Qr:=by
 cases v with
 |non=>cases (r);rfl
 |bl b=>cases (r);rfl
 |int i=>obtain⟨t,e⟩:=(r);cases e;rfl
 |str x=>obtain⟨t,e⟩:=(r);cases e;rfl
 |byt b=>obtain⟨t,e⟩:=(r);cases e;rfl
 |flt b=>obtain⟨t,e⟩:=(r);cases e;rfl
 |ref a=>cases (r);rfl
 |ty n=>cases (r);rfl
section
theorem tT(g:fC P w H h)(e:H a=Qq (.ins C i c)):∃b,jD h a i C b/\(∀f,dN (c.lookup f) (b f))/\WJ b (c.map (·.1))/\c.length<=1000/\H i=Qq (.own a):=by
 obtain⟨d,z,j,k,b,n,r,q⟩:=(g a _ e);exact⟨b,⟨k,n,j⟩,r,q,z,d⟩
end
structure jB(K:aV)(C:QC):Prop where
 pg:Tg K C R5=Qr
 hd:Ub K C=Qr
 po:Vi K C=Qr
 sa:QX K (.ref C) "__setattr__" = Qq (Qq (.builtin "object.__setattr__"))
theorem jB.get{K:aV}(c:jB K C)(f:QD):Tg K C f=Qr:=c.pg
noncomputable def dO(K:aV)(C:QC)(f:QD):Prop:=QX K (.ref C) f=Qq Qs
theorem dO.taker{K:aV}(n:dO K C f):VC K C f=Qq Qs:=by
 unfold VC;rw[n];rfl
structure m8(K:aV)(C:QC)(m:QD)(f:QC):Prop where
 at_:QX K (.ref C) m=Qq (Qq (.ref f))
 fn:R1 K (.ref f)=Qr
 kp:Rk K (.ref f)=Qr
section
theorem Hz(I:aD X d m H s)(e:H a=Qq (.ins C o j))(c:jB X.K C)(n:dO X.K C f)(l:j.lookup f=Qq v)
 (h:∀u i,aD X d m H i->aM v u->Q u i):QI (QJ X.prog X.w) A (ZQ (.ref a) f b) Q E s:=by
 obtain⟨p,O,r,_,_,_⟩:=tT I.hok e;obtain⟨u,k,g⟩:=dN.some_of (by rw[<- l];exact r f);exact Ce I.kIn O (c.get f) c.hd n k (L3 g) (h u _ (I.tok _) g)
theorem BO(I:aD X b o H s)(e:H a=Qq (.ins C i d))(c:jB X.K C)(k:m8 X.K C m g)(l:d.lookup m=Qs)
 (h:Q (.ref g,[.ref a]) s):QI (QJ X.prog X.w) A (getMethod (.ref a) m n) Q E s:=by
 obtain⟨j,O,r,_,_,_⟩:=tT I.hok e;have f:=dN.none_of (by rw[<- l];exact r m);exact Mr I.kIn O (c.get m) k.at_ k.fn f h
theorem Ku(I:aD X i J H s)(e:H a=Qq (.ins C k d))(c:jB X.K C)(n:dO X.K C f)(L:d.length<1000)(F:aM y u)
 (h:∀m,aD X i J (upd H a (.ins C k (putF f y d))) m->Q () m):QI (QJ X.prog X.w) A (setAttr (.ref a) f u) Q E s:=by
 obtain⟨M,O,r,p,_,l⟩:=tT I.hok e;have D:(d.map (·.1)).length<=QG:=by rw[Z0,sizeLine_eq];omega
 refine La I.kIn O c.sa c.po n.taker c.hd p D λv j G=>h _ ?_;have x:∃o,v.get? k=Qq o:=let⟨o,_,_,t,_⟩:=j.ns;⟨o,t⟩;refine I.write (e:=k) (by rw[e];exact RQ) (.inr l) (λb q w z=>(G.2 b w).trans z) x ?_;refine⟨by rw[bS O.ne];exact l,?_,O.ne,j.obj,_,j.ns,λg=>?_,λg B=>?_⟩
 ·have:=EH f y d;omega
 ·rw[EB];by_cases q:g=f
  ·rw[if_pos q,if_pos q];exact F
  simp_all
 ·by_cases q:g=f
  ·rw[q];exact(yI f y d).1
  ·refine(yI f y d).2 g (p g λz=>B ?_)
   simp_all
theorem aD.made(I:aD X a k H s):aD X a k (upd (upd H s.heap.objs.size (.own (s.heap.objs.size+1))) (s.heap.objs.size+1) (.ins C s.heap.objs.size []))
 {s with heap:=(s.heap.push RK).push (RZ C s.heap.objs.size)}:=by
 have c:(s.heap.push RK).get? s.heap.objs.size=Qq RK:=Z5 s.heap rfl;have g:((s.heap.push RK).push (RZ C s.heap.objs.size)).get? (s.heap.objs.size+1)=Qq (RZ C s.heap.objs.size):=by
  have:=Z5 (s.heap.push RK) (o:=RZ C s.heap.objs.size) rfl
  rwa [Zs]at this
 have h:(s.heap.push RK).Ns s.heap.objs.size (λ_=>Qs):=⟨RK,#[],_,c,rfl,(λe i=>absurd i (by simp)),λ_=>rfl⟩;have f:=I.laid (o:=.own (s.heap.objs.size+1)) (t':=s.toks) (λb u q=>Z1 _ q) (Z3 _) ⟨_,c⟩;refine f.laid (λb u q=>Z1 _ q) (by simp_all) ?_;have d:s.heap.objs.size≠s.heap.objs.size+1:=Zc (Y0 _);refine⟨by rw[bS d,dm],Y1 _,d,g,λ_=>Qs,(Heap.Ns1.of_empty h).at λo q=>Z1 _ q,λ_=>RQ,λy j=>absurd rfl j⟩
theorem GK(d:Q6 e f a (eval e a)=eval e a)
 (h:QI (QJ b w) A (eval e a) (λo c=>QI (QJ b w) A (ZQ o f Qr) Q E c) E s):QI (QJ b w) A (eval (.Attribute e f g) a) Q E s :=
 Attribute_any_ h (by rw[arm_eval_Attribute,d])
end
noncomputable def xD(K:aV)(e:TE)(f:QD):TE:=λg H Q=>e g H λx b=>∃a C d c v,x=.ref a/\b a=Qq (.ins C d c)/\jB K C/\dO K C f/\c.lookup f=Qq v/\Q v b
noncomputable def yA(K:aV)(h i:TE)(f:QD):TS:=λD c H=>i c H λy g=>h c g λx d=>∃a C e b,x=.ref a/\d a=Qq (.ins C e b)/\jB K C/\dO K C f/\b.length<1000 /\
 D.nx c (upd d a (.ins C e (putF f y b)))
section
theorem yDv(o:PE X e w)(m:Q6 e f X.env (eval e X.env)=eval e X.env):PE X (.Attribute e f p) (xD X.K w f):=by
 intro b s y H Q I h;refine GK m (bt (o b s y H _ I h) λu B ⟨x,d,g,t,a,C,z,A,v,k,j,c,n,l,q⟩=>?_);subst k;obtain rfl:u=QV a:=t;exact Hz g j c n l λE D i r=>⟨v,d,i,r,q⟩
theorem yDg(v:PE X o J)(z:PE X b L)(w:Sl b (Qq (.Attribute o f e)) g.line X.env=pure Qv):PS X (.Assign [.Attribute o f e] b g) (yA X.K J L f):=by
 intro d s i H D I h;refine plainObj_wpAny_Assign_Attribute (bt (z d s i H _ I h) λu G ⟨y,j,k,F,q⟩=>bt (v d G i j _ k q) λA P ⟨x,M,m,E,a,C,N,O,t,r,c,n,l,B⟩=>?_) w;subst t;obtain rfl:A=QV a:=E;exact Ku m r c n l F λQ p=>⟨i,_,p,B⟩
end
section
inductive fz (K:aV) (H:Hp):V->Qz->Prop where
 |non:fz K H .non (.type "NoneType")
 |bl (x:Bool):fz K H (.bl x) (.type "bool")
 |int (i:Int):fz K H (.int i) (.type "int")
 |str (x:QD):fz K H (.str x) (.type "str")
 |flt (x:UInt64):fz K H (.flt x) (.type "float")
 |lst {a:QC}{xs:List V} (e:H a=Qq (.lst xs)):fz K H (.ref a) (.type "list")
 |frz {a:QC}{o:Ts}{xs:List V} (e:H a=Qq (.frz o (.lst xs))):fz K H (.ref a) (.type "list")
 |tup {a:QC}{xs:List V} (e:H a=Qq (.tup xs)):fz K H (.ref a) (.type "tuple")
 |dK {a:QC}{kvs:List (aR×V)} (e:H a=Qq (.dK kvs)):fz K H (.ref a) (.type "dict")
 |dT {a:QC}{kvs:List (List aR×V)} (e:H a=Qq (.dT kvs)):fz K H (.ref a) (.type "dict")
 |ins {a C dx:QC}{fs:List (QD×V)} (e:H a=Qq (.ins C dx fs)) (cl:jB K C) (ha:QX K (.ref C) "__class__" = Qq (Qq (.builtin "object.__class__")))
  (hn:R0 K (.builtin "object.__class__") "__get__" = Qq (Qq (.builtin "getset_descriptor.__get__"))) (htk:Tv K (.builtin "object.__class__")=Qq Qr)
  (hm:UT K C (.type "object")=Qq Qr):fz K H (.ref a) (.ref C)
theorem Of(I:aD X v W H s)(f:aM x u)(M:fz X.K H x t)(e:Ro X.K t c=Qq b)(h:∀L,Q (.bool b) {s with toks:=L}):
 QI (QJ X.prog X.w) A (call (.builtin "isinstance") [u,c]) Q E s:=by
 cases M with
 |non=>cases (f);exact Rr PySem.W.kitx_none I.kIn RQ e (λz=>nomatch z) h
 |bl y=>cases (f);exact Rr PySem.W.kitx_bool I.kIn RQ e (λz=>nomatch z) h
 |int i=>obtain⟨t,q⟩:=(f);cases q;exact Rr PySem.W.kitx_int I.kIn RQ e (λz=>nomatch z) h
 |str y=>obtain⟨t,q⟩:=(f);cases q;exact Rr PySem.W.kitx_str I.kIn RQ e (λz=>nomatch z) h
 |flt y=>obtain⟨t,q⟩:=(f);cases q;exact Rr PySem.W.kitx_float I.kIn RQ e (λz=>nomatch z) h
 | @lst a m d =>
  cases (f);obtain⟨_,_,n,_,g⟩:=(I.hok a _ d);exact Rr Xg I.kIn ⟨_,g,rfl⟩ e (λz=>nomatch z) h
 | @frz a S m d =>
  cases (f);obtain⟨_,_,_,n,_,g⟩:=(I.hok a _ d);exact Rr Xg I.kIn ⟨_,g,rfl⟩ e (λz=>nomatch z) h
 | @tup a m d =>
  cases (f);obtain⟨_,_,_,p⟩:=(I.hok a _ d);obtain⟨o,g,j,_⟩:=p;exact Rr PySem.W.kitx_tuple I.kIn ⟨o,g,j⟩ e (λz=>nomatch z) h
 | @dK a l d =>
  cases (show u=QV a from f);obtain⟨_,_,U,_,p⟩:=(I.hok a _ d);obtain⟨o,B,w,g,j,_⟩:=p;exact Rr Xh I.kIn ⟨o,g,j.1⟩ e (λz=>nomatch z) h
 | @dT a l d =>
  cases (show u=QV a from f);obtain⟨_,_,m,_,o,B,w,g,j,_⟩:=(I.hok a _ d);exact Rr Xh I.kIn ⟨o,g,j.1⟩ e (λz=>nomatch z) h
 | @ins a C N P d r D G k F =>
  cases (f);obtain⟨R,O,_⟩:=tT I.hok d;obtain⟨T,J,_⟩:=O.look;exact Rr (PySem.W.kitx_own (r.get _) r.hd D G k F) I.kIn J e (λz=>nomatch z) h
end
structure cb(q:Bool)(k:Nat)(A:RT):Prop where
 hd:q=Qr->A.handled=Qs
 dp:A.depth+3*k+5<WW
 un:A.units+16*k+200<Rq
noncomputable abbrev cV:=cb Qr
theorem cb.mono(r:cb q k A)(h:j<=k):cb q j A:=⟨r.hd,by have:=r.dp;omega,by have:=r.un;omega⟩
theorem cb.deeper(r:cb q (k+1) A)(a:X9):cb q k (A.deeper a) :=
 ⟨r.hd,by have:=r.dp;show A.depth+1+3*k+5<_;omega,by have:=r.un;show A.units+3+16*k+200<_;omega⟩
theorem cb.in1(r:cb q (k+1) A):cb q k A.in1 :=
 ⟨r.hd,by have:=r.dp;show A.depth+3*k+5<_;omega,by have:=r.un;show A.units+1+16*k+200<_;omega⟩
theorem O6{A:RT}:(A.under (.builtin "type.__call__" ⟨.ref C::b,a⟩)).depth=A.depth+1:=by
 rfl
theorem Oo{A:RT}:(A.under (.builtin "type.__call__" ⟨.ref C::b,a⟩)).units=A.units+1:=by
 rfl
theorem cb.make(r:cb q (k+1) A)(C:QC)(b:List Qz)(a:List (QD×Qz)):cb q k (A.under (.builtin "type.__call__" ⟨.ref C::b,a⟩)) :=
 ⟨r.hd,by have:=r.dp;rw[O6];omega,by have:=r.un;rw[Oo];omega⟩
theorem cb.depth(r:cb q k A):A.depth<WW:=by have:=r.dp;omega
theorem cb.units(r:cb q k A):A.units+64<Rq:=by have:=r.un;omega
noncomputable def nJ:TA:=λ_ H Q=>Q [] H
noncomputable def lL(d:TE)(e:TA):TA:=λa H Q=>d a H λx b=>e a b λf c=>Q (x::f) c
section
theorem zEl:PA X [] nJ:=λ_ ω ω ω H Q I h=>XH ⟨[],H,I,.nil,h⟩
theorem zCc(k:PE X e v)(l:PA X b t)(m:autoParam (Qy (e::b) X.env=(Qv,eval e X.env)::Qy b X.env) A10._auto_1):PA X (e::b) (lL v t):=by
 intro c a s d H Q I h;rw[m];refine Xu (bt (k a s d H _ I h) λu r ⟨x,f,i,p,n⟩=>?_);exact bt (l c a r d f _ i n) λz y ⟨w,g,j,q,o⟩=>⟨x::w,g,j,.cons p q,o⟩
noncomputable def Ae(t:TA):TE:=λc H Q=>t c H λb a=>b.length<=QG/\∀p,a p=Qs->Q (.ref p) (upd a p (.tup b))
noncomputable def yK(t:TA):TE:=λc H Q=>t c H λb a=>b.length<=QG/\∀p,a p=Qs->Q (.ref p) (upd a p (.lst b))
theorem yDq(h:PA X i t):PE X (.Tuple i o c) (Ae t):=by
 intro a s n H Q I k;refine wpAny_Tuple_spliced (bt (h c a s n H _ I k) λl f ⟨m,g,d,r,z,q⟩=>⟨by rw[<- r.length];exact z,?_⟩);have j:=d.hok.fresh (Z3 _);refine⟨.ref f.heap.objs.size,upd g f.heap.objs.size (.tup m),d.laid (λb u e=>Z1 _ e) (Z3 _) ?_,rfl,q _ j⟩;exact⟨z,l,r,⟨_,Z5 _ rfl,rfl,_,rfl⟩⟩
theorem zY5(h:PA X i t):PE X (.List i c) (yK t):=by
 intro a s n H Q I k;refine wpAny_List_spliced (bt (h c a s n H _ I k) λl f ⟨m,g,d,r,z,q⟩=>⟨by rw[<- r.length];exact z,?_⟩);have j:=d.hok.fresh (Z3 _);refine⟨.ref f.heap.objs.size,upd g f.heap.objs.size (.lst m),d.laid (λb u e=>Z1 _ e) (Z3 _) ?_,rfl,q _ j⟩;exact⟨z,l,0,r,Z5 _ rfl⟩
end
noncomputable abbrev Sp:=List V->Hp->VK->XK->Prop
noncomputable abbrev jw:=List X9->Hp->QF->XK->Qz->QF->Prop
structure jJ(P:QW)(w:Rm)(K:aV)(mg:QD->Option Qz)(base:RS)(A:RT)(outer:List X9)(s:QF)(H:Hp):Prop where
 frames:A.frames=Qq outer
 mod:Mod K mg base
 bs:∀b o,base.get? b=Qq o->s.heap.get? b=Qq o/\H b=Qs
 bsz:base.objs.size<=s.heap.objs.size
 funs:s.heap.FunFrames base outer
 frf:∀b∈j0 outer,H b=Qs
 hok:fC P w H s.heap
 bare:U7 s.gens
noncomputable def CE(a:List X9)(P:QW)(w:Rm)(H:Hp)(s:QF)(Q:VK)(u:Qz)(b:QF):Prop :=
 ∃v c,b.os=s.os/\U7 b.gens/\Un (j0 a) [] H c s.heap b.heap/\fC P w c b.heap/\aM v u/\Q v c
noncomputable def CR(c:jw)(a:List X9)(P:QW)(w:Rm)(H:Hp)(s:QF)(Q:VK)(E:XK)(r:Result)(b:QF):Prop :=
 match r with
 | .ok (.ret u)=>CE a P w H s Q u b
 | .ok _=>False
 | .error e=>c a H s E e b
structure j6(q:Bool)(P:QW)(w:Rm)(K:aV)(mg:QD->Option Qz)(base:RS)(CX:jw)(k:Nat)(f:QC)(fd:RE)(ps:List QD)(sp:Sp):Prop where
 len:∀vs H Q E,sp vs H Q E->vs.length=ps.length
 run:∀(A:RT) (outer:List X9) (s:QF) (H:Hp) (args:Args) (us:List Qz) (vs:List V) (Q:VK) (E:XK),cb q k A->jJ P w K mg base A outer s H->WT s fd args (ps.zip us)->aG vs us->sp vs H Q E ->
  SW (QJ P w) A (.call (.ref f) args) (CR CX outer P w H s Q E) s
noncomputable abbrev c7:=j6 Qr
theorem c7.mono{K:aV}(F:c7 P w K g c CX j f d i sp)(h:j<=k):
 c7 P w K g c CX k f d i sp:=⟨F.len,λA a s H b l m Q E e=>F.run A a s H b l m Q E (e.mono h)⟩
theorem c7.imp{K:aV}(F:c7 P w K o d CX k f g p sp)
 (h:∀b H Q E,e b H Q E->sp b H Q E):c7 P w K o d CX k f g p e :=
 ⟨λb H Q E q=>F.len b H Q E (h _ _ _ _ q),λA a s H c r b Q E l j i n m=>F.run A a s H c r b Q E l j i n (h _ _ _ _ m)⟩
theorem jJ.make{K:aV}(e:jJ P w K d b A a s H)(C:QC)(f:List Qz)(c:List (QD×Qz)):
 jJ P w K d b (A.under (.builtin "type.__call__" ⟨.ref C::f,c⟩)) a s H:=⟨by first|exact e.frames|rfl,e.mod,e.bs,e.bsz,e.funs,e.frf,e.hok,e.bare⟩
section
theorem aD.env0(I:aD X a b H s):jJ X.prog X.w X.K X.mg X.base X.A X.stack s H :=
 ⟨I.ok.frames,I.ok.mod,I.bs,Z9 I.ok.bsz I.sz,I.stack,I.stkFree,I.hok,I.bare⟩
theorem aD.after(I:aD X c l H s)(h:CE X.stack X.prog X.w H s Q u i):EP X c l Q u i:=by
 obtain⟨v,j,os,a,k,e,r,q⟩:=h;obtain⟨m,g,d,t,f⟩:=i;obtain rfl:f=s.os:=os;exact⟨v,j,I.call k e a (λb z=>absurd z (by simp)),r,q⟩
end
noncomputable def qL(d:Sp)(a:List V)(E:St->XK)(t:TA):TE:=λb H Q=>t b H λe c=>d (e++a) c Q (E b)
noncomputable def rN(C:QC)(f:Sp)(c:List V)(E:St->XK)(t:TA):TE:=λd H Q=>t d H λg b=>∀x a,b x=Qs->b a=Qs->a≠x ->
 f (.ref x::(g++c)) (upd (upd b a (.own x)) x (.ins C a [])) (λv e=>v=.non/\Q (.ref x) e) (E d)
noncomputable def cI(K:aV)(d:RE)(c:List QD)(b:List Qz):Prop :=
 ∀(s:QF) (a:List Qz),K.In s.heap->(a++b).length=c.length->WT s d ⟨a,[]⟩ (c.zip (a++b))
theorem cI.all{K:aV}(h:∀a ,a.length=c.length->T7 d ⟨a,[]⟩=pure (c.zip a)):cI K d c []:=λs a ω b=>by
 rw[QP]at b ⊢;exact .of_eq (h a b)
noncomputable def fx(d:jw)(X:Cx)(E:St->XK):Prop:=∀(a:List (QC×Ts)) (c:St) (H:Hp) (s:QF) (e:Qz) (b:QF),aD X a c H s->d X.stack H s (E c) e b->X.xe e b
section
theorem yb(F:j6 q X.prog X.w X.K X.mg X.base j k f l g x)(t:cb q k X.A)(n:cI X.K l g d)(o:aG dvs d)(v:fx j X E)
 (I:aD X a c H s) (r:aG vs us) (h:x (vs++dvs) H Q (E c)):QI (QJ X.prog X.w) X.A (call (.ref f) us) (EP X a c Q) X.xe s:=by
 have i:=r.append o;have p:(us++d).length=g.length:=by rw[<- i.length];exact F.len _ _ _ _ h
 refine VP (Sv (F.run X.A X.stack s H ⟨us,[]⟩ (us++d) (vs++dvs) Q (E c) t I.env0 (n s us I.kIn p) i h) λr w b=>?_);cases r with
 |error e=>exact v a c H s e w I b
 |ok m =>
  cases m with
  |ret u=>exact I.after b
  |next=>exact RF b
  |brk=>exact RF b
  |cont=>exact RF b
theorem yA4(F:j6 q X.prog X.w X.K X.mg X.base j k f m C D)(A:cb q k X.A)(w:Gl X x)(z:X.mg x=Qq (.ref f))(y:Rk X.K (.ref f)=Qr)(o:cI X.K m C l)(u:aG dvs l)(B:fx j X E)
 (n:PA X (e::c) t) (d:autoParam ((x==("__debug__"))=Qv) A11._auto_1) (v:autoParam (Qy (e::c) X.env=(Qv,eval e X.env)::Qy c X.env) A10._auto_1) (g:autoParam ((Rc b (Qy c X.env)).any (·.1)=Qv) A10._auto_1) :
 PE X (.Call (.Name x p) (e::c) [] b) (qL D dvs E t):=by
 intro a s G H Q I h;refine Te (BA I w z ?_ d);refine U5 I.ok.mod.kin y (bt (n b a s G H _ I h) λM L ⟨N,J,i,r,q⟩=>⟨i.kIn,?_⟩) v g;exact yb F A o u B i r q
structure Mk(K:aV)(C f:QC):Prop where
 makes:Uu K C=Qr
 init:QX K (.ref C) "__init__" = Qq (Qq (.ref f))
 fn:R1 K (.ref f)=Qr
 kp:Rk K (.ref C)=Qr
theorem Kv(M:Mk X.K C f)(F:c7 X.prog X.w X.K X.mg X.base p k f z m R)(J:cV (k+1) X.A)(B:cI X.K z m g)(D:aG c g)
 (L:fx p X E) (I:aD X b j H s) (r:aG o us)
 (h:∀x i,H x=Qs->H i=Qs->i≠x->R (.ref x::(o++c)) (upd (upd H i (.own x)) x (.ins C i [])) (λv t=>v=.non/\Q (.ref x) t) (E j)) :
 QI (QJ X.prog X.w) X.A (call (.ref C) us) (EP X b j Q) X.xe s:=by
 have l:=h (s.heap.objs.size+1) s.heap.objs.size (I.hok.fresh (Yv _)) (I.hok.fresh (Z3 _)) (by simp_all);have d:=aD.made (C:=C) I;have n:aG (V.ref (s.heap.objs.size+1)::(o++c)) (QV (s.heap.objs.size+1)::(us++g)):=.cons rfl (r.append D);have G:(QV (s.heap.objs.size+1)::us++g).length=m.length:=by
  have e:=n.length;rw[F.len _ _ _ _ l]at e;exact e.symm
 refine VP (HW I.kIn M.makes M.init (beq_iff_eq.mp M.fn) (Sv (F.run _ X.stack _ _ ⟨QV (s.heap.objs.size + 1) :: us,[]⟩ (QV (s.heap.objs.size + 1) :: (us++g)) _ _ (E j) (J.make C us [])
  (d.env0.make C us []) (B _ (QV (s.heap.objs.size+1)::us) d.kIn G) n l) λr P a=>?_))
 cases r with
 |error e=>exact L b j _ _ e P d a
 |ok A =>
  cases A with
  |ret u =>
   obtain⟨v,q,w,O,y,N⟩:=d.after a;subst y;exact⟨O,⟨V.ref (s.heap.objs.size+1),q,w,rfl,N⟩⟩
  |next=>exact RF a
  |brk=>exact RF a
  |cont=>exact RF a
theorem yA0(M:Mk X.K C f)(F:c7 X.prog X.w X.K X.mg X.base l k f n D G)(A:cV (k+1) X.A)(y:Gl X x)(z:X.mg x=Qq (.ref C))(u:cI X.K n D m)(v:aG d m)(B:fx l X E)
 (o:PA X (e::c) t) (g:autoParam ((x==("__debug__"))=Qv) A11._auto_1) (w:autoParam (Qy (e::c) X.env=(Qv,eval e X.env)::Qy c X.env) A10._auto_1) (i:autoParam ((Rc b (Qy c X.env)).any (·.1)=Qv) A10._auto_1) :
 PE X (.Call (.Name x p) (e::c) [] b) (rN C G d E t):=by
 intro a s J H Q I h;refine Te (BA I y z ?_ g);refine U5 I.ok.mod.kin M.kp (bt (o b a s J H _ I h) λO N ⟨P,L,j,r,q⟩=>⟨j.kIn,?_⟩) w i;exact Kv M F A u v B j r q
end
section
end
structure eF(N P:List QD)(sc:TH):Prop where
 kind:sc.kind=.function
 co:sc.isCoroutine=Qv
 gen:sc.isGenerator=Qv
 nd:N.Nodup
 pre:N.take P.length=P
 par:∀x∈P,sc.names.lookup x=Qq .local\/sc.names.lookup x=Qq .cell
 nofree:∀y∈sc.names,y.2≠.free
theorem F3{kindOf:QD->Option W9}:∀ {a:List (QD×Qz)}{m:QD->Option Qz},(∀v,(x,v)∉a)->YA kindOf a m x=m x
 |[],_,_=>rfl
 |(n,v)::r,m,h=>by
  unfold YA;rw[F3 λw b=>h w (Z4 _ b)];split
  ·have:x≠n:=by rintro rfl;exact h v Za
   simp[this]
  ·rfl
theorem Fz{kindOf:QD->Option W9}:∀ {a:List (QD×Qz)}{m:QD->Option Qz},(∀v,(x,v)∉a)->YB kindOf a m x=m x
 |[],_,_=>rfl
 |(n,v)::r,m,h=>by
  unfold YB;rw[Fz λw b=>h w (Z4 _ b)];split
  ·rfl
  ·have:x≠n:=by rintro rfl;exact h v Za
   simp[this]
theorem FN{kindOf:QD->Option W9}:∀ {P:List QD}{a:List Qz}{i:Nat}{m:QD->Option Qz},P.Nodup->P[i]?=Qq x->a[i]?=Qq v->kindOf x=Qq .local ->
 YA kindOf (P.zip a) m x=Qq v
 |[],_,_,_,_,h,_,_=>by simp at h
 |_::_,[],_,_,_,_,h,_=>by simp at h
 |p::P,w::a,0,m,e,b,c,d=>by
  simp at b c;subst b;subst c;show YA kindOf ((p,w)::P.zip a) m p=_;unfold YA;rw[F3 λv f=>(QZ.mp e).1 (UL f).1,if_pos d];simp
 |p::P,w::a,i+1,m,e,b,c,d=>by
  unfold YA;exact FN (QZ.mp e).2 (by simpa using b) (by simpa using c) d
theorem BS{kindOf:QD->Option W9}:∀ {P:List QD}{a:List Qz}{i:Nat}{m:QD->Option Qz},P.Nodup->P[i]?=Qq x->a[i]?=Qq v->kindOf x≠Qq .local ->
 YB kindOf (P.zip a) m x=Qq v
 |[],_,_,_,_,h,_,_=>by simp at h
 |_::_,[],_,_,_,_,h,_=>by simp at h
 |p::P,w::a,0,m,e,b,c,d=>by
  simp at b c;subst b;subst c;show YB kindOf ((p,w)::P.zip a) m p=_;unfold YB;rw[Fz λv f=>(QZ.mp e).1 (UL f).1,if_neg d];simp
 |p::P,w::a,i+1,m,e,b,c,d=>by
  unfold YB;exact BS (QZ.mp e).2 (by simpa using b) (by simpa using c) d
noncomputable def eX(N:List QD)(a:List V):St:=a.map Qq++QE (N.length-a.length) Qs
noncomputable def iz(q:Bool)(i:jw)(P:QW)(w:Rm)(K:aV)(k:QD->Option Qz)(g:RS)(N:List QD)(c:QD)(a:TH)(f:QC)(h:Qz)(A:RT)(b:List X9)(s:QF)(H:Hp)(E:XK):Cx where
 prog:=P
 w:=w
 K:=K
 mg:=k
 base:=g
 A:=A.deeper (Ur c a s.heap.objs.size f h)
 N:=N
 s₀:=s
 H₀:=H
 env:=Ur c a s.heap.objs.size f h
 outer:=b
 stack:=Ur c a s.heap.objs.size f h::b
 ex:=[]
 calm:=q
 fn:=λ_=>Qr
 pn:=[]
 xe:=λe l=>QI (QJ P w) (A.deeper (Ur c a s.heap.objs.size f h)) (leaving (Ur c a s.heap.objs.size f h) e) (λ_ d=>i b H s E e d) (λj d=>i b H s E j d) l
noncomputable abbrev so:=iz Qr
theorem Ck{a:TH}(h:a.names.lookup x=Qq .cell):∃c,(cellsFrom n a.names []).lookup x=Qq c:=by
 have q:=Wq a.names n [] (.inl h);exact RH.mp q
theorem Nq{K:aV}(S:eF N o a)(T:q=Qr->A.handled=Qs)(j:jJ P w K M m A d s H)(Z:D.length=o.length)(r:aG D O)
 (x:InCallC s s.heap.objs.size (YA (Ur g a s.heap.objs.size f I).kindOf (o.zip O) λ_=>Qs) (cellsFrom (s.heap.objs.size+1) a.names []) (YB (Ur g a s.heap.objs.size f I).kindOf (o.zip O) λ_=>Qs) X) :
 aD (iz q Q P w K M m N g a f I A d s H E) [] (eX N D) H X:=by
 have U:o.length<=N.length:=by have:=congrArg Rh S.pre;rw[Zu]at this;omega
 obtain⟨F,tk,rfl,J⟩:=x.done;have n:∀b ,b∉(iz q Q P w K M m N g a f I A d s H E).ex:=λb z=>absurd (show b∈([])from z) (by simp)
 refine ⟨⟨j.mod,S.kind,rfl,rfl,Z3 _,λy z c F l=>?_,λy B=>?_,λy c ω h=>?_,T,Around.frames_deeper j.frames,.inr ⟨rfl,rfl⟩,λb z=>absurd z (n b),j.bs,j.bsz,λb ω ω=>n b,λb z=>absurd z (n b),j.funs,j.frf⟩,
  rfl,j.bare,Un.kept J,⟨_,x.toInCall.ns,λi y v F l Y=>?_⟩,λy c h=>⟨_,x.cell y c h⟩,j.hok.fresh (Z3 _),λy c h=>?_,λp t=>absurd (show p∈([])from t) (by simp),j.hok.kept J,?_⟩
 ·exact name_of_addr x.apart (SJ F) (SJ l)
 ·rcases B with B|B
  ·exact Ck B
  ·exact absurd rfl (S.nofree _ (SJ B))
 ·exact Ys (x.above y c (SJ h))
 ·have G:i<D.length:=by
   unfold eX at l;by_cases G:i<D.length
   ·exact G
   ·rw[Zm (by simpa using G)]at l;rw[Sa]at l;split at l<;>cases l
  have R:D[i]?=Qq v:=by
   unfold eX at l;rw[Zi (by simpa using G),Zk]at l
   simp_all
  obtain⟨u,L,W⟩:=r.get R;have t:o[i]?=Qq y:=by
   rw[<- S.pre,Yd (by omega)];exact F
  have C:o.Nodup:=by rw[<- S.pre];exact S.nd.sublist (List.take_sublist _ _)
  refine⟨u,W,?_⟩;rcases S.par y (Ze t)with k|k
  ·exact .inl ⟨k,FN C t L k⟩
  ·obtain⟨c,e⟩:=Ck k;refine .inr ⟨.inl k,c,e,?_⟩;have q:=x.cell y c e;rw[BS C t L (by show a.names.lookup y≠_;rw[k];decide)]at q;exact q
 ·exact j.hok.fresh (Ys (x.above y c (SJ h)))
 ·unfold eX;show _=N.length
  simp_all
theorem yW{K:aV}{dV kV F pm g ct oc:Qz}(lk:K.lookup f=Qq ⟨oc,od,.func (Q0 R d i p a dV kV F pm an g ct),ac⟩)(U:Ry K g d=Qr)(S:eF N Z a)
 (O:∀j H Q E,sp j H Q E->j.length=Z.length)
 (B:∀  A   c   s   H   j   Q   E ,cb q k (A.deeper (Ur d a s.heap.objs.size f g))->sp j H Q E ->
  ∃t,PSs (iz q T P w K Y h N d a f g A c s H E) p t/\t {nx:=λ_ m=>Q .non m,rt:=Q} (eX N j) H) :
 j6 q P w K Y h T (k+1) f (Q0 R d i p a dV kV F pm an g ct) Z sp:=by
 refine⟨O,λA c s H aa us j Q E W G hb r M=>?_⟩;have hl:=O _ _ _ _ M;have KX:=G.mod.kin.keeps λb o e=>(G.bs b o e).1;have X:=G.mod.nolimit.keeps λb o e=>(G.bs b o e).1;have C:∀y∈Z.zip us,a.names.lookup y.1=Qq .local\/(a.names.lookup y.1=Qq .cell/\((cellsFrom (s.heap.objs.size+1) a.names []).lookup y.1).isSome=Qr):=λ⟨n,v⟩ hy=>by
  rcases S.par n (UL hy).1 with q|q
  ·exact .inl q
  ·exact .inr ⟨q,Wq _ _ _ (.inl q)⟩
 refine codeAny_call_function W.depth (KX _ _ lk) rfl S.co S.gen rfl (PySem.W.codeRec_of KX U) (hb _ _ _ _ ?_);refine wpAny_newFunctionEnv_cells S.kind C λab he s1 x=>?_;subst he;refine⟨X.keeps x.toInCall.keep,codeAny_func ?_⟩;obtain⟨t,ht,hq⟩:=B A c s H j Q E (W.deeper _) M;have I:aD (iz q T P w K Y h N d a f g A c s H E) [] (eX N j) H s1:=Nq S W.hd G hl r x;refine RL (ht [] s1 (eX N j) H _ I hq) (λfl s' D=>?_) λe s' D=>D;have L:∀ {l:St}{m:Hp}{v:V}{u:Qz},aD (iz q T P w K Y h N d a f g A c s H E) [] l m s'->aM v u->Q v m->CE c P w H s Q u s' :=
  fun {l m v u} J rv z=>⟨v,m,J.os,J.bare,J.base,J.hok,rv,z⟩
 cases fl with
 |ret u =>
  obtain⟨v,l,m,J,rv,q⟩:=D;exact L J rv q
 |next =>
  obtain⟨l,m,J,q⟩:=D;exact L (v:=V.non) J rfl q
 |brk =>
  obtain⟨_,_,_,q⟩:=D;exact RF q
 |cont =>
  obtain⟨_,_,_,q⟩:=D;exact RF q
section
variable {id T:String}
noncomputable def u4(r:List V->Hp->VK->Prop)(t:TA):TE:=λc H Q=>t c H λb a=>r b a Q
theorem zCp(l:bL X (.builtin id) r)(n:Gl X x)(o:X.mg x=Qs)(u:RN x=Qq (.builtin id))(k:PA X (e::c) t)(q:autoParam (x≠"__name__") A11._auto_1)(d:autoParam ((x==("__debug__"))=Qv) A11._auto_1)
 (m:autoParam (Qy (e::c) X.env=(Qv,eval e X.env)::Qy c X.env) A10._auto_1) (f:autoParam ((Rc b (Qy c X.env)).any (·.1)=Qv) A10._auto_1):PE X (.Call (.Name x p) (e::c) [] b) (u4 r t):=by
 intro a s g H Q I h;refine Te (pI I n o u ?_ q d);exact Zbl (bt (k b a s g H _ I h) λz y ⟨A,i,j,w,v⟩=>l a y g i A z Q j w v) m f
theorem zHb(l:bL X (.type T) r)(n:Gl X x)(o:X.mg x=Qs)(u:RN x=Qq (.type T))(k:PA X (e::c) t)(q:autoParam (x≠"__name__") A11._auto_1)(d:autoParam ((x==("__debug__"))=Qv) A11._auto_1)
 (m:autoParam (Qy (e::c) X.env=(Qv,eval e X.env)::Qy c X.env) A10._auto_1) (f:autoParam ((Rc b (Qy c X.env)).any (·.1)=Qv) A10._auto_1):PE X (.Call (.Name x p) (e::c) [] b) (u4 r t):=by
 intro a s g H Q I h;refine Te (pI I n o u ?_ q d);exact Si (bt (k b a s g H _ I h) λz y ⟨A,i,j,w,v⟩=>l a y g i A z Q j w v) m f
end
end L2
namespace HT
open PySem PyProof.Rows
section
open PySem.SeqAt
open PySem.AutoSeq1 (wpAny_loadPart')
open PySem.MeetsSeq PySem.MeetsSeq2 PySem.MeetsSeq3
end
section
theorem cat_tup(F:WD s.heap t d.toArray)(z:WD s.heap b c.toArray)(p:d≠[])
 (x:c=[]->Q (.ref t) s) (y:c≠[]->Q (.ref s.heap.objs.size) {s with heap:=s.heap.push {cls:=.type "tuple",data:=.seq (d++c).toArray}})
 (D:d.length+c.length<=QG):QI (QJ r w) A (Ru .Add (.ref t) (.ref b)) Q E s:=by
 obtain⟨⟨v,o,m,u⟩,h,B,n,C⟩:=id F;obtain⟨⟨l,f,data2,g⟩,a,j,q,k⟩:=id z;subst B C j k;have e:d.toArray++c.toArray=(d++c).toArray:=by simp
 by_cases i:c=[]
 ·exact XR ⟨_,h,rfl⟩ ⟨_,a,rfl⟩ Wj Xo Us Um (Ui _ _)
   (tuple_addW1 t b d.toArray c.toArray n q o f u g (by simpa using p) (by simp[i])) ⟨h,a,x i⟩
 ·refine XR ⟨_,h,rfl⟩ ⟨_,a,rfl⟩ Wj Xo Us Um (Ui _ _)
   (tuple_addW2 t b d.toArray c.toArray n q o f u g (by simpa using p) (by simpa using i) (by omega)) ⟨h,a,?_⟩
  rw[e];exact y i
noncomputable def sIx(n d:Nat):Option Int->Nat
 |none=>d
 |some v=>if v<0 then(v+(n:Int)).toNat else min v.toNat n
theorem xH(n d:Nat)(b:d<=n)(o:Option Int):sIx n d o<=n:=by
 cases o with
 |none=>exact b
 |some v =>
  show(if v<0 then(v +  n ).toNat else min v.toNat n)<=n;by_cases a:v<0
  ·rw[if_pos a];omega
  ·rw[if_neg a];exact Tw _ _
theorem Ei(v:Int)(n d:Nat):(if v<0 then max (v +  n ) 0 else min v  n )=((sIx n d (Qq v))):=by
 show(if v<0 then max (v+(n:Int)) 0 else min v (n:Int))=(((if v<0 then(v +  n ).toNat else min v.toNat n)))
 grind
theorem HV(lo a:Option Int)(n:Nat):Tz lo a 1  n  = (((sIx n 0 lo):Int),((sIx n n a):Int)):=by
 have b:¬((1)<0):=by omega
 unfold Tz;refine Prod.ext ?_ ?_
 ·cases lo with
  |none=>rfl
  |some v=>exact Ei v n 0
 ·cases a with
  |none=>rfl
  |some v=>exact Ei v n n
theorem Hr(i j:Nat):So  i   j  1=j-i:=by
 unfold So
 grind
theorem CI(p:Wv v o)(h:Q o s):QI (QJ a w) A (Zar v) Q E s:=by
 cases p with
 |none=>exact slicePart_none h
 |int i t=>exact slicePart_int h
theorem IB{lo b:Option Int}{Q:Int×Int×Nat->QF->Prop}(i:s.heap.IsSliceOf l e f .none)(j:Wv e lo)(k:Wv f b)
 (h:Q (((sIx n 0 lo)),1,sIx n n b-sIx n 0 lo) s):QI (QJ d w) A (Zas (.ref l) (pure  n )) Q E s:=by
 obtain⟨os,c,g,a⟩:=id i;refine Qt (Qt (Yy c a (x:=e) rfl (Qt (Yy c a (x:=f) rfl (Qt (Yy c a rfl (QB ?_)))))));refine Qt (slicePart_none ?_);rw[if_neg (by decide)];refine Qt (CI j (Qt (CI k (Qt (QB ?_)))));show QI _ _ (match Tz lo b 1  n  with|(lo,b)=>pure (lo,(1:Int),So lo b 1)) _ _ s;rw[HV lo b n];show QI _ _ (pure (((sIx n 0 lo:Nat):Int),(1),So ((sIx n 0 lo)) ((sIx n n b)) 1)) _ _ s;rw[Hr];exact QB h
theorem OC(a:Array Qz)(i k:Nat):((Q7 k).filterMap λ(m:Nat)=>a[( i  + (m:Int)*1).toNat]?).toArray=((a.toList.drop i).take k).toArray:=by
 have e:(λ(m:Nat)=>a[( i  + (m:Int)*1).toNat]?)=λm=>a[i+m]?:=by
  funext m;have:( i  + (m:Int)*1).toNat=i+m:=by omega
  rw[this]
 rw[e];have:=pick_run a i k;rw[Yi]at this;have b:((λx=>a[x]?) ∘ λx=>i+x)=λm=>a[i+m]?:=rfl;rw[b]at this;rw[this]
theorem getItem_tuple_cut{lo b:Option Int}(d:WD s.heap t a)(j:s.heap.IsSliceOf l q r .none)(o:Wv q lo)(p:Wv r b)
 (u:¬(sIx a.size 0 lo=0/\sIx a.size a.size b=a.size))
 (h:Q (.ref s.heap.objs.size) {s with heap:=s.heap.push {cls:=.type "tuple",data:=.seq ((a.toList.drop (sIx a.size 0 lo)).take (sIx a.size a.size b-sIx a.size 0 lo)).toArray}})
 (n:a.size<=QG):QI (QJ k w) A (Vv (.ref t) (.ref l)) Q E s:=by
 have c:sizeOk (.seq ((a.toList.drop (sIx a.size 0 lo)).take (sIx a.size a.size b-sIx a.size 0 lo)).toArray):=by
  show((a.toList.drop (sIx a.size 0 lo)).take (sIx a.size a.size b-sIx a.size 0 lo)).toArray.size<=QG;rw[Zn,Zu,Y7,Yo];omega
 obtain⟨os,i,f,m⟩:=id j;have e:s.TypeIs (.ref l) "slice":=⟨os,i,f⟩;unfold Vv
 try with_reducible refine Q8 ?_
 first|refine Qt (QB ?_)|skip
 refine Qt (wpAny_sequenceKey d.typeIs (by decide) ?_)
 refine Qt (wpAny_callSpecial?_slot d.typeIs SV
  (TN SV d.typeIs entry_tuple_getitem ?_ (args_tuple_getitem _ _)))
 show QI _ _ (Zaq (.ref t) >>= _) _ _ s;refine Qt (tupleItemsOf_ d ?_);refine Qt (XM e ?_);rw[if_pos (by decide)];refine Qt (IB j o p ?_);have g:¬((((sIx a.size 0 lo:Nat):Int)==0&&(1:Int)==1&&(sIx a.size a.size b-sIx a.size 0 lo)==a.size)=Qr):=by
  simp_all
 show QI _ _ (if(((sIx a.size 0 lo):Int)==0&&(1)==1&&(sIx a.size a.size b-sIx a.size 0 lo)==a.size)=Qr then _ else _) _ _ s;rw[if_neg g,OC]
 first
  |exact Qt (ZJ (QB ⟨_,rfl,QB h⟩) c)
  |grind
  |omega
  |simp_all
end
end HT
namespace L2
open PySem PySem.Spec PyProof.Rows
noncomputable abbrev TO:=St->Hp->(Option Int->Hp->Prop)->Prop
noncomputable def PO(X:Cx)(e:Option Rx)(t:TO):Prop :=
 ∀(a:List (QC×Ts)) (s:QF) (b:St) (H:Hp) (Q:Option Int->Hp->Prop),aD X a b H s->t b H Q ->
  QI (QJ X.prog X.w) X.A (evalPart e X.env) (λu d=>∃o c,aD X a b c d/\Wv u o/\Q o c) X.xe s
noncomputable def mW:TO:=λ_ H Q=>Q Qs H
noncomputable def tm(t:TE):TO:=λb H Q=>t b H λx a=>∃i,x=.int i/\Q (Qq i) a
section
variable {lo hi:Option Rx}
theorem zZt:PO X Qs mW:=by
 intro a s b H Q I h;rw[UH];exact QB ⟨Qs,H,I,.none,h⟩
theorem zZs(h:PE X e j):PO X (Qq e) (tm j):=by
 intro a s k H Q I d;rw[UG];refine bt (h a s k H _ I d) λu l ⟨x,b,c,g,f⟩=>?_;obtain⟨i,rfl,q⟩:=f;obtain⟨t,rfl⟩:=g;exact⟨Qq i,b,c,.int i t,q⟩
noncomputable def md(X:Cx)(r:V->Option Int->Option Int->Hp->VK->Prop):Prop :=
 ∀(a:List (QC×Ts)) (s:QF) (e:St) (H:Hp) (x:V) (v c d:Qz) (lo hi:Option Int) (b:QC) (Q:VK),aD X a e H s->aM x v->s.heap.IsSliceOf b c d .none->Wv c lo->Wv d hi->r x lo hi H Q ->
  ∃T id,YX (.type T) "__getitem__" = pure (Qq (.builtin id))/\s.TypeIs v T/\QI (QJ X.prog X.w) X.A (Vv v (.ref b)) (EP X a e Q) X.xe s
theorem md.or(h:md X r)(k:md X l):md X (λx lo hi H Q=>r x lo hi H Q\/l x lo hi H Q):=by
 intro a s j H x v g i lo hi f Q I e b c d q;rcases q with q|q
 ·exact h a s j H x v g i lo hi f Q I e b c d q
 ·exact k a s j H x v g i lo hi f Q I e b c d q
noncomputable def Og(r:V->Option Int->Option Int->Hp->VK->Prop)(e:TE)(g f:TO):TE:=λa H Q=>e a H λx b=>g a b λl c=>f a c λu d=>r x l u d Q
theorem zVe(A:md X r)(w:PE X e P)(z:PO X lo S)(C:PO X hi R):PE X (.Subscript e (.Slice lo hi Qs W) E) (Og r P S R):=by
 intro a s d H Q I h;refine U3 (bt (w a s d H _ I h) λv N ⟨x,j,m,M,G⟩=>?_);refine Wx (bt (z a N d j _ m G) λf O ⟨l,k,n,D,J⟩=>bt (C a O d k _ n J) λg c ⟨u,i,o,F,L⟩=>?_);rw[UH];refine QB ?_;have p:aD X a d i {c with heap:=c.heap.push {cls:=.type "slice",data:=.fields #[f,g,.none]}}:=o.kept λb U q=>Z1 _ q;obtain⟨T,id,t,B,y⟩:=A a {c with heap:=c.heap.push {cls:=.type "slice",data:=.fields #[f,g,.none]}} d i x v f g l u c.heap.objs.size Q p M (Tp ..) D F L;exact V4 B t y (by with_unfolding_all rfl)
noncomputable def je(a:List V)(lo hi:Option Int):List V:=(a.drop (HT.sIx a.length 0 lo)).take (HT.sIx a.length a.length hi-HT.sIx a.length 0 lo)
theorem Bc(a:List V)(lo hi:Option Int):(je a lo hi).length<=a.length:=by
 unfold je;rw[Zu,Y7];omega
noncomputable def AQ(K:aV):V->Option Int->Option Int->Hp->VK->Prop:=λx lo hi H Q=>∃a b,x=.ref a/\gC K H a b /\
 ¬(HT.sIx b.length 0 lo=0/\HT.sIx b.length b.length hi=b.length)/\∀p,H p=Qs->Q (.ref p) (upd H p (.tup (je b lo hi)))
theorem LA:md X (AQ X.K):=by
 intro i s y H x v u w lo hi t Q I o j m n h;obtain⟨a,d,rfl,l,k,q⟩:=h;cases o;obtain⟨e,r,f,g⟩:=I.tuple l;have c:e.toArray.size=d.length:=by rw[Zn];exact r.length.symm
 refine⟨"tuple",_,SV.lookup,f.typeIs,?_⟩;refine HT.getItem_tuple_cut f j m n (by rw[c];exact k) ?_ (by rw[c];exact g);rw[c];refine⟨.ref s.heap.objs.size,_,I.laid (λb p q=>Z1 _ q) (Z3 _) ?_,rfl,q _ (I.hok.fresh (Z3 _))⟩;exact⟨Z9 (Bc d lo hi) g,_,(r.drop (HT.sIx d.length 0 lo)).take (HT.sIx d.length d.length hi-HT.sIx d.length 0 lo),X0 _ _⟩
theorem aG.nil_iff(r:aG a us):us=[] ↔ a=[]:=by
 cases r<;>simp_all
end
noncomputable def iS(n:Nat)(i:Int):Option Nat:=if 0<=i then(if i<n then Qq i.toNat else Qs)else if -(n:Int)<=i then Qq (i+n).toNat else Qs
noncomputable def fM{a:Type}(xs:List a)(i:Int):Option a:=(iS xs.length i).bind λj=>xs[j]?
theorem AK(h:iS n i=Qq j):seqIndex? i n=Qq j/\j<n/\- n<=i/\i<n:=by
 unfold iS at h;by_cases b:0<=i
 ·rw[if_pos b]at h;by_cases a:i<n
  ·rw[if_pos a]at h;have e:=Zr h;exact⟨by rw[Yz b a,e],by omega,by omega,a⟩
  simp_all
 ·rw[if_neg b]at h;by_cases a:- n<=i
  ·rw[if_pos a]at h;have e:=Zr h;exact⟨by rw[XQ (by omega) a,e],by omega,a,by omega⟩
  simp_all
theorem AM{v:g}(h:fM a i=Qq v):∃j,seqIndex? i a.length=Qq j/\a[j]?=Qq v/\j<a.length/\- a.length<=i/\i<a.length:=by
 unfold fM at h;cases e:iS a.length i with
 |none=>rw[e]at h;cases h
 |some j =>
  rw[e]at h;obtain⟨b,c,d,f⟩:=AK e;exact⟨j,b,h,c,d,f⟩
noncomputable def kh(b:Rx):Prop:=∀o i,Wy b Qv o i=operate [o,i] (Vv o i)
noncomputable def jN(X:Cx)(r:R2):Prop :=
 ∀(c a:Rx) (b:List (QC×Ts)) (s:QF) (d:St) (H:Hp) (x y:V) (v u:Qz) (Q:VK),aD X b d H s->aM x v->aM y u->r x y H Q ->
  Wy a Qv v u=operate [v,u] (Vv v u)->QI (QJ X.prog X.w) X.A (subscriptTail c a v u) (EP X b d Q) X.xe s
noncomputable def oG(X:Cx)(id:String)(r:V->List V->Hp->VK->Prop):Prop :=
 ∀(a:List (QC×Ts)) (s:QF) (d:St) (H:Hp) (x:V) (c:List V) (v:Qz) (b:List Qz) (Q:VK),aD X a d H s->aM x v->aG c b->r x c H Q ->
  QI (QJ X.prog X.w) X.A (call (.builtin id) (v::b)) (EP X a d Q) X.xe s
section
theorem jN.or(h:jN X r)(i:jN X j):jN X (λx y H Q=>r x y H Q\/j x y H Q):=by
 intro b a c s g H x y v u Q I e f q d;rcases q with q|q
 ·exact h b a c s g H x y v u Q I e f q d
 ·exact i b a c s g H x y v u Q I e f q d
theorem yA1(i:jN X r)(f:PE X a o)(g:PE X b p)(j:kh b):PE X (.Subscript a b k) (nG r o p):=by
 intro c s t H Q I h;exact U3 (o3 f g I h λv u n x y d e l m q=>i a b c n t d x y v u Q e l m q (j _ _))
noncomputable def rE(K:aV):R2:=λx y H Q=>∃p a i v,x=.ref p/\y=.int i/\cF K H p a/\fM a i=Qq v/\Q v H
noncomputable def kJ(K:aV):R2:=λx y H Q=>∃p a i v,x=.ref p/\y=.int i/\gC K H p a/\fM a i=Qq v/\Q v H
noncomputable def uL:R2:=λx y H Q=>∃z i c,x=.str z/\y=.int i/\z.length<=QG/\fM z.cps.toList i=Qq c/\Q (.str ⟨#[c]⟩) H
theorem Ke:jN X (rE X.K):=by
 intro l k b s L H x y v u Q I G J h o;obtain⟨p,P,i,z,rfl,rfl,F,D,q⟩:=h;cases G;obtain⟨t,rfl⟩:=J;obtain⟨e,r,f,O⟩:=I.list F;obtain⟨j,c,A,M,B,C⟩:=AM D;obtain⟨w,m,g⟩:=r.get A;have E:=r.length;have N:=gk;have a:EP X b L Q w s:=⟨z,H,I,g,q⟩;by_cases n:0<=i
 ·have d:i.toNat=j:=by
   rw[Yz n C]at c;exact Zr c
  exact item_listR f.isList n (by omega) (by rw[d];simpa using m) a o
 ·have d:(i +  e.toArray.size ).toNat=j:=by
   rw[XQ (by omega) B]at c;rw[Zn,<- E];exact Zr c
  exact XP (x:=w) f.isList.typeIs Tu.lookup
   (wpAny_getItem_list_neg f.isList (by omega) (by simp_all) (by omega) (by rw[d];simpa using m) ⟨rfl,a⟩) o
theorem zSr:jN X (kJ X.K):=by
 intro e d a s E H x y v u Q I C D h A;obtain⟨p,xs,i,z,rfl,rfl,o,m,q⟩:=h;cases C;obtain⟨t,rfl⟩:=D;obtain⟨B,r,f,M⟩:=I.tuple o;obtain⟨j,k,l,F,G,J⟩:=AM m;obtain⟨w,g,c⟩:=r.get l;have n:=r.length;have L:=gk;have b:EP X a E Q w s:=⟨z,H,I,c,q⟩;exact XP f.typeIs slot_tuple_getitem.lookup
  (getItem_tuple f (by omega) (by omega) (by rw[Zn,<- n];exact k) (by simpa using g) ⟨rfl,b⟩) A
theorem L4:jN X uL:=by
 intro b a e s E H x y v u Q I r w h p;obtain⟨z,i,c,rfl,rfl,C,n,q⟩:=h;obtain⟨t,rfl⟩:=r;obtain⟨D,rfl⟩:=w;obtain⟨j,d,k,A,l,m⟩:=AM n;have o:z.cps.toList.length=z.length:=by simp[Wm]
 rw[o]at d l m;have B:=gk
 exact V4 (UX s z t) slot_str_getitem.lookup (getItem_str (c:=c) (by
  have f:decide (i < -(2^63))=Qv:=decide_eq_false (by omega);have g:decide (i ≥ 2^63)=Qv:=decide_eq_false (by omega)
  rw[f,g,Bool.or_false]) (by rw[d];simpa using k) ⟨.str ⟨#[c]⟩,H,I.tok _,⟨_,rfl⟩,q⟩) p
noncomputable def Es(K:aV):R2:=λx y H Q=>rE K x y H Q\/kJ K x y H Q\/uL x y H Q
theorem Pz:jN X (Es X.K):=Ke.or (zSr.or L4)
theorem H9(a:List Qz)(n j:Nat)(u:Qz):R7 (·.setIfInBounds j u) {cls:=.type "list",data:=.seq a.toArray n}={cls:=.type "list",data:=.seq (a.set j u).toArray n}:=by
 simp[R7]
theorem aD.lst(I:aD X b c H s)(h:H p=Qq (.lst xs)):
 ∃(a:List Qz) (n:Nat),aG xs a/\s.heap.get? p=Qq {cls:=.type "list",data:=.seq a.toArray n}/\xs.length<=QG:=by
 obtain⟨z,a,n,r,e⟩:=I.hok p _ h;exact⟨a,n,r,e,z⟩
theorem aD.lstUpd{c a:List Qz}(I:aD X d o H s)(h:H p=Qq (.lst v))
 (l:s.heap.get? p=Qq {cls:=.type "list",data:=.seq c.toArray n}) (g:f {cls:=.type "list",data:=.seq c.toArray n}={cls:=.type "list",data:=.seq a.toArray i}) (r:aG j a) (m:j.length<=QG) (t:Nat) :
 aD X d o (upd H p (.lst j)) {s with heap:=s.heap.update p f,toks:=t}:=by
 have e:(s.heap.update p f).get? p=Qq {cls:=.type "list",data:=.seq a.toArray i}:=by
  rw[Ss f l (by rw[g]<;>rfl),g]
 refine I.write (by rw[h];trivial) (.inl rfl) (λb u k q=>(WS _ _ (Rf k)).trans q) ⟨_,e⟩ ?_;exact⟨m,a,i,r,e⟩
noncomputable def sh:V->V->V->Hp->(Hp->Prop)->Prop:=λo i v H Q=>∃p a k j,o=.ref p/\i=.int k/\H p=Qq (.lst a)/\iS a.length k=Qq j/\Q (upd H p (.lst (a.set j v)))
theorem Qm:t6 X sh:=by
 intro l s L H o i v G F u Q I z y A h;obtain⟨p,J,k,j,rfl,rfl,g,x,q⟩:=h;cases z;obtain⟨t,rfl⟩:=y;obtain⟨a,n,r,d,E⟩:=I.lst g;obtain⟨b,B,m,w⟩:=AK x;have C:=r.length;have D:=gk;have e  :=
  I.lstUpd g d (H9 a n j u) (r.set A j) (by simp_all) s.toks
 by_cases f:0<=k
 ·have c:k.toNat=j:=by
   rw[Yz f w]at b;exact Zr b
  exact PySem.W.ki_setAt d f (by omega) (by simp_all) (by rw[c];exact⟨_,e,q⟩)
 ·have c:(k +  a.toArray.size ).toNat=j:=by
   rw[XQ (by omega) m]at b
   simp_all
  exact PySem.W.ki_setBack d (by omega) (by simp_all) (by omega) (by rw[c];exact⟨_,e,q⟩)
theorem Mg(lo a:Option Int)(n:Nat):(To lo a Qs n).1=((HT.sIx n 0 lo:Nat))/\(To lo a Qs n).2.1=((HT.sIx n n a:Nat):Int)/\(To lo a Qs n).2.2=1:=by
 refine⟨?_,?_,rfl⟩
 ·cases lo with
  |none=>rfl
  |some i =>
   simp[To,HT.sIx,if_true];by_cases h:i<0
   ·simp only[h,if_true]<;>omega
   ·simp only[h,if_false]<;>omega
 ·cases a with
  |none=>rfl
  |some i =>
   simp[To,HT.sIx,if_true];by_cases h:i<0
   ·simp only[h,if_true]<;>omega
   ·simp only[h,if_false]<;>omega
theorem Ox(a:List Qz)(lo b:Option Int):Vt a.toArray lo b Qs=((a.drop (HT.sIx a.length 0 lo)).take (HT.sIx a.length a.length b-HT.sIx a.length 0 lo)).toArray:=by
 obtain⟨c,d,e⟩:=Mg lo b a.toArray.size;unfold Vt;rw[c,d,e];simp only[sliceRange_one,pick_run]<;>rfl
noncomputable def AG(K:aV):V->Option Int->Option Int->Hp->VK->Prop:=λx lo c H Q=>∃a b,x=.ref a/\cF K H a b/\∀p,H p=Qs->Q (.ref p) (upd H p (.lst (je b lo c)))
theorem Qb:md X (AG X.K):=by
 intro g s y H x v u w lo e t Q I o i m n h;obtain⟨a,d,rfl,j,q⟩:=h;cases o;obtain⟨l,r,f,k⟩:=I.list j;have c:=r.length;refine⟨"list",_,Tu.lookup,f.isList.typeIs,?_⟩;refine S9 f.isList i m n .none (by simp) ?_ (by simp_all);rw[Ox,<- c];refine⟨.ref s.heap.objs.size,_,I.laid (λb p q=>Z1 _ q) (Z3 _) ?_,rfl,q _ (I.hok.fresh (Z3 _))⟩;exact⟨Z9 (Bc d lo e) k,_,0,(r.drop (HT.sIx d.length 0 lo)).take (HT.sIx d.length d.length e-HT.sIx d.length 0 lo),Z5 _ rfl⟩
noncomputable def ik:V->Bool
 | .non=>Qr
 | .bl _=>Qr
 | .int _=>Qr
 | .str _=>Qr
 |_=>Qv
noncomputable def nO:V->V->Bool
 | .non,.non=>Qr
 | .bl a,.bl b=>a==b
 | .bl a,.int b=>(if a then 1 else 0)==b
 | .int a,.bl b=>a==(if b then 1 else 0)
 | .int a,.int b=>a==b
 | .str a,.str b=>a==b
 |_,_=>Qv
theorem Jc(f:aM y u)(c:aM x v)(g:ik y=Qr)(e:ik x=Qr):Za6 A s u v (nO y x):=by
 cases y with
 |non =>
  cases f;cases x with
  |non=>cases c;exact SeqAt.EqAt.same _
  |bl b=>cases c;exact SeqAt.EqAt.none_bool b
  |int b=>obtain⟨t,rfl⟩:=c;exact SeqAt.EqAt.none_int b t
  |str b=>obtain⟨t,rfl⟩:=c;exact Wp b t
  |_=>exact absurd (show Qv=Qr from e) Zb
 |bl a =>
  cases f;cases x with
  |non=>cases c;exact SeqAt.EqAt.bool_none a
  |bl b=>cases c;exact SeqAt.EqAt.bool_bool a b
  |int b=>obtain⟨t,rfl⟩:=c;exact SeqAt.EqAt.bool_int a b t
  |str b=>obtain⟨t,rfl⟩:=c;exact SeqAt.EqAt.bool_str a b t
  |_=>exact absurd (e) Zb
 |int a =>
  obtain⟨d,rfl⟩:=f;cases x with
  |non=>cases c;exact SeqAt.EqAt.int_none a d
  |bl b=>cases c;exact SeqAt.EqAt.int_bool a d b
  |int b=>obtain⟨t,rfl⟩:=c;exact SeqAt.EqAt.int_int a d b t
  |str b=>obtain⟨t,rfl⟩:=c;exact WA a d b t
  |_=>exact absurd (e) Zb
 |str a =>
  obtain⟨d,rfl⟩:=f;cases x with
  |non=>cases c;exact Wn a d
  |bl b=>cases c;exact SeqAt.EqAt.str_bool a d b
  |int b=>obtain⟨t,rfl⟩:=c;exact Wz a d b t
  |str b=>obtain⟨t,rfl⟩:=c;exact SeqAt.EqAt.str_str a d b t
  |_=>exact absurd (show Qv=Qr from e) Zb
 |_=>exact absurd (show Qv=Qr from g) Zb
noncomputable def wD(x:V)(u:Qz):Bool:=match u with
 | .none=>nO .non x
 | .bool b=>nO (.bl b) x
 | .int i _=>nO (.int i) x
 | .str z _=>nO (.str z) x
 |_=>Qv
theorem BU(r:aM y u)(f:ik y=Qr):wD x u=nO y x:=by
 cases y with
 |non=>cases r;rfl
 |bl b=>cases r;rfl
 |int i=>obtain⟨t,rfl⟩:=r;rfl
 |str z=>obtain⟨t,rfl⟩:=r;rfl
 |_=>exact absurd (f) Zb
theorem E2(e:aM x v)(d:ik x=Qr):∀ {c:List V}{b:List Qz},aG c b->c.all ik=Qr->∀u∈b,Za6 A s u v (wD x u)
 |_,_,.nil,_=>λu a=>by cases a
 |y::c,u::b,.cons r t,f=>λg a=>by
  rw[Yp,Zl]at f;rcases QL.mp a with rfl|a
  ·rw[BU r f.1];exact Jc r e f.1 d
  ·exact E2 e d t f.2 g a
theorem Pi:dS X (QK .NotIn) (λx y H Q=>∃i j,x=.str i/\y=.str j/\Q (.bl (!(!(QR j i 0 j.length 1).isEmpty))) H):=by
 intro a s e H x y v u Q I b c h;obtain⟨i,j,rfl,rfl,q⟩:=h;obtain⟨t,rfl⟩:=b;obtain⟨d,rfl⟩:=c;exact notIn_str ⟨.bl _,H,I,rfl,q⟩
theorem Nh:bL X (.builtin "len") (λi H Q=>∃p b,i=[.ref p]/\(cF X.K H p b\/gC X.K H p b)/\Q (.int b.length) H):=by
 intro g s n H i m Q I r h;obtain⟨p,b,rfl,c,q⟩:=h;obtain⟨u,rfl,k⟩:=iZ r;cases k;have l:=gk;rcases c with c|c
 ·obtain⟨d,f,e,j⟩:=I.list c;have a:=f.length;exact Calls.call_len_list e.isList (by simp only[Zn]<;>omega) ⟨.int b.length,H,I.tok _,⟨s.toks+1,by rw[Zn,a]⟩,q⟩
 ·obtain⟨d,f,e,j⟩:=I.tuple c;have a:=f.length;exact len_tuple e (by simp only[Zn]<;>omega) ⟨.int b.length,H,I.tok _,⟨s.toks+1,by rw[Zn,a]⟩,q⟩
theorem MZ:bL X (.builtin "len") (λb H Q=>∃z,b=[.str z]/\z.length<=QG/\Q (.int z.length) H):=by
 intro a s f H b e Q I r h;obtain⟨z,rfl,d,q⟩:=h;obtain⟨u,rfl,t,rfl⟩:=iZ r;have c:=gk;exact len_str (by omega) ⟨.int z.length,H,I.tok _,⟨_,rfl⟩,q⟩
theorem Ms:bL X (.type "list") (λB H Q=>∃p g,B=[.ref p]/\(cF X.K H p g\/gC X.K H p g)/\∀l,H l=Qs->Q (.ref l) (upd H l (.lst g))):=by
 intro v s D H B E Q I r h;obtain⟨p,g,rfl,k,q⟩:=h;obtain⟨u,rfl,C⟩:=iZ r;cases C
 have i:∀  a ,aG g a->g.length<=QG->∀  c   d ,(∀b A,s.heap.get? b=Qq A->c.get? b=Qq A) ->
  c.get? s.heap.objs.size=Qq {cls:=.type "list",dict:=Qs,data:=.seq a.toArray d,slots:=#[]}->EP X v D Q (.ref s.heap.objs.size) {s with heap:=c}:=λa f m c d t e =>
  ⟨.ref s.heap.objs.size,_,I.laid t (Z3 _) (show cg X.prog X.w _ c _ (.lst g)from⟨m,a,d,f,e⟩),rfl,q _ (I.hok.fresh (Z3 _))⟩
 rcases k with k|k
 ·obtain⟨a,f,z,m⟩:=I.list k;have j:=f.length;obtain⟨o,y,w,n,x⟩:=z.isList;exact call_list_seq p (.inl rfl) y w x (λc d t e=>i a f m c d t e) (by simp_all)
 ·obtain⟨a,f,z,m⟩:=I.tuple k;have j:=f.length;obtain⟨o,y,w,n,x⟩:=z;exact call_list_seq p (.inr rfl) y w x (λc d t e=>i a f m c d t e) (by simp_all)
theorem Md:bL X (.type "tuple") (λn H Q=>∃p c,n=[.ref p]/\((cF X.K H p c/\∀l,H l=Qs->Q (.ref l) (upd H l (.tup c)))\/(gC X.K H p c/\Q (.ref p) H))):=by
 intro m s z H n y Q I r h;obtain⟨p,c,rfl,h⟩:=h;obtain⟨u,rfl,x⟩:=iZ r;cases x;rcases h with⟨d,q⟩|⟨d,q⟩
 ·obtain⟨a,g,f,k⟩:=I.list d;have j:=g.length;refine call_tuple_list f.isList (λv w=>?_) (by simp_all);have i:=I.kept (t':=s.toks) w;have t  :=
   i.laid (t':=s.toks) (λb o e=>Z1 _ e) (Z3 _) (show cg X.prog X.w _ _ _ (.tup c)from⟨k,a,g,X0 _ _⟩)
  exact⟨.ref v.objs.size,_,t,rfl,q _ (i.hok.fresh (Z3 _))⟩
 ·obtain⟨a,g,f,k⟩:=I.tuple d;exact call_tuple_same f ⟨.ref p,H,I,rfl,q⟩
noncomputable def qZ(K:aV)(T:String)(x:V)(H:Hp):Prop:=match x with
 | .str _=>T = "str"
 | .int _=>T = "int"
 | .ref p=>(T = "list"/\∃b,cF K H p b)\/(T = "tuple"/\∃o,K.lookup p=Qq o/\o.cls=.type "tuple"/\o.dict=Qs) \/
  (T = "dict"/\((∃a,H p=Qq (.dK a))\/∃a,H p=Qq (.dT a)))\/(T = "set"/\∃S n,H p=Qq (.set S n))
 |_=>False
theorem Qd(I:aD X l A H s)(r:aM x v)(f:qZ X.K T x H):
 s.TypeIs v T/\∀a,v=.ref a->∃k,s.heap.get? a=Qq k/\k.dict=Qs:=by
 cases x with
 |str z =>
  obtain⟨t,rfl⟩:=r;cases (f);exact⟨UX s z t,λ_ e=>nomatch e⟩
 |int i =>
  obtain⟨t,rfl⟩:=r;cases (f);exact⟨YY s i t,λ_ e=>nomatch e⟩
 |ref p =>
  cases r;rcases f with⟨rfl,y,u⟩|⟨rfl,o,b,q,h⟩|⟨rfl,b⟩|⟨rfl,S,n,b⟩
  ·obtain⟨w,_,m,_⟩:=I.list u;refine⟨m.isList.typeIs,λa e=>?_⟩;cases e;obtain⟨o,n,e,c,h,_⟩:=m;exact⟨o,e,h⟩
  ·refine⟨⟨o,I.kIn p o b,q⟩,λa e=>?_⟩;cases e;exact⟨o,I.kIn _ o b,h⟩
  ·have z:∃o,s.heap.get? p=Qq o/\o.ExactDict:=by
    rcases b with⟨j,b⟩|⟨j,b⟩
    ·obtain⟨_,_,_,_,o,_,_,e,d,_⟩:=I.hok p _ b;exact⟨o,e,d⟩
    ·obtain⟨_,_,_,_,o,_,_,e,d,_⟩:=I.hok p _ b;exact⟨o,e,d⟩
   obtain⟨o,e,d⟩:=z;refine⟨⟨o,e,d.1⟩,λa g=>?_⟩;cases g;exact⟨o,e,d.2.1⟩
  ·obtain⟨o,_,_,_,e,d,_⟩:=I.hok p _ b;refine⟨⟨o,e,d.1⟩,λa g=>?_⟩;cases g;exact⟨o,e,d.2.1⟩
 |_=>exact RF f
noncomputable def P7(K:aV)(T:String)(r:V->List V->Hp->VK->Prop)(d:TE)(t:TA):TE:=λb H Q=>d b H λx a=>qZ K T x a/\t b a λe c=>r x e c Q
variable {T id:String}
theorem pe_bm(G:ZD T)(l:Slot T d id)(m:typeOf (.builtin id)=pure (.type "method_descriptor"))(D:oG X id r)(E:PE X o P)(C:PA X (e::f) t)
 (g:autoParam (Q6 o d X.env (eval o X.env)=eval o X.env) A10._auto_1)
 (k:autoParam (((Rc a (Qy (e :: f) X.env)).all (λx=>!x.1) && (T8 a (Sq [] X.env)).all (λx=>x.1.isSome)
  && decide ((e::f).length+([]:List VA).length+(if([]:List VA).isEmpty then 0 else 1)<30))=Qr) A10._auto_1)
 (i:autoParam ((j.endLine==a.line)=Qr) A10._auto_1) (F:autoParam (Qy (e::f) X.env=(Qv,eval e X.env)::Qy f X.env) A10._auto_1) (c:autoParam ((Rc a (Qy f X.env)).any (·.1)=Qv) A10._auto_1) :
 PE X (.Call (.Attribute o d j) (e::f) [] a) (P7 X.K T r P t):=by
 intro b s n H Q I h;refine wpAny_Call_method_late g k i rfl (bt (E b s n H _ I h) λv N ⟨x,w,p,u,R,J⟩=>?_);obtain⟨A,B⟩:=Qd p u R;refine⟨T,id,G,l,m,A,B,?_⟩;have q:=C a b N n w _ p J;rw[F]at q ⊢;refine Sj (by show(Qv||(Rc a (Qy f X.env)).any (·.1))=Qv;rw[c]<;>rfl) (Xc ?_);exact bt q λS O ⟨U,y,z,M,L⟩=>D b O n y x U v S Q z u M L
end
noncomputable def BC(X:Cx)(id:String)(r:V->List V->Hp->VK->Prop):Prop :=
 ∀(a:List (QC×Ts)) (s:QF) (d:St) (H:Hp) (x:V) (c:List V) (v:Qz) (b:List Qz) (Q:VK),aD X a d H s->aM x v->aG c b->r x c H Q ->
  QI (QJ X.prog X.w) X.A (call (.builtin id) (v::b)) (EP X a d Q) X.xe s
theorem aG.one:∀ {x:V}{us:List Qz},aG [x] us->∃u,us=[u]/\aM x u
 |_,_,.cons r .nil=>⟨_,rfl,r⟩
theorem aG.eraseIdx:∀ {a:List V}{us:List Qz}  i ,aG a us->aG (a.eraseIdx i) (us.eraseIdx i)
 |_,_,_,.nil=>.nil
 |_,_,0,.cons _ t=>t
 |_,_,i+1,.cons r t=>.cons r (aG.eraseIdx i t)
theorem aG.reverse(h:aG b us):aG b.reverse us.reverse:=by
 induction h with
 |nil=>exact .nil
 |cons r t a=>rw[Yt,Yt];exact aG.append a (.cons r .nil)
theorem aG.rep(h:aG a us):∀k ,aG (QE k a).flatten (QE k us).flatten
 | 0=>.nil
 |k+1=>by
  rw[Y6,Y6,Yl,Yl];exact aG.append h (aG.rep h k)
theorem yCp{α:Type}(l:List α):l.eraseIdx (l.length-1)=l.dropLast:=by
 induction l with
 |nil=>rfl
 |cons a r ih =>
  cases r with
  |nil=>rfl
  |cons b r =>
   have e:(a::b::r).length-1=((b::r).length-1)+1:=by
    have h1:(a::b::r).length=r.length+2:=rfl;have h2:(b::r).length=r.length+1:=rfl;omega
   rw[e,Ux,ih]
   all_goals rfl
theorem GG{a:Type}:∀(l:List a)  i ,(l.eraseIdx i).length<=l.length
 |[],_=>Z3 _
 |_::_,0=>Yv _
 |_::r,i+1=>Nat.succ_le_succ (GG r i)
theorem Ee(b:List Qz):∀  k   a ,
 List.foldl (λd f=>d++f) a.toArray (QE k b.toArray)=(a++(QE k b).flatten).toArray
 | 0,a=>by simp
 |k+1,a=>by
  have e:a.toArray++b.toArray=(a++b).toArray:=by simp
  have c:(a++b)++(QE k b).flatten=a++(QE (k+1) b).flatten:=by
   rw[Y6,Yl,RP]
  rw[<- c,<- Ee b k (a++b),<- e,Y6,Zz]
section
theorem aD.lset{a its':List Qz}(I:aD X b k H s)(c:H l=Qq (.lst o))
 (e:s.heap.get? l=Qq {cls:=.type "list",data:=.seq a.toArray n}) (g:f a.toArray=its'.toArray) (i:aG ys its') (j:ys.length<=QG) :
 aD X b k (upd H l (.lst ys)) {s with heap:=s.heap.update l (R7 f),toks:=t'}:=by
 have q:=PySem.IsL.update e f;rw[g]at q;refine I.write (by rw[c];exact trivial) (.inl rfl) (λm u d h=>(WS s.heap (R7 f) (Rf d)).trans h) ⟨_,q⟩ ?_;exact⟨j,its',_,i,q⟩
theorem aD.lnew(I:aD X b f H s)(d:aG c a)(e:c.length<=QG):
 aD X b f (upd H s.heap.objs.size (.lst c)) {s with heap:=s.heap.push {cls:=.type "list",data:=.seq a.toArray},toks:=t'} :=
 I.laid (λ_ ω q=>Z1 _ q) (Z3 _) ⟨e,a,0,d,Z5 _ rfl⟩
theorem aD.fresh(I:aD X a b H s):H s.heap.objs.size=Qs:=I.hok.fresh (Z3 _)
theorem aD.lstM(I:aD X c f H s)(d:H l=Qq (.lst b)):b.length<=QG/\∃(a:List Qz) (n:Nat),aG b a/\b.length=a.length/\s.heap.get? l=Qq {cls:=.type "list",data:=.seq a.toArray n}:=by
 obtain⟨z,a,n,r,e⟩:=I.hok l _ d;exact⟨z,a,n,r,r.length,e⟩
theorem jg(h:n<=QG):TM n=Qv:=by
 exact decide_eq_false (by omega)
end
section
noncomputable def nF:V->List V->Hp->VK->Prop:=λx b H Q=>∃l a y,x=.ref l/\b=[y]/\H l=Qq (.lst a)/\a.length<QG/\Q .non (upd H l (.lst (a++[y])))
theorem I9:BC X "list.append" nF:=by
 intro c s p H x m v k Q I g f h;obtain⟨l,o,y,rfl,rfl,b,j,q⟩:=h;cases g;obtain⟨u,rfl,d⟩:=f.one;obtain⟨z,a,n,r,i,e⟩:=I.lstM b;refine SQ F.slot_list_append ⟨_,e,rfl⟩ F.entry_list_append (F.args_list_append_2 _ _) (PySem.list_append l a.toArray n u (by simp_all)) ⟨e,?_⟩;refine⟨.non,_,I.lset b e (by simp) (r.append (.cons d .nil)) ?_,rfl,q⟩;rw[Zh,UN];omega
noncomputable def mU:V->List V->Hp->VK->Prop:=λx d H Q=>∃l b a c,x=.ref l/\d=[.ref b]/\H l=Qq (.lst a)/\H b=Qq (.lst c)/\a.length+c.length<=QG/\Q .non (upd H l (.lst (a++c)))
theorem IS:BC X "list.extend" mU:=by
 intro i s L H x D v C Q I y w h;obtain⟨l,b,E,J,rfl,rfl,g,k,B,q⟩:=h;cases y;obtain⟨u,rfl,t⟩:=w.one;cases t;obtain⟨z,c,n,r,A,e⟩:=I.lstM g;obtain⟨G,a,o,p,m,j⟩:=I.lstM k;have f:c.toArray.size+a.toArray.size<=QG:=by simp_all
 have d:¬(!c.toArray.isEmpty&&TM (c.toArray.size+a.toArray.size))=Qr:=by
  rw[jg f,Bool.and_false];exact Zb
 refine SQ F.slot_list_extend ⟨_,e,rfl⟩ F.entry_list_extend (F.args_list_extend_2 _ _)
  (AutoSeq1.list_extend_list_list_0 l c.toArray n b a.toArray o d (by simp_all) (by omega)) ⟨e,j,?_⟩
 refine⟨.non,_,I.lset g e (by simp) (r.append p) ?_,rfl,q⟩
 simp_all
noncomputable def oC:V->List V->Hp->VK->Prop:=λx b H Q=>∃l a i k y,x=.ref l/\b=[.int i]/\H l=Qq (.lst a)/\-(2^63)<=i/\i<2^63/\seqIndex? i a.length=Qq k/\a[k]?=Qq y/\Q y (upd H l (.lst (a.eraseIdx k)))
theorem LB:BC X "list.pop" oC:=by
 intro d s J H x G v E Q I p o h;obtain⟨l,A,i,k,y,rfl,rfl,c,f,g,B,j,q⟩:=h;cases p;obtain⟨u,rfl,m⟩:=o.one;obtain⟨t,rfl⟩:=m;obtain⟨z,a,n,r,C,e⟩:=I.lstM c;obtain⟨w,D,b⟩:=r.get j;refine SQ F.slot_list_pop ⟨_,e,rfl⟩ F.entry_list_pop (F.args_list_pop_2 _ _)
  (MeetsSeq.list_pop_at l a.toArray n i t k w (fitsIndex_both f g) (by simp_all) (by simp_all) (by simp_all)) ⟨e,?_⟩
 refine⟨y,_,I.lset c e ?_ (r.eraseIdx k) ?_,b,q⟩
 ·simp_all
 ·have:=GG A k;omega
noncomputable def yL:R2:=λx y H Q=>∃l b a c,x=.ref l/\y=.ref b/\H l=Qq (.lst a)/\H b=Qq (.lst c)/\a.length+c.length<=QG/\∀p,H p=Qs->Q (.ref p) (upd H p (.lst (a++c)))
theorem Pp:dS X (Ru .Add) yL:=by
 intro d s E H x y v u Q I o p h;obtain⟨l,b,B,D,rfl,rfl,j,i,w,q⟩:=h;cases o;cases p;obtain⟨z,c,n,r,t,e⟩:=I.lstM j;obtain⟨C,a,A,m,k,f⟩:=I.lstM i;refine PySem.P.add_list e f ?_ (by simp_all);have g:c.toArray++a.toArray=(c++a).toArray:=by simp
 rw[g];exact⟨.ref _,_,I.lnew (r.append m) (by simp_all),rfl,q _ I.fresh⟩
noncomputable def yB:R2:=λx y H Q=>∃l k a,x=.ref l/\y=.int k/\H l=Qq (.lst a)/\-(2^63)<=k/\k<2^63/\a.length*k.toNat<=QG /\
 ∀p,H p=Qs->Q (.ref p) (upd H p (.lst (QE k.toNat a).flatten))
theorem N0{b:Type}(a:List b)(k:Nat):(QE k a).flatten.length=k*a.length:=by
 simp_all
theorem OO:dS X (Ru .Mult) yB:=by
 intro i s M H x y v u Q I B C h;obtain⟨l,k,L,rfl,rfl,w,o,p,A,q⟩:=h;cases B;obtain⟨t,rfl⟩:=C;obtain⟨z,a,n,r,J,e⟩:=I.lstM w;have f:a.toArray.size*k.toNat<=QG:=by simp_all
 have c:¬a.toArray.size*k.toNat > (2^63-1)/8:=by
  have :  QG<=(2^63-1)/8:=by decide
  omega
 have d:¬(!Builtin.List.listFitsIndex k)=Qr:=by
  rw[fitsIndex_both o p];exact Zb
 have b:¬TM (a.toArray.size*k.toNat)=Qr:=by
  rw[jg f];exact Zb
 have g:List.foldl (λE G=>E++G) #[] (QE (if a.toArray.isEmpty=Qr then 0 else k.toNat) a.toArray)=(QE k.toNat a).flatten.toArray:=by
  have j:=λm=>by
   have:=Ee a m [];rw[YG]at this;exact this
  rw[j];cases a<;>simp_all
 refine wpAny_binaryOp_repeat_ref (by decide) ⟨_,e,rfl⟩ (λD=>YY D k t) noFill_list_mul F.fills_int_mul ZW repeat_list F.slot_int_index.lookup
  (SQ ZW (YY s k t) F.entry_int_rmul (F.args_int_rmul_2 _ _) (int___rmul___int_list k t l a.toArray n)
   ⟨e,rfl,⟨_,e,rfl⟩,SQ F.slot_list_mul ⟨_,e,rfl⟩ F.entry_list_mul (F.args_list_mul_2 _ _) (AutoListH.list___mul___list_int_3 l a.toArray n k t d c b) ⟨e,?_⟩⟩)
 rw[g];exact⟨.ref _,_,I.lnew (r.rep k.toNat) (by rw[N0,Zak];exact A),rfl,q _ I.fresh⟩
end
section
set_option maxRecDepth 100000 in
end
section
end
end L2
namespace Att
open PySem PySem.W PySem.Calls PyProof.Rows
theorem Lw:∀  c   d ,WellAll P h d (c.map WData.int)->X1 d c:=by
 intro c
 induction c with
 |nil =>
  intro d w;rw[Vz]at w;cases w;exact .nil
 |cons n c e =>
  intro d w;rw[Z8]at w;cases w with
  |cons a b =>
   cases a;exact .cons _ _ (e _ b)
theorem PB{l:OpenLaw}(u:l.most=Qq n)(c:l.row.toRowW.claim.pre b=Qr)(m:WellAll P h i b):
 ∃a o e,i=[QV a]/\b=[WData.list (e.map WData.int)]/\h.get? a=Qq {cls:=.type "list",data:=.seq o.toArray}/\X1 o e/\e.length<=n:=by
 have k:WShape.hasAll [] b [.list .int]=Qr:=(pre_splitW c).1;have t:l.pre.holds [] {args:=b}=Qr:=(pre_splitW c).2;obtain⟨d,r,rfl,p,q⟩:=hasAllW_cons k;obtain rfl:=hasAllW_nil q;obtain⟨z,rfl,s⟩:=hasW_list p;obtain⟨e,rfl⟩:=items_int s;have g:e.length<=n:=by
  have j:(WTm.not (.lt (.lit (.int  n )) (.len (.arg 0)))).holds [] {args:=[.list (e.map .int)]}=Qr:=by
   have j:=(holds_andW t).1;rw[u]at j;exact j
  have y:=condW_of j (by rfl)
  simp_all
 cases m with
 |cons w x =>
  cases x;cases w with
  |list v f=>exact⟨_,_,e,rfl,rfl,v,Lw e _ f,g⟩
theorem LI(l:OpenLaw)(a:List WData):l.row.toRowW.claim.post a (.bool Qr) a=Qr :=
 postW_of (by rfl)
  (w_eq_bool (w_res rfl) w_lit) rfl
theorem attach_call{l:OpenLaw}(T:l.most=Qq n)(y:d.params.defaults=[])
 (call:∀  w   c b   t B   j   o   C s e   a   i   u ,
  Ground q h [] I w c t B b.heap->J w b.heap ->
  b.heap.get? j=Qq o->o.data=.func (docDef d.name d.params d.body d.scope C s e)->b.heap.CodeRec s d.name->t d.name=Qq (.ref j) ->
  b.heap.get? a=Qq {cls:=.type "list",data:=.seq i.toArray}->X1 i u->u.length<=n->b.gens=#[] ->
  SW (QJ l.prog w) Vw (.call (.ref j) ⟨[.ref a],[]⟩) (λr v=>r=.ok (.ret (.bool Qr))/\OldK b.heap v.heap/\v.os=b.os/\U7 v.gens) b) :
 WalkO q h I J l.row.toRowW d [] (λf i=>Za7 f i):=by
 intro w c b t B G Y j o C s e L X U P x E z Q D H Z p F W A R;obtain rfl:L=.none:=Dflts.none E y;obtain rfl:X=.none:=Dflts.noKw E;obtain⟨a,i,u,rfl,rfl,m,g,k⟩:=PB T p A;refine enter_call (Sv (call w c b t B j o C s e a i u G Y U (fd_plain P) x z m g k Q) λr v V=>?_);obtain⟨rfl,M,N,O⟩:=V;exact⟨.inl ⟨.bool Qr,.bool Qr,[],rfl,λ_=>rfl,.bool Qr,LI l _,λ_=>⟨Zam,λ_ S=>(nomatch S)⟩⟩,M,N,O⟩
section
variable {K:Frag}
end
end Att
namespace L2
open PySem PySem.Spec PyProof.Rows
theorem C1:∀ {b:List Qz}{a:List Int},X1 b a->aG (a.map V.int) b
 |_,_,.nil=>.nil
 |_,_,.cons n t h=>.cons ⟨t,rfl⟩ (C1 h)
noncomputable def aW(s:RX)(j:Nat):RX:=match s with
 | .ClassDef _ _ _ a _ _ _ _ _ _ _=>a.getD j (.Pass ⟨0,0,0,0⟩)
 |_=>.Pass ⟨0,0,0,0⟩
noncomputable def bp(s:RX):TY:=match s with
 | .FunctionDef _ a _ _ _ _ _ _ _ _=>a
 |_=>{posonlyargs:=[],args:=[],vararg:=Qs,kwonlyargs:=[],kw_defaults:=[],kwarg:=Qs,defaults:=[]}
noncomputable def bo(s:RX):List RX:=match s with
 | .FunctionDef _ _ b _ _ _ _ _ _ _=>b
 |_=>[]
noncomputable def aF(s:RX):TH:=match s with
 | .FunctionDef _ _ _ _ _ _ a _ _ _=>a
 |_=>{kind:=.function,names:=[],isGenerator:=Qv,isCoroutine:=Qv}
noncomputable abbrev fy:jw:=λ_ ω ω ω ω ω=>False
structure Fun(K:aV)(x qual:QD)(st:RX)(f:QC)(fd:RE):Prop where
 ex:∃(oc:Qz) (od:Option QC) (kV doc pm:Qz) (an:Option QC) (cdv ct:Qz) (osl:Array (Option Qz)),
  fd=Q0 x qual (bp st) (bo st) (aF st) .none kV doc pm an cdv ct/\K.lookup f=Qq ⟨oc,od,.func fd,osl⟩/\Ry K cdv qual=Qr
 kp:Rk K (.ref f)=Qr
section
variable {K:aV}
theorem Fun.ok{x qual:QD}{st:RX}{f:QC}{fd:RE}{N ps:List QD}{k:Nat}{sp:Sp}(F:Fun K x qual st f fd)(S:eF N ps (aF st))(len:∀vs H Q E,sp vs H Q E->vs.length=ps.length)
 (hbody:∀ (cdv:Qz) (A:RT) (outer:List X9) (s:QF) (H:Hp) (vs:List V) (Q:VK) (E:XK),cV k (A.deeper (Ur qual (aF st) s.heap.objs.size f cdv))->sp vs H Q E ->
  ∃t,PSs (so fy P w K mg base N qual (aF st) f cdv A outer s H E).nox (bo st) t/\t {nx:=λ_ H'=>Q .non H',rt:=Q} (eX N vs) H):c7 P w K mg base fy (k+1) f fd ps sp:=by
 obtain⟨oc,od,kV,doc,pm,an,cdv,ct,osl,rfl,lk,hcd⟩:=F.ex;refine yW lk hcd S len λA outer s H vs Q E hr hsp=>?_;obtain⟨t,h,q⟩:=hbody cdv A outer s H vs Q E hr hsp;exact⟨t,h.nox,q⟩
theorem Fun.binds{st:RX}(F:Fun K x c st f j)
 (h:∀  kV b g   d   a e   i ,i.length=ps.length->T7 (Q0 x c (bp st) (bo st) (aF st) .none kV b g d a e) ⟨i,[]⟩=pure (ps.zip i)):cI K j ps []:=by
 obtain⟨n,o,kV,b,g,d,a,e,l,rfl,m,k⟩:=F.ex;exact .all (h kV b g d a e)
theorem CQ{st:RX}{kV d h b e:Qz}(l:K.lookup f=Qq ⟨j,m,.func (Q0 x a (bp st) (bo st) (aF st) .none kV d h i b e),g⟩)
 (c:Ry K b a=Qr) (k:Rk K (.ref f)=Qr):Fun K x a st f (Q0 x a (bp st) (bo st) (aF st) .none kV d h i b e):=⟨⟨j,m,kV,d,h,i,b,e,g,rfl,l,c⟩,k⟩
end
theorem dq(a:cV k A):A.units+1<Rq:=XU (by simp_all) a.units
theorem kR(h:n<=1000):n<QG:=XU h (by decide)
section
theorem pv(i:Nat)(b:autoParam (X.N[i]?=Qq x) A10._auto_1)(d:autoParam (vp X.env.scope x) A21._auto_1)(c:autoParam ((x==("__debug__"))=Qv) A11._auto_1)
 (a:autoParam ((x==("__classdict__"))=Qv) A11._auto_1):PE X (.Name x e) (gD i):=zY2 b d c a
end
theorem JB{A B:Prop}(h:B):if Qv=Qr then A else B:=by
 simp_all
theorem Bk{A B:Prop}(h:A):if Qr=Qr then A else B:=by
 simp_all
noncomputable def fg(H a:Hp):Prop:=∀b o,H b=Qq o->a b=Qq o
theorem fg.trans(a:fg H d)(b:fg d e):fg H e:=λc o h=>b c o (a c o h)
section
variable {κ:Type} [DecidableEq κ]
noncomputable def du(a:List (κ×V))(k:κ):Option V:=(a.find? λb=>decide (b.1=k)).map (·.2)
noncomputable def dg(a:List (κ×V))(k:κ)(v:V):List (κ×V) :=
 if(a.any λb=>decide (b.1=k))=Qr then a.map (λb=>if b.1=k then(b.1,v)else b)else a++[(k,v)]
noncomputable def nS(kvs:List (κ×V))(k:κ):List (κ×V):=kvs.filter λkv=>decide (kv.1≠k)
theorem rO{k:κ}(e:p.1=k):du (p::r) k=Qq p.2:=by simp[du,e]
theorem pK{k:κ}(e:¬p.1=k):du (p::r) k=du r k:=by simp[du,e]
theorem yR(k:κ):∀a ,(a.any λb=>decide (b.1=k))=(du a k).isSome
 |[]=>rfl
 |p::r=>by
  rw[Vj];by_cases e:p.1=k
  ·simp[rO e,decide_eq_true e,Option.isSome_some]
  ·rw[pK e,decide_eq_false e,Bool.false_or];exact yR k r
theorem zh(a:List (κ×V))(k:κ)(v:V):(dg a k v).length<=a.length+1:=by
 unfold dg;split
 all_goals simp_all
theorem OK{k:κ}(v:V)(h:du a k=Qs):dg a k v=a++[(k,v)]:=by
 unfold dg;rw[yR,h];exact if_neg (by decide)
theorem dN.isSome_eq(r:dN o u):o.isSome=u.isSome:=by
 cases o with
 |none=>cases u with
  |none=>rfl
  |some _=>exact(r).elim
 |some _=>cases u with
  |none=>exact(r).elim
  |some _=>rfl
theorem dN.getD(r:dN o u)(b:aM d a):aM (o.getD d) (u.getD a):=by
 cases o with
 |none=>cases u with
  |none=>exact b
  |some _=>exact(r).elim
 |some _=>cases u with
  |none=>exact(r).elim
  |some _=>exact r
theorem KV.val(r:KV c vs)(k:κ):dN (du c k) (WM vs k):=by
 induction r with
 |nil=>exact RQ
 | @cons p q j d h t i =>
  obtain⟨f,g⟩:=h;by_cases e:p.1=k
  ·have a:=f.symm.trans e;have b:WM (q::d) k=Qq q.2:=by simp[WM,a]
   rw[rO e,b];exact g
  ·have a:¬q.1=k:=λz=>e (f.trans z);have b:WM (q::d) k=WM d k:=by simp[WM,a]
   rw[pK e,b];exact i
theorem KV.any(r:KV b c)(k:κ):(b.any λa=>decide (a.1=k))=c.any λa=>decide (a.1=k):=by
 induction r<;>simp_all
theorem KV.repl(r:KV b d)(k:κ)(l:aM y u):
 KV (b.map λa=>if a.1=k then(a.1,y)else a) (d.map λa=>if a.1=k then(a.1,u)else a):=by
 induction r with
 |nil=>exact .nil
 | @cons p q i j h t c =>
  rw[Z8,Z8];refine .cons ?_ c;obtain⟨f,g⟩:=h;by_cases e:p.1=k
  all_goals simp_all
theorem KV.put(r:KV a c)(k:κ)(b:aM y u):KV (dg a k y) (stored c k u):=by
 unfold dg stored;rw[r.any k];by_cases e:(c.any λd=>decide (d.1=k))=Qr
 ·rw[if_pos e,if_pos e];exact r.repl k b
 ·rw[if_neg e,if_neg e];exact ZF r ⟨rfl,b⟩
theorem KV.length{vs:List (κ×Qz)}(r:KV a vs):a.length=vs.length:=Uj r
end
theorem qh(r:aM (kV k) u):(aN P w).is k u=Qr:=by
 cases k with
 |inl i=>obtain⟨t,e⟩:=(r);subst e;exact Lq P w i t
 |inr x=>obtain⟨t,e⟩:=(by omega);subst e;exact PD P w x t
theorem Do:∀ {a:List aR}{b:List Qz},aG (a.map kV) b->ItemsAre (aN P w) a b
 |[],_,r=>by rw[Vz]at r;cases r;exact .nil
 |k::a,_,r=>by
  rw[Z8]at r;cases r with
  |cons h t=>exact .cons (qh h) (Do t)
noncomputable abbrev KT(H:Hp):List (List aR×V)->List (List aR×QC×Qz)->Prop:=Vq λp q=>p.1=q.1/\H q.2.1=Qq (.tup (p.1.map kV))/\aM p.2 q.2.2
theorem KT.val(r:KT H c j)(k:List aR):dN (du c k) ((Xy j k).map (·.2)):=by
 induction r with
 |nil=>exact RQ
 | @cons p q l d h t i =>
  obtain⟨f,_,g⟩:=h;by_cases e:p.1=k
  ·have a:=f.symm.trans e;have b:Xy (q::d) k=Qq q.2:=by simp[Xy,a]
   rw[rO e,b];exact g
  ·have a:¬q.1=k:=λz=>e (f.trans z);have b:Xy (q::d) k=Xy d k:=by simp[Xy,a]
   rw[pK e,b];exact i
theorem KT.repl(r:KT H b d)(k:List aR)(m:aM y u):
 KT H (b.map λa=>if a.1=k then(a.1,y)else a) (d.map (putAt k u)):=by
 induction r with
 |nil=>exact .nil
 | @cons p q j l h t c =>
  rw[Z8,Z8];refine .cons ?_ c;obtain⟨f,g,i⟩:=h;unfold putAt;by_cases e:p.1=k
  all_goals simp_all
theorem KT.put(r:KT H a c)(k:List aR)(f:H b=Qq (.tup (k.map kV)))(d:aM y u):
 KT H (dg a k y) (storedH c k b u):=by
 have e:(a.any λg=>decide (g.1=k))=(Xy c k).isSome:=by
  rw[yR,(r.val k).isSome_eq,S8]
 unfold dg storedH;rw[e];by_cases q:(Xy c k).isSome=Qr
 ·rw[if_pos q,if_pos q];exact r.repl k d
 ·rw[if_neg q,if_neg q];exact ZF r ⟨rfl,f,d⟩
theorem KT.keeps(r:KT H a f)(e:∀b c,H b=Qq (.tup c)->d b=Qq (.tup c)):KT d a f :=
 Vq.mapP r λ_ ω z=>⟨z.1,e _ _ z.2.1,z.2.2⟩
section
theorem Df(b:fC P w H h)(e:Rd H a u):cg P w H h a u:=e.ok b
theorem iW(c:fC P w H h)(e:Rd H a (.dK kvs)):kvs.length<=QG/\(a==RM)=Qv/\∃b,KV kvs b/\h.DictOf (aN P w) a b :=
 Df c e
theorem qO(d:fC P w H h)(e:H a=Qq (.dK b)):b.length<=QG/\(a==RM)=Qv/\∃c,KV b c/\h.DictOf (aN P w) a c:=iW d (.inl e)
theorem kY(i:fC P w H h)(e:H a=Qq (.tup (g.map kV))):(Vs (aN P w)).is h g a:=by
 obtain⟨_,b,r,o,c,d,n,f⟩:=(i a _ e);exact⟨o,b.toArray,n,c,d,f,by simpa using Do r⟩
theorem pP(g:fC P w H h)(e:Rd H a (.dT c)):c.length<=QG/\(a==RM)=Qv /\
 ∃d,KT H c d/\h.DictOfH (Vs (aN P w)) a d:=by
 obtain⟨z,y,d,r,o,j,i,k,n,s,u,v⟩:=(Df g e);refine⟨z,y,d,r,o,j,i,k,n,s,u,λx b=>?_,v⟩;have f:∀ {l:List (List aR×V)}{m:List (List aR×QC×Qz)},KT H l m->∀x∈m,(Vs (aN P w)).is h x.1 x.2.1:=by
  intro l m q
  induction q with
  |nil=>simp_all
  | @cons p q C D B t A =>
   intro x b;rcases QL.mp b with e|b
   ·subst e;exact kY g (by simp_all)
   ·exact A x b
 exact f r x b
theorem tY(d:fC P w H h)(e:H a=Qq (.dT b)):b.length<=QG/\(a==RM)=Qv /\
 ∃c,KT H b c/\h.DictOfH (Vs (aN P w)) a c:=pP d (.inl e)
end
noncomputable def fE(H:Hp)(a:QC)(y:V)(r:Option V):Prop :=
 (∃c k,Rd H a (.dK c)/\y=kV k/\r=du c k)\/∃c k b,Rd H a (.dT c)/\y=.ref b/\H b=Qq (.tup (k.map kV))/\r=du c k
noncomputable def jL(H:Hp)(a:QC)(y v:V)(d:Hp):Prop :=
 (∃c k,H a=Qq (.dK c)/\y=kV k/\c.length<QG/\d=upd H a (.dK (dg c k v))) \/
 ∃c k b,H a=Qq (.dT c)/\y=.ref b/\H b=Qq (.tup (k.map kV))/\c.length<QG/\d=upd H a (.dT (dg c k v))
theorem fE.k{H:Hp}{a:QC}{kvs:List (aR×V)}{k:aR}(e:H a=Qq (.dK kvs)):fE H a (kV k) (du kvs k):=.inl ⟨kvs,k,.inl e,rfl,rfl⟩
theorem fE.t{H:Hp}{a b:QC}{kvs:List (List aR×V)}{k:List aR}(e:H a=Qq (.dT kvs))(eb:H b=Qq (.tup (k.map kV))):fE H a (.ref b) (du kvs k):=.inr ⟨kvs,k,b,.inl e,rfl,eb,rfl⟩
theorem jL.k{k:aR}(e:H a=Qq (.dK b))(c:b.length<QG):jL H a (kV k) v (upd H a (.dK (dg b k v))):=.inl ⟨b,k,e,rfl,c,rfl⟩
theorem jL.t{H:Hp}{a b:QC}{kvs:List (List aR×V)}{k:List aR}{v:V}(e:H a=Qq (.dT kvs))(eb:H b=Qq (.tup (k.map kV)))(hl:kvs.length<QG):
 jL H a (.ref b) v (upd H a (.dT (dg kvs k v))):=.inr ⟨kvs,k,b,e,rfl,eb,hl,rfl⟩
section
theorem aD.big(I:aD X a b H s):RM<s.heap.objs.size:=by
 have h:=(I.mod.glob.keeps I.bk).lt;exact Nat.lt_trans (by decide) h
theorem LD(C:A.units+1<Rq)(I:aD X i D H s)(g:fE H a y (Qq v))(r:aM y u)(h:∀f t,aD X i D H t->aM v f->Q f t):
 QI (QJ X.prog X.w) A (Vv (.ref a) u) Q E s:=by
 rcases g with⟨q,k,e,m,l⟩|⟨q,k,b,e,m,w,l⟩
 ·subst m;obtain⟨z,x,F,c,j⟩:=iW I.hok e;obtain⟨f,o,d⟩:=dN.some_of (by rw[l];exact c.val k);exact ZZ (qh r) j.mapOf o (h f _ (I.tok _) d)
 ·subst m;cases (r);obtain⟨z,x,G,c,j⟩:=pP I.hok e;obtain⟨f,o,d⟩:=dN.some_of (by rw[l];exact c.val k);obtain⟨p,B,n⟩:=QA.mp o;refine wpAny_getItem_heap (Tf C) (kY I.hok w) j B ?_;rw[n];exact h f _ (I.tok _) d
theorem Bp(t:A.units+1<Rq)(I:aD X d v H s)(g:fE H a y o)(n:aM y u)(h:∀p,aD X d v H p->Q (.bool o.isSome) p):
 QI (QJ X.prog X.w) A (QK .In u (.ref a)) Q E s:=by
 rcases g with⟨m,k,e,i,l⟩|⟨m,k,b,e,i,r,l⟩
 ·subst i;obtain⟨z,j,w,c,f⟩:=iW I.hok e;refine wpAny_in_of (qh n) j f.mapOf ?_;rw[<- (c.val k).isSome_eq,<- l];exact h _ (I.tok _)
 ·subst i;cases (n);obtain⟨z,j,x,c,f⟩:=pP I.hok e;refine wpAny_in_heap (Tf t) (kY I.hok r) j f ?_;have q:=(c.val k).isSome_eq;rw[S8]at q;rw[<- q,<- l];exact h _ (I.tok _)
theorem LQ(t:A.units+1<Rq)(I:aD X d v H s)(g:fE H a y o)(n:aM y u)(h:∀p,aD X d v H p->Q (.bool (!o.isSome)) p):
 QI (QJ X.prog X.w) A (QK .NotIn u (.ref a)) Q E s:=by
 rcases g with⟨m,k,e,i,l⟩|⟨m,k,b,e,i,r,l⟩
 ·subst i;obtain⟨z,j,w,c,f⟩:=iW I.hok e;refine wpAny_notIn_of (qh n) j f.mapOf ?_;rw[<- (c.val k).isSome_eq,<- l];exact h _ (I.tok _)
 ·subst i;cases (n);obtain⟨z,j,x,c,f⟩:=pP I.hok e;refine wpAny_notIn_heap (Tf t) (kY I.hok r) j f ?_;have q:=(c.val k).isSome_eq;rw[S8]at q;rw[<- q,<- l];exact h _ (I.tok _)
theorem v9(I:aD X c k H s)(j:rZ (H a))(i:Sk a s.heap d)(h:∃q,d.get? a=Qq q)(e:cg X.prog X.w (upd H a f) d a f):
 aD X c k (upd H a f) {s with heap:=d,toks:=t'} :=
 I.write j (.inl rfl) (λb q g z=>(i.2 b g).trans z) h e
theorem Em(z:b.length<=QG)(g:(a==RM)=Qv)(c:KV b d)(e:f.DictOf (aN P w) a d):
 cg P w h f a (.dK b):=⟨z,g,d,c,e⟩
theorem LS(U:A.units+1<Rq)(I:aD X j σ H s)(g:jL H a y v L)(G:aM y u)(F:aM v r)(h:∀J,aD X j σ L J->Q () J):
 QI (QJ X.prog X.w) A (ZM (.ref a) u r) Q E s:=by
 rcases g with⟨d,k,e,p,l,o⟩|⟨d,k,b,e,p,B,l,o⟩
 ·subst p o;obtain⟨z,t,Y,f,n⟩:=qO I.hok e;have W:Y.length<=QG:=by rw[<- f.length];exact z
  have w:(dg d k v).length<=QG:=by have:=zh d k v;omega
  refine YM (qh G) n λD i x=>h _ ?_;have T:∃q,D.get? a=Qq q:=let⟨q,_,_,m,_⟩:=i;⟨q,m⟩;exact v9 I (by rw[e];exact RQ) x T (Em w t (f.put k F) i)
 ·subst p o;cases (G);obtain⟨z,t,Z,f,n⟩:=tY I.hok e;have W:Z.length<=QG:=by rw[<- Uj f];exact z
  have w:(dg d k v).length<=QG:=by have:=zh d k v;omega
  refine wpAny_setItem_heap (Tf U) (kY I.hok B) n λD i x=>h _ ?_;obtain⟨q,N,M,m,O,P,R,_,S⟩:=i;refine v9 I (by rw[e];exact RQ) x ⟨q,m⟩ ⟨w,t,_,(f.put k B F).keeps λc ys C=>?_,q,N,M,m,O,P,R,S⟩;rw[bS (qG C e (λz=>nomatch z))];exact C
end
section
theorem um(I:aD X b j H s)(e:Rd H a (.dK d))(h:∀t f,aD X b j H f->Q (.int d.length t) f):QI (QJ X.prog X.w) A (call (.builtin "len") [.ref a]) Q E s:=by
 obtain⟨z,i,k,c,g⟩:=iW I.hok e;refine call_len_dict i g (by rw[<- c.length];rw[sizeLine_eq]at z;omega) ?_;rw[<- c.length];exact h _ _ (I.tok _)
end
noncomputable def sg(i:Rx):Prop:=∀b a,Wy i Qv b a=operate [b,a] (Vv b a)
theorem Qc{T id:String}(p:YX (.type T) "__getitem__" = pure (Qq (.builtin id)))(q:sg b)
 (h:QI (QJ a w) A (eval e j) (λo f=>QI (QJ a w) A (eval b j) (λi c=>c.TypeIs o T/\QI (QJ a w) A (Vv o i) Q E c) E f) E s) :
 QI (QJ a w) A (eval (.Subscript e b t) j) Q E s:=by
 refine U3 (RL h (λo f l=>RL l (λi c d=>?_) λ_ ω x=>x) λ_ ω x=>x);obtain⟨n,d⟩:=d;refine Qt ?_;rw[getitemInPython_of_ne n.not_modules];refine Qt (WH n p ?_);have k:QI (QJ a w) A (Wy b Qv o i) (λr g=>QI (QJ a w) A (letTemporaryGo e o r >>= λ_=>pure r) Q E g) E c:=by
  rw[q o i];exact wpAny_operating (RL d (λr g m=>Qt (wpAny_letTemporaryGo (QB m))) λ_ ω x=>x)
 first
  |exact QB (Qt k)
  |rfl
  |exact Qt k
theorem Mb(I:aD X f j H s)(g:fE H a y o):s.TypeIs (.ref a) "dict":=by
 rcases g with⟨d,k,e,_,_⟩|⟨d,k,b,e,_,_,_⟩
 ·obtain⟨_,_,h,_,c⟩:=iW I.hok e;exact c.typeIs
 ·obtain⟨_,_,i,_,c⟩:=pP I.hok e;exact c.typeIs
noncomputable def sj(g i h:TE):TS:=λD b H=>h b H λv d=>g b d λx e=>i b e λy f=>∃a c,x=.ref a/\jL f a y v c/\D.nx b c
section
theorem zZp(B:X.A.units+1<Rq)(z:PE X o P)(w:PE X i R)(C:PE X c Q)(A:Sl c (Qq (.Subscript o i d)) f.line X.env=pure Qv):
 PS X (.Assign [.Subscript o i d] c f) (sj P R Q):=by
 intro b s e H D I h;refine XN (bt (C b s e H _ I h) λr N ⟨v,j,m,J,E⟩=>bt (z b N e j _ m E) λu O ⟨x,k,n,L,F⟩=>bt (w b O e k _ n F) λT U ⟨y,S,p,M,a,l,t,g,G⟩=>?_) A;subst t;obtain rfl:u=QV a:=L;exact LS B p g M J λW q=>⟨e,l,q,G⟩
end
theorem IW(h:RS)(a:RM<h.objs.size):cg P w H (h.push {cls:=.type "dict",data:=.dict #[]}) h.objs.size (.dK []) :=
 ⟨Y1 _,beq_eq_false_iff_ne.mpr (Rf (Zc a)),[],.nil,Vk h⟩
noncomputable def oF:TE:=λ_ H Q=>∀p,H p=Qs->Q (.ref p) (upd H p (.dK []))
section
theorem zVj:PE X (.Dict [] [] b) oF:=λa s c H Q I h =>
 wpAny_Dict_empty ⟨.ref s.heap.objs.size,_,I.laid (λ_ ω q=>Z1 _ q) (Z3 _) (IW s.heap I.big),rfl,h _ (I.hok.fresh (Z3 _))⟩
end
structure M1(X:Cx)(o:Rx)(m:QD)(apos:VY)(e:Rx)(cpos:VY):Prop where
 base:Q6 o m X.env (eval o X.env)=eval o X.env
 few:((Rc cpos (Qy [e] X.env)).all (λx=>!x.1) && (T8 cpos (Sq [] X.env)).all (λx=>x.1.isSome)
  && decide (([e]:List Rx).length+([]:List VA).length+(if([]:List VA).isEmpty then 0 else 1)<30))=Qr
 line:(apos.endLine==cpos.line)=Qr
 trees:Rc cpos (Qy [e] X.env)=[(Qv,eval e X.env)]
noncomputable def yV(H:Hp)(a:QC):Prop:=(∃b,Rd H a (.dK b))\/∃b,Rd H a (.dT b)
theorem yC(I:aD X k n H s)(d:yV H a):
 s.TypeIs (.ref a) "dict"/\(∀b,QV a=.ref b->∃c,s.heap.get? b=Qq c/\c.dict=Qs)/\(a==RM)=Qv:=by
 rcases d with⟨j,e⟩|⟨j,e⟩
 ·obtain⟨_,i,l,_,f⟩:=iW I.hok e;refine⟨f.typeIs,λb q=>?_,i⟩;cases q;obtain⟨c,_,_,g,h,_⟩:=f;exact⟨c,g,h.2.1⟩
 ·obtain⟨_,i,m,_,f⟩:=pP I.hok e;refine⟨f.typeIs,λb q=>?_,i⟩;cases q;obtain⟨c,_,_,g,h,_⟩:=f;exact⟨c,g,h.2.1⟩
section
theorem LU(t:A.units+1<Rq)(I:aD X f w H s)(g:fE H a y o)(n:aM y u)(h:∀q p,aD X f w H p->aM (o.getD .non) q->Q q p):
 QI (QJ X.prog X.w) A (call (.builtin "dict.get") [.ref a,u]) Q E s:=by
 rcases g with⟨m,k,e,i,l⟩|⟨m,k,b,e,i,r,l⟩
 ·subst i;obtain⟨z,j,x,c,d⟩:=iW I.hok e;refine U1 Uz d.typeIs Wu (Wh _ _) (meets_dict_get (aN X.prog X.w) a (qh n) j) ⟨_,d.mapOf,h _ _ (I.tok _) ?_⟩;rw[l];exact(c.val k).getD rfl
 ·subst i;cases (n);obtain⟨z,j,v,c,d⟩:=pP I.hok e;refine U1 Uz d.typeIs Wu (Wh _ _) (meetsH_dict_get (Vs (aN X.prog X.w)) a b j) ⟨Tf t,k,v,kY I.hok r,d,h _ _ (I.tok _) ?_⟩;rw[l];exact(c.val k).getD rfl
end
noncomputable def o7(e f:TE):TE:=λd H Q=>e d H λx b=>∃a,x=.ref a/\yV b a/\f d b λy c=>∃o,fE c a y o/\Q (o.getD .non) c
section
theorem zVk(w:X.A.units+1<Rq)(v:PE X o G)(t:PE X e J)(m:M1 X o "get" c e f):PE X (.Call (.Attribute o "get" c) [e] [] f) (o7 G J):=by
 intro b s k H Q I h;refine wpAny_Call_method m.base m.few m.line SU Uz PySem.F.type_dict_get (bt (v b s k H _ I h) λu D ⟨x,l,j,B,a,r,d,z⟩=>?_);subst r;obtain rfl:u=QV a:=B;obtain⟨E,F,_⟩:=yC j d;refine⟨E,F,?_⟩;rw[m.trees];refine Sj rfl (Xc (Xu (bt (t b D k l _ j z) λL N ⟨y,n,p,C,M,g,A⟩=>XH ?_)));exact LU w p g C λP O q i=>⟨_,n,q,i,A⟩
end
section
theorem Oy(I:aD X c n H s)(e:Rd H a (.dK g))(h:∀p j,H p=Qs->aD X c n (upd H p (.dK g)) j->Q (.ref p) j):QI (QJ X.prog X.w) A (call (.type "dict") [.ref a]) Q E s:=by
 obtain⟨z,l,r,d,k⟩:=iW I.hok e;refine kt_call_dict l k (by rw[<- d.length];exact z) λo f m=>?_;refine h _ _ (I.hok.fresh (Z3 _)) (I.laid (λb q i=>?_) (Z3 _) (Em z (beq_eq_false_iff_ne.mpr (Rf (Zc I.big))) d f));exact(m.2 b (Zc (Z6 i))).trans (Z1 _ i)
end
section
end
noncomputable def PFs(X:Cx)(b:List Rx)(t:TT):Prop :=
 ∀(a:List (QC×Ts)) (s:QF) (d:St) (H:Hp) (Q:Bool->Hp->Prop),aD X a d H s->t d H Q ->
  QI (QJ X.prog X.w) X.A (forIn b Qr λc r=>if r=Qr then do let e<-isTrue c X.env (eval c X.env);pure (Uq e)else pure (Uq r)) (TP X a d Q) X.xe s
noncomputable def Br:TT:=λ_ H Q=>Q Qr H
theorem yDo:PFs X [] Br:=λ_ ω ω H ω I h=>wpAny_tests_nil ⟨H,I,h⟩
theorem zY1(h:PT X c t):PFs X [c] t:=λa s b H Q I q=>wpAny_tests_one (h a s b H Q I q)
section
theorem MN(J:Nat->QF->Prop)(N:Qz->QF->Prop)
 (I:N=notedBy (QJ a w) A b λe z=>R (.error e) z)
 (f:∀ k z,J k z->QI (QJ a w) A (WY q) (λr m=>match r with
  |none=>R (.ok .next) m
  | some v=>QI (QJ a w) A (WI t q v) (λ_ u=>QI (QJ a w) A (VR t b v) (λ_ x =>
   QI (QJ a w) A (forIn l Qr λc r=>if r=Qr then do let d <- isTrue c b (eval c b);pure (Uq d) else pure (Uq r)) (λd n =>
    if d=Qr then QI (QJ a w) A (eval i b) (λy B=>QI (QJ a w) A (call (.builtin "list.append") [g,y]) (λ_ C=>∃j,j<k/\J j C) N B) N n
    else ∃j,j<k/\J j n) N x) N u) N m) N z)
 (k:Nat) (h:J k z):SW (QJ a w) A (.compLoop (.ListComp i [⟨t,s,l,0⟩] M L) 0 q g b) R z:=by
 subst I;refine codeAny_loop rfl J (λk z H=>?_) k h;refine wpAny_noted ?_;rw[compTurn_list];refine Qt (VI (Qt (bt (f k z H) λr m o=>?_)));cases r with
 |none=>exact QB o
 |some v =>
  refine Qt (bt o λ_ u D=>?_);refine Qt (bt D λ_ x E=>?_);refine Qt (bt E λd n p=>?_);cases d with
  |false=>exact QB ⟨rfl,p⟩
  |true=>exact Qt (Qt (bt p λy B F=>Qt (bt F λ_ C G=>QB (QB ⟨rfl,G⟩))))
end
noncomputable def br(X:Cx)(e:TH)(b:List (QD×QC))(T:List QD)(C:QC)(d:QF)(a:Hp)(c:List QC):Cx where
 prog:=X.prog
 w:=X.w
 K:=X.K
 mg:=X.mg
 base:=X.base
 A:=X.A
 N:=X.N++T
 s₀:=d
 H₀:=a
 env:=Sz e b C X.env
 outer:=X.stack
 stack:=X.stack
 ex:=c
 fn:=λ_=>Qv
 calm:=X.calm
 pn:=[]
 xe:=λ_ ω=>False
noncomputable def kQ(X:Cx):List (QD×QC)->Prop
 |[]=>True
 |p::r=>X.env.cells.lookup p.1=Qq p.2/\kQ X r
theorem kQ.look:∀ {a:List (QD×QC)},kQ X a->∀x c,a.lookup x=Qq c->X.env.cells.lookup x=Qq c
 |[],_,_,_,h=>by cases h
 |p::r,k,x,c,h=>by
  cases e:x==p.1 with
  |true =>
   rw[Zq,e]at h;have b:x=p.1:=by simpa using e
   rw[b,k.1];exact h
  |false =>
   rw[Zq,e]at h;exact kQ.look k.2 x c h
structure dh(X:Cx)(sc:TH)(cl:List (QD×QC))(T:List QD):Prop where
 clos:U0 sc X.env=pure cl
 cell:∀y∈sc.names,y.2≠.cell
 kind:sc.kind=.function
 names:∀x∈sc.names,x.2=.local->sc.names.lookup x.1=Qq .local
 cls:kQ X cl
 has:∀x∈sc.names,x.2=.free->(cl.lookup x.1).isSome=Qr/\(X.env.scope.names.lookup x.1=Qq .cell\/X.env.scope.names.lookup x.1=Qq .free)
 out:∀x∈X.N,sc.names.lookup x≠Qq .local
theorem Ax{sc:TH}{env:X9}:∀ {a:List (QD×W9)},
 (a.map λ(n,k)=>if(k==Ti&&env.scope.kind==.function&&env.kindOf n==Qq .cell)then(n,US)else(n,k)).lookup x=Qq k ->
 ∃j,(x,j)∈a/\a.lookup x=Qq j/\(j=k\/(j=.free/\k=.cell))
 |[],h=>by cases h
 |(n,j)::r,h=>by
  cases e:x==n with
  |true =>
   have d:x=n:=by simpa using e
   subst d;refine⟨j,Za,by simp_all,?_⟩;have b:TF x ((if(j==Ti&&env.scope.kind==.function&&env.kindOf x==Qq .cell)=Qr then(x,US)else(x,j))::_)=Qq k:=h;by_cases c:(j==Ti&&env.scope.kind==.function&&env.kindOf x==Qq .cell)=Qr
   all_goals simp_all
  |false =>
   have b:TF x ((if(j==Ti&&env.scope.kind==.function&&env.kindOf n==Qq .cell)=Qr then(n,US)else(n,j))::_)=Qq k:=h;have f:(Ud (λ(n,k)=>if(k==Ti&&env.scope.kind==.function&&env.kindOf n==Qq .cell)then(n,US)else(n,k)) r).lookup x=Qq k:=by
    by_cases c:(j==Ti&&env.scope.kind==.function&&env.kindOf n==Qq .cell)=Qr
    ·rw[if_pos c,Zq,e]at b;exact b
    ·rw[if_neg c,Zq,e]at b;exact b
   obtain⟨i,m,l,q⟩:=Ax (sc:=sc) f;exact⟨i,Z4 _ m,by rw[Zq,e];exact l,q⟩
section
theorem dh.seen(S:dh X f e T)(h:(Sz f e C X.env).scope.names.lookup x=Qq .cell\/(Sz f e C X.env).scope.names.lookup x=Qq .free):
 (∃c,e.lookup x=Qq c)/\(X.env.scope.names.lookup x=Qq .cell\/X.env.scope.names.lookup x=Qq .free):=by
 have d:∀k,(k=.cell\/k=.free)->(relabel f X.env).names.lookup x=Qq k->(∃c,e.lookup x=Qq c)/\(X.env.scope.names.lookup x=Qq .cell\/X.env.scope.names.lookup x=Qq .free):=by
  intro k g h;obtain⟨j,m,l,q⟩:=Ax (sc:=f) h;have i:j=.free:=by
   rcases q with rfl|⟨q,_⟩
   ·rcases g with rfl|rfl
    ·exact absurd rfl (S.cell _ m)
    ·rfl
   ·exact q
  subst i;obtain⟨a,b⟩:=S.has _ m rfl;exact⟨RH.mp a,b⟩
 rcases h with h|h
 ·exact d _ (.inl rfl) h
 ·exact d _ (.inr rfl) h
theorem dh.local_out(S:dh X sc a T)(b:x∈X.N):(Sz sc a C X.env).scope.names.lookup x≠Qq .local:=by
 intro h;obtain⟨j,m,l,q⟩:=Ax (sc:=sc) h;rcases q with rfl|⟨_,q⟩
 ·exact S.out x b l
 ·cases q
theorem MT(S:dh X p j T)(I:aD X d q H s)(f:∀b∈g,gO X d H b)(m:∀b∈g,b<s.heap.objs.size)(i:s.heap.objs.size<=C):(br X p j T C s H g).Ok where
 mod:=I.ok.mod
 kind:=S.kind
 glob:=I.ok.glob
 blt:=I.ok.blt
 above:=i
 inj:=λx y c k l=>I.ok.inj x y c (S.cls.look x c k) (S.cls.look y c l)
 has:=λx n=>(S.seen n).1
 cab:=λx c h=>by cases h
 hd:=I.ok.hd
 frames:=I.ok.frames
 stk:=.inl rfl
 exf:=λb a=>⟨Zc (Zd (m b a) i),λx c h=>(f b a).2.2.2.2.1 x c (S.cls.look x c h)⟩
 bs:=I.bs
 bsz:=Z9 I.ok.bsz I.sz
 noex:=λb o e a=>by
  rcases(f b a).2.2.2.1 with z|z
  ·exact I.ok.noex b o e z
  ·exact absurd (Zd (Z6 e) (Z9 I.ok.bsz z)) (Zv _)
 exfs:=λb a z=>by
  rcases QL.mp (I.stkSub b z)with e|e
  ·exact(f b a).2.1 e
  ·exact(f b a).2.2.1 e
 funs:=I.stack
 frf:=I.stkFree
theorem HN(S:dh X E t T)(I:aD X n q H s)(M:∀b∈F,gO X n H b)(N:∀b∈F,b<s.heap.objs.size)(G:s.heap.objs.size<=C){w:RS}{m:QD->Option Qz}{t1:Nat}
 (k:∀b o,s.heap.get? b=Qq o->w.get? b=Qq o) (O:w.Ns C m):aD (br X E t T C s H F) [] (q++QE T.length Qs) H {s with heap:=w,toks:=t1} where
 ok:=MT S I M N G
 os:=rfl
 bare:=I.bare
 base:=Un.kept k
 loc:=by
  refine⟨m,O,λi x v J f L=>?_⟩;have j:i<q.length:=by
   by_cases j:i<q.length
   ·exact j
   ·rw[Zm (Nat.not_lt.mp j),Sa]at f;split at f<;>cases f
  rw[Zi j]at f;have d:X.N[i]?=Qq x:=by
   have e:(X.N++T)[i]?=Qq x:=J
   rwa [Zi (by rw[<- I.len];exact j)]at e
  have R:=Ze d;have g:(Sz E t C X.env).scope.names.lookup x=Qq .cell\/(Sz E t C X.env).scope.names.lookup x=Qq .free:=by
   rcases L with z|z|z
   ·exact absurd z (S.local_out R)
   ·exact .inl z
   ·exact .inr z
  obtain⟨⟨c,a⟩,Y⟩:=S.seen g;obtain⟨m0,P,B⟩:=I.loc;obtain⟨u,r,l⟩:=B i x v d f (.inr Y);refine⟨u,r,.inr ⟨g,c,a,?_⟩⟩;have y:=S.cls.look x c a;rcases l with⟨U,_⟩|⟨_,Z,h,z⟩
  ·have W:X.env.scope.names.lookup x=Qq .local:=U
   simp_all
  ·rw[y]at h;cases h;obtain⟨o,D,A⟩:=z;exact⟨o,k _ _ D,A⟩
 cell:=λx c a=>by
  obtain⟨v,o,D,A⟩:=I.cell x c (S.cls.look x c a);exact⟨v,o,k _ _ D,A⟩
 free:=I.hok.fresh G
 freeC:=λx c a=>I.freeC x c (S.cls.look x c a)
 pin:=λp Q=>absurd (show p∈([])from Q) (by simp)
 hok:=I.hok.kept k
 len:=by
  show(q++QE T.length Qs).length=(X.N++T).length;rw[Zh,Zh,UO,I.len]
theorem Nn(S:dh X F w T)(I:aD X d G H s)(i:∀b∈x,gO X d H b)(l:s.heap.objs.size<=D)(M:s.heap.objs.size<=C)(y:D≠C)(J:aD (br X F w T C s H x) N L k p)(m:k D=Qs)(E:aG t g)(z:t.length<=QG)(h:p.heap.get? D=Qq (Uo g)):
 aD X d G (upd k D (.lst t)) p:=by
 have j:=I.hok.fresh l;have A:∀b o,s.heap.get? b=Qq o->b≠D:=λb o e=>Zc (Zd (Z6 e) l);refine I.call' J.os ⟨λb o e n a f=>J.base.keep b o e n a f,λb o e n a f=>J.base.slot b o e n a f,λb o e n f=>?_,λb o e f=>J.base.there b o e f,λb r e=>?_,λb o u e=>?_,λb B e=>?_⟩ (λb u e=>?_) J.bare λb a=>⟨(i b a).2.2.2.1,(i b a).2.1,(i b a).2.2.2.2.1,(i b a).2.2.2.2.2⟩
 ·rw[bS (A b o e)];exact J.base.free b o e n f
 ·rw[bS (eK e j)];exact J.base.tups b r e
 ·rw[bS (eK e j)];exact J.base.frzs b o u e
 ·rw[bS (eK e j)];exact J.base.tbls b B e
 ·by_cases a:b=D
  ·subst a;rw[dm]at e;cases e;exact⟨z,g,g.length,E,h⟩
  ·rw[bS a]at e;exact(J.hok b u e).stay (λc v ω q=>q) (λc q=>by rw[bS (eK q m)];exact q) λc r q=>by rw[bS (eK q m)];exact q
end
noncomputable def fO(J:It)(k:Nat)(q:St)(h:Hp)(g:TG)(o:TT)(n:TE)(Q:VK):Prop:=∃W:Nat->Nat->List V->Hp->Prop,(∃m,W 0 m [] h)/\∀i m a H,W i m a H ->
 (J.stop i H/\a.length<=QG/\∀p,H p=Qs->Q (.ref p) (upd H p (.lst a))) \/
 (J.go i H/\a.length<=QG/\∀ x e,J.yld i H x e->g x (q++QE k Qs) e λd j=>o d j λb f =>
  if b=Qr then n d f λy l=>∃c,c<m/\W (i+1) c (a++[y]) l else ∃c,c<m/\W (i+1) c a f)
noncomputable def lY(k:Nat)(e:TI)(g:TG)(d:TT)(c:TE):TE:=λa H Q=>e a H λJ b=>fO J k a b g d c Q
section
theorem Cn{Q:VK}{R:Qz->QC->Result->QF->Prop}(hc:∀C s H fp,Φ (br X M cl T C s H fp))(S:dh X M cl T)
 (hg:∀C s H fp,PG (br X M cl T C s H fp) tg g) (hf:∀C s H fp,PFs (br X M cl T C s H fp) az tt) (he:∀C s H fp,PE (br X M cl T C s H fp) elt te)
 (I:aD X U σ Z a) (A:oq Φ X.prog X.w X.K tg J fp it tn) (st:tn 0 a.heap) (f2:∀b∈fp,gO X U Z b)
 (W:Nat->Nat->List V->Hp->Prop) (m0:Nat) (w0:W 0 m0 [] Z)
 (a8:∀ i m N H,W i m N H->(J.stop i H/\N.length<=QG/\∀ p,H p=Qs->Q (.ref p) (upd H p (.lst N))) \/
  (J.go i H/\N.length<=QG/\∀ x d,J.yld i H x d->g x (σ++QE T.length Qs) d λa9 Z=>tt a9 Z λb H3 =>
   if b=Qr then te a9 H3 λy H4=>∃P,P<m/\W (i+1) P (N++[y]) H4 else ∃P,P<m/\W (i+1) P N H3))
 (hR:∀  D C   s1  (H1:Hp)  m ,aD X U σ H1 s1->H1 C=Qs->C≠X.env.locals->X.s₀.heap.objs.size<=C->(∀ x c,X.env.cells.lookup x=Qq c->c≠C)->(∀ p∈X.pn++U,p.1≠C) ->
  s1.heap.Ns C m->Q (.ref D) H1->R (.ref D) C (.ok .next) s1) :
 QI (QJ X.prog X.w) X.A (newList []) (λan a6=>QI (QJ X.prog X.w) X.A (newFunctionEnv M X.env.globals cl [] X.env.qual Qs .none (Qq X.env)) (λab a7 =>
  SW (QJ X.prog X.w) X.A (.compStart (.ListComp elt [⟨tg,a0,az,0⟩] M bk) 0 (.ref it) an {ab with scope:=relabel M X.env}) (R an ab.locals) a7) E a6) E a:=by
 refine ZJ (Yw S.cell (by intro y hy;simp at hy) (λh1 ay al=>?_) S.kind);generalize hH:a.heap.push {cls:=.type "list",dict:=Qs,data:=.seq ([]).toArray}=G at ay al ⊢;have hC:G.objs.size=a.heap.objs.size+1:=by rw[<- hH,Zs]
 have O:a.heap.objs.size≠G.objs.size:=by simp_all
 have w:a.heap.objs.size<=G.objs.size:=by simp_all
 have ak:=λb o e=>by
  exact al.extBut b o (Zc (Zd (Z6 e) w)) (Z1 _ (hH▸Z1 _ e))
 have hacc:=al.extBut _ _ O (Z1 _ (hH▸Z5 _ rfl));have fl:∀b∈fp,b<a.heap.objs.size:=λb t=>by
  obtain⟨o,e,_⟩:=A.obj _ _ st b t;exact Z6 e
 have DS:a.heap.objs.size∉j0 X.stack:=λz=>by
  rcases QL.mp (I.stkSub _ z)with e|e
  ·exact Zc I.lt e.symm
  ·exact I.nofs (Z3 _) e
 have ai:∀  i  (h h':RS),tn i h->(∀b o,b<a.heap.objs.size->h.get? b=Qq o->h'.get? b=Qq o)->tn i h':=λi h h' z k=>A.keep i h h' z λb t o e=>k b o (fl b t) e;have af:∀ {d:Hp}{pl:List (QC×Ts)},(∀b∈fp,d b=Qs)->(∀p∈pl,a.heap.objs.size<=p.1)->∀b∈fp,gO (br X M cl T G.objs.size a Z fp) pl d b:=fun {d pl} hn hp b t=>by
  refine⟨hn b t,λz=>?_,λz=>?_,.inl t,λx c h=>(f2 b t).2.2.2.2.1 x c (S.cls.look x c h),λp bh z=>?_⟩
  ·exact Zc (Zd (fl b t) w) z
  ·rcases QL.mp (I.stkSub b z)with e|e
   ·exact(f2 b t).2.1 e
   ·exact(f2 b t).2.2.1 e
  ·exact Zc (Zd (fl b t) (hp p (bh))) z.symm
 let Y:=br X M cl T G.objs.size a Z fp
 have ac:∀z:QF,z={a with heap:=h1,toks:=a.toks+([]:List (QD×Qz)).length} ->
  SW (QJ X.prog X.w) X.A (.compLoop (.ListComp elt [⟨tg,a0,az,0⟩] M bk) 0 (.ref it) (.ref a.heap.objs.size) (Sz M cl G.objs.size X.env)) (R (.ref a.heap.objs.size) G.objs.size) z:=by
  rintro z rfl;refine MN (λn z=>∃i N f d,aD Y [] (σ++QE T.length Qs) d z/\tn i z.heap/\(∀b∈fp,d b=Qs)/\d a.heap.objs.size=Qs/\aG N f/\z.heap.get? a.heap.objs.size=Qq (Uo f)/\W i n N d) _ rfl ?_ m0
   ⟨0,[],[],Z,HN S I f2 fl w ak ay,A.keep _ _ _ st λb t o e=>ak b o e,λb t=>(f2 b t).1,I.hok.fresh (Z3 _),.nil,hacc,w0⟩
  rintro n z ⟨i,N,f,d,IY,a5,frz,fD,rv,hget,wz⟩;have IP:aD Y [(a.heap.objs.size,Uo f)] (σ++QE T.length Qs) d z:=IY.pins_of λp hp=>by
   have e:p=(a.heap.objs.size,Uo f):=by simpa using hp
   subst e;exact⟨hget,fD,O,DS,λv q=>by simp_all⟩
  have ah:∀p∈[(a.heap.objs.size,Uo f)],a.heap.objs.size<=p.1:=λp hp=>by
   simp_all
  rcases a8 i n N d wz with⟨a4,hz,q⟩|⟨go,hz,step⟩
  ·refine bt (A.done Y rfl rfl rfl (hc _ _ _ _) i _ z _ d _ IP (af frz ah) a5 a4) λr z1 ⟨hr,I1⟩=>?_;subst hr;have g1:=(I1.pin (a.heap.objs.size,Uo f) (by simp[br])).1;obtain⟨mC,bg,_⟩:=I1.loc;have bj:=Nn S I f2 (Z3 _) w O I1 fD rv hz g1;refine hR _ _ z1 _ mC bj ?_ ?_ ?_ ?_ ?_ bg (q _ fD)
   ·rw[bS (Rf O)];exact I1.free
   ·exact(Zc (Zd I.lt w)).symm
   ·exact Z9 I.sz w
   ·intro x c bd;obtain⟨v,zc⟩:=I.cell x c bd;exact Zc (Zd zc.lt w)
   ·intro p hp;exact Zc (Zd (Z6 (I.pin p hp).1) w)
  ·refine bt (A.item Y rfl rfl rfl (hc _ _ _ _) i _ z _ d _ IP (af frz ah) a5 go) λr z1 ⟨u,hr,bc⟩=>?_;subst hr;refine bt bc λ_ z2 ⟨x,H3,I3,r3,y3,am,bb⟩=>?_;have ba:=I3.pinned (af bb ah) (A.obj _ _ am);have fin:∀ {d:Hp}{F:St}{L:QF},aD Y ([(a.heap.objs.size,Uo f)]++f9 fp z2.heap) F d L->tn (i+1) L.heap/\(∀b∈fp,d b=Qs)/\d a.heap.objs.size=Qs/\L.heap.get? a.heap.objs.size=Qq (Uo f):=fun {d F L} B=>by
    have a1:∀b∈fp,∀o,z2.heap.get? b=Qq o->L.heap.get? b=Qq o/\d b=Qs:=λb t o e =>
     let p:=B.pin (b,o) (Zt _ (Zt _ (xG t e)))
     ⟨p.1,p.2.1⟩
    have a2:=B.pin (a.heap.objs.size,Uo f) (Zt _ (by simp))
    exact ⟨A.keep _ _ _ am λb t o e=>(a1 b t o e).1,λb t=>by
     obtain⟨o,e,_⟩:=A.obj _ _ am b t
     exact(a1 b t o e).2,a2.2.1,a2.1⟩
   have aa:∀ {d:Hp}{F:St}{L:QF},aD Y ([(a.heap.objs.size,Uo f)]++f9 fp z2.heap) F d L->aD Y [] F d L:=λB=>B.pins_of λp hp=>absurd hp (by simp);refine RL (hg G.objs.size a Z fp _ z2 _ H3 x u _ ba r3 (step x H3 y3)) (λ_ z3 ⟨bl,H4,I4,q4⟩=>?_) λ_ ω e=>e.elim;refine RL (hf G.objs.size a Z fp _ z3 _ H4 _ I4 q4) (λok z4 ⟨H5,I5,q5⟩=>?_) λ_ ω e=>e.elim;have aj:∀ {d:Hp}{F:St}{L:QF}{pl},aD Y pl F d L->(σ++QE T.length Qs).length=F.length:=λB=>by rw[B.len];exact IY.len
   have ae:∀ {d:Hp}{L:QF},aD Y [] bl d L->aD Y [] (σ++QE T.length Qs) d L:=fun {d L} B=>by
    obtain⟨P,bf,bm⟩:=B.loc;obtain⟨_,_,be⟩:=I.loc;refine⟨B.ok,B.os,B.bare,B.base,⟨P,bf,λj x v e1 e2 e3=>?_⟩,B.cell,B.free,B.freeC,B.pin,B.hok,(aj B).trans B.len⟩;have hj:j<σ.length:=by
     by_cases hj:j<σ.length
     ·exact hj
     ·rw[Zm (Nat.not_lt.mp hj),Sa]at e2;split at e2<;>cases e2
    have ap:=e2;rw[Zi hj]at ap;have ao:X.N[j]?=Qq x:=by
     have e:(X.N++T)[j]?=Qq x:=e1
     rwa [Zi (by rw[<- I.len];exact hj)]at e
    have hx:x∈X.N:=Ze ao;have aq:(Sz M cl G.objs.size X.env).scope.names.lookup x=Qq .cell\/(Sz M cl G.objs.size X.env).scope.names.lookup x=Qq .free:=by
     rcases e3 with z|z|z
     ·exact absurd z (S.local_out hx)
     ·exact .inl z
     ·exact .inr z
    obtain⟨⟨c,hc'⟩,ko⟩:=S.seen aq;obtain⟨u,r,l⟩:=be j x v ao ap (.inr ko);have ag:=S.cls.look x c hc';refine⟨u,r,.inr ⟨aq,c,hc',?_⟩⟩;rcases l with⟨kl,_⟩|⟨_,c',hc2,zc⟩
    ·have bn:X.env.scope.names.lookup x=Qq .local:=kl
     simp_all
    ·rw[ag]at hc2;cases hc2;obtain⟨o,ho,hd⟩:=zc;have bi:c∉fp:=λt=>(f2 c t).2.2.2.2.1 x c ag rfl;obtain⟨sl,e⟩:=B.base.any ho (I.freeC x c ag) bi;exact⟨_,e,hd⟩
   cases ok with
   |false =>
    rw[if_neg Zb]at q5 ⊢;obtain⟨P,hm,w'⟩:=q5;obtain⟨b1,b2,b3,b4⟩:=fin I5;exact⟨P,hm,i+1,N,f,H5,ae (aa I5),b1,b2,b3,rv,b4,w'⟩
   |true =>
    rw[if_pos rfl]at q5 ⊢;refine RL (he G.objs.size a Z fp _ z4 _ H5 _ I5 q5) (λy z5 ⟨yv,H6,I6,r6,q6⟩=>?_) λ_ ω e=>e.elim;obtain⟨P,hm,w'⟩:=q6;obtain⟨b1,b2,b3,b4⟩:=fin I6;refine append_at (hsz:=by show f.toArray.size<=QG;rw[Zn,<- rv.length];exact hz) b4 λh6 a3 g6=>?_
    have I7:aD Y [] (σ++QE T.length Qs) H6 { z5 with heap:=h6 }:=(ae (aa I6)).turned (t':=z5.toks) (it:=a.heap.objs.size) (λb o t e=>(a3.2 b t).trans e) b3 O (.inr (Z3 _)) (λx c h=>by
     obtain⟨v,zc⟩:=I.cell x c (S.cls.look x c h)
     exact Zc zc.lt) λp hp=>absurd (show p∈([]:List (QC×Ts))from hp) (by simp)
    refine⟨P,hm,i+1,N++[yv],f++[y],H6,I7,ai _ _ _ b1 λb o t e=>(a3.2 b (Zc t)).trans e,b2,b3,rv.append (.cons r6 .nil),g6.trans (congrArg Qq (LCg.lst_snoc f y)),w'⟩
 exact codeAny_compStart_list (ac _ rfl) (A.self _ 0 _ _ _ (A.keep _ _ _ st λb t o e=>ak b o e) (ac _ rfl))
theorem zRx(F:X.calm=Qr)(S:dh X i k T)(N:PI X r a wi)
 (M:∀C s H c,PG (br X i k T C s H c) r g) (L:∀C s H c,PFs (br X i k T C s H c) n tt) (G:∀C s H c,PE (br X i k T C s H c) l te)
 (P:autoParam (∀x,Rt a X.env x=pure x) A13._auto_1):PE X (.ListComp l [⟨r,a,n,0⟩] i aa) (lY T.length wi g tt te):=by
 intro d s σ H Q I h;rw[eval_ListComp];refine Xl rfl P S.clos S.kind S.names (bt (N d s σ H _ I h) λv s1 A=>bt A λR s2 B=>?_);obtain⟨it,c,tn,J,H2,e,w,j,p,y,W,⟨U,w0⟩,f⟩:=B;subst e;refine Cn (λ_ ω ω ω=>F) S M L G w j p y W U w0 f λD C z t m u Y Z n3 n4 n5 O q=>?_;exact⟨m,O,λh' sb=>⟨.ref D,t,u.turned (λb o E e=>(sb.2 b E).trans e) Y Z (.inr n3) n4 n5,rfl,q⟩⟩
theorem zPn(hc:X.calm=Qr)(S:dh X l u T)(hi:PI X M c wi)
 (hg:∀C s H d,PG (br X l u T C s H d) M g) (hf:∀C s H d,PFs (br X l u T C s H d) j tt) (he:∀C s H d,PE (br X l u T C s H d) f te)
 (hN:X.N.Nodup) (B:X.N[i]?=Qq y) (N:X.env.scope.names.lookup y=Qq .local)
 (E:Sl (.ListComp f [⟨M,c,j,0⟩] l F) (Qq (.Name y py)) n.line X.env=pure Qr)
 (hs:autoParam (∀x,Rt c X.env x=pure x) A13._auto_1) :
 PS X (.Assign [.Name y py] (.ListComp f [⟨M,c,j,0⟩] l F) n) (nH (lY T.length wi g tt te) (fq i)):=by
 intro k s R H D I h;rw[exec_Assign_Name_used _ _ _ _ E];refine Qt (VI (Qt ?_));refine Qt (bt (Xl rfl hs S.clos S.kind S.names (bt (hi k s R H _ I h) λv s1 h1=>bt h1 λaa s2 h2=>?_)) λ_ s' hq=>QB (QB hq));obtain⟨it,d,tn,J,H2,e,Z,t,L,f2,W,⟨m0,w0⟩,p⟩:=h2;subst e;refine Cn (Q:=λx r=>fq i x R r D.nx) (λ_ ω ω ω=>hc) S hg hf he Z t L f2 W m0 w0 p λA C z r m Y n1 O n3 P n5 hn q=>?_;refine ZK (Fi (v:=.ref A) Y hN B (.inl N) rfl (λz' U ⟨a,sb,ha⟩=>?_) (.inr N));have w:C≠a:=by
  rcases ha with e|e
  ·rw[e];exact O
  ·exact(P y a e).symm
 refine⟨m,hn.sameBut sb w,λh' G=>⟨_,r,U.turned (λb o hb e=>(G.2 b hb).trans e) n1 O (.inr n3) P n5,q⟩⟩
end
section
theorem v1(r:aG [x] c):∃u,c=[u]/\aM x u:=by
 cases r with
 |cons a b=>cases b;exact⟨_,rfl,a⟩
theorem v2(r:aG [x,y] e):∃u v,e=[u,v]/\aM x u/\aM y v:=by
 cases r with
 |cons a b =>
  cases b with
  |cons c d=>cases d;exact⟨_,_,rfl,a,c⟩
theorem GA:bL X (.builtin "isinstance") (λm H Q=>∃x c t g b,m=[x,c]/\fz X.K H x t/\aM c g/\Ro X.K t g=Qq b/\Q (.bl b) H):=by
 intro l s A H m y Q I r h;obtain⟨x,c,t,g,b,rfl,f,d,e,q⟩:=h;obtain⟨u,v,rfl,p,j⟩:=v2 r;have o:v=g:=by
  cases c with
  |non=>exact(j).trans (d).symm
  |bl z=>exact(j).trans (d).symm
  |int i =>
   obtain⟨k,rfl⟩:=d;exact absurd e (by unfold Ro;cases f<;>simp[UK])
  |str i =>
   obtain⟨k,rfl⟩:=d;exact absurd e (by unfold Ro;cases f<;>simp[UK])
  |byt i =>
   obtain⟨k,rfl⟩:=d;exact absurd e (by unfold Ro;cases f<;>simp[UK])
  |flt i =>
   obtain⟨k,rfl⟩:=d;exact absurd e (by unfold Ro;cases f<;>simp[UK])
  |ref a=>exact(j).trans (d).symm
  |ty n=>exact(j).trans (d).symm
 subst o;exact Of I p f e λw=>⟨.bl b,H,I.tok w,rfl,q⟩
theorem EA:∀ {bs:List Bool}{c:List Qz}{i:Nat}{v:Qz},aG (bs.map V.bl) c->c[i]?=Qq v->∃b,bs[i]?=Qq b/\v=V7 b
 |[],_,i,v,.nil,h=>by simp at h
 |b::r,_,0,v,.cons a t,h=>by
  simp at h;subst h;exact⟨b,rfl,a⟩
 |b::r,_,i+1,v,.cons a t,h=>by
  obtain⟨d,e,q⟩:=EA t (by simpa using h);exact⟨d,by simpa using e,q⟩
theorem DY:∀(a:List Bool),((Q7 a.length).all λi=>(a[i]?).getD Qr)=a.all id
 |[]=>rfl
 |b::r=>by
  rw[Zg,UD,Yp,Yu,Yp];have e:=DY r;simp only[Function.comp_def,Sb,List.getElem?_cons_zero,Yg,id]at *;rw[<- e]
theorem HI(t:X.calm=Qr):bL X (.builtin "all") (λm H Q=>∃(p:QC) (c:List Bool),m=[.ref p]/\cF X.K H p (c.map V.bl)/\Q (.bl (c.all id)) H):=by
 intro k s M H m L Q I r h;obtain⟨p,c,rfl,y,q⟩:=h;obtain⟨u,rfl,B⟩:=v1 r;cases (B);obtain⟨a,l,z,F⟩:=I.list y;have f:=z.isList;have g:p<s.heap.objs.size:=by obtain⟨_,e,_⟩:=f;exact Z6 e
 have d:a.length=c.length:=by rw[<- l.length,Z0]
 refine call_all_walk (R8 f ?_)
 refine ⟨s.heap.objs.size,[s.heap.objs.size,p],[s.heap.objs.size],a.toArray.size,_,_,λi=>(c[i]?).getD Qr,rfl,T9 (A:=X.A.in1) (I.ok.hd t) _ p (Zc g) a.toArray,
  ⟨⟨_,Z5 _ rfl,rfl,rfl⟩,f.push _⟩,λi v G D C n j=>?_,λE J w=>?_⟩
 ·obtain⟨b,e,rfl⟩:=EA l (by simpa using n);simp[e]at j;exact RD j
 ·rw[Zn,d,DY];exact⟨.bl _,H,I.kept λb o e=>w b o (λx=>by rw[QH.mp x]at e;exact Zv _ (Z6 e)) (Z1 _ e),rfl,q⟩
noncomputable def xO(x:QD):It:=⟨λi ω=>i<x.length,λi H v a=>a=H/\∃c,x.cps[i]?=Qq c/\v=.str ⟨#[c]⟩,λi ω=>x.length<=i⟩
noncomputable def zi(b:TE):TI:=λc H R=>b c H λv a=>∃x,v=.str x/\R (xO x) a
theorem GO{P:QW}{w:Rm}{K:aV}{y:QD}{Z:VY}{x:QD}{a:QC}{St:Nat->RS->Prop}(T:∀i h,St i h->∃o,h.get? a=Qq o/\∀v,o.data≠.cell v)
 (W:∀M ,M.handled=Qs->YC P w M a [a] [a] x.cps.size (SignAt x) St) (g:∀  A   i   s   Q   E ,St i s.heap->Q (.ref a) s->QI (QJ P w) A (UF (.ref a)) Q E s)
 (U:∀i h,St i h->i<=x.cps.size->True):ia P w K (.Name y Z) (xO x) [a] a (λi h=>i<=x.cps.size/\St i h) where
 mem:=by simp
 obj:=λi h st b f=>by
  have e:b=a:=by simpa using f
  subst e;exact T i h st.2
 keep:=λi h l st k=>⟨st.1,(W {Vw with handled:=Qs} rfl).frame i h l st.2 k⟩
 item:=by
  intro X C G B D i d s O H E I m st n;subst C G B;obtain⟨p,q,S,r,t,z⟩:=m a (by simp);refine(W X.A (I.ok.hd D)).item i s _ _ n st.2 λv l N Y L J=>?_;obtain⟨c,u,F,rfl⟩:=Y;have R:aD X d O H {s with heap:=l,toks:=N}:=I.turned (λb o f e=>J b o (by simpa using f) e) p q r t z;exact⟨_,rfl,QB ⟨.str ⟨#[c]⟩,H,R,⟨u,rfl⟩,⟨rfl,c,F,rfl⟩,⟨n,L⟩,λb f=>(m b f).1⟩⟩
 done:=by
  intro X C G B D i d s O H E I m st n;subst C G B;obtain⟨p,q,S,r,t,z⟩:=m a (by simp);have e:=Nat.le_antisymm st.1 n;have j:=st.2;rw[e]at j;exact(W X.A (I.ok.hd D)).done s _ _ j λl N J=>⟨rfl,I.turned (λb o f e=>J b o (by simpa using f) e) p q r t z⟩
 self:=λA i s Q E st h=>g A i s Q E st.2 h
theorem yDm(B:PE X l F):PI X (.Name y n) l (zi F):=by
 intro f s p H R I h;refine bt (B f s p H _ I h) λv a ⟨x,u,j,D,C⟩=>?_;obtain⟨z,rfl,q⟩:=C;obtain⟨t,rfl⟩:=D;have g:∀ {o:Ts}{St:Nat->RS->Prop},ia X.prog X.w X.K (.Name y n) (xO z) [a.heap.objs.size] a.heap.objs.size St->St 0 (a.heap.push o)->sQ X f p (.Name y n) R (.ref a.heap.objs.size) {a with heap:=a.heap.push o}:=fun {o St} T st=>by
  refine⟨a.heap.objs.size,[a.heap.objs.size],St,_,u,rfl,j.kept λb o e=>Z1 _ e,T,st,λb w=>?_,q⟩;have e:b=a.heap.objs.size:=by simpa using w
  subst e;exact j.fpOk (Z3 _) (j.hok.fresh (Z3 _))
 cases m:z.cps.all (·<128)
 ·refine wpAny_pyIter_wide m (g (GO (λi h st=>?_) (λr k=>Walks.strWide k _ z t) (λA i s Q E st h=>wpAny_pyIter_striter_wide st h) λ_ ω ω ω=>trivial) ⟨Y1 _,⟨_,Z5 _ rfl,rfl,rfl⟩⟩);obtain⟨o,e,c,d⟩:=st;exact⟨o,e,λv q=>by rw[d]at q;cases q⟩
 ·refine wpAny_pyIter_ascii m (g (GO (λi h st=>?_) (λr k=>Walks.strAscii k _ z t) (λA i s Q E st h=>wpAny_pyIter_striter_ascii st h) λ_ ω ω ω=>trivial) ⟨Y1 _,⟨_,Z5 _ rfl,rfl,rfl⟩⟩);obtain⟨o,e,c,d⟩:=st;exact⟨o,e,λv q=>by rw[d]at q;cases q⟩
theorem Ng:md X (λx lo e H Q=>∃z,x=.str z/\z.length<=QG/\Q (.str (Sf z lo e)) H):=by
 intro c s r H x v C D lo e B Q I p b o m h;obtain⟨z,rfl,d,q⟩:=h;obtain⟨t,rfl⟩:=p;obtain⟨os,A,w,y⟩:=id b;have a:∀f k,EP X c r Q (.str (Sf z lo e) f) {s with toks:=k}:=λf k=>⟨.str _,H,I.tok k,⟨f,rfl⟩,q⟩;refine⟨"str",_,F.slot_str_getitem.lookup,UX _ _ _,?_⟩;cases o with
 |none =>
  cases m with
  |none=>exact Tn (l:=Qs) (u:=Qs) (st:=Qs) b rfl (U9 ⟨Z9 (VB z _ _) d,a⟩)
  |int j g=>exact Tn (l:=Qs) (u:=Qq (j,g)) (st:=Qs) b rfl (U9 ⟨Z9 (VB z _ _) d,a⟩)
 |int i n =>
  cases m with
  |none=>exact Tn (l:=Qq (i,n)) (u:=Qs) (st:=Qs) b rfl (U9 ⟨Z9 (VB z _ _) d,a⟩)
  |int j g=>exact Tn (l:=Qq (i,n)) (u:=Qq (j,g)) (st:=Qs) b rfl (U9 ⟨Z9 (VB z _ _) d,a⟩)
end
section
end
theorem KQ{j:Int}(a:0<j)(b:j<2^64):j.natAbs.log2<9000:=by
 have:j.natAbs<2^64:=by omega
 have h:=(Xr (by omega)).mpr this;omega
noncomputable def tO(i j:Int):Prop:=0<j/\j<2^64
theorem IX:dS X (Ru .FloorDiv) (rI tO λi j=>.int (i/j)):=j4 λi j ω ω ω ω ω a q=>by
 have b:=a.1;exact floordiv_int (by omega) (by rw[Int.fdiv_eq_ediv_of_nonneg i (by omega)];exact q) (.inl (PyProof.noPylong_of_log2 (KQ a.1 a.2)))
mutual
inductive oM (G:QC->Prop) (H:Hp):V->SR->Prop where
 |non:oM G H .non .none
 |bl (b:Bool):oM G H (.bl b) (.bool b)
 |int (i:Int):oM G H (.int i) (.int i)
 |str (x:QD) (hx:x.length<=1000) (ho:Q9 x=Qr):oM G H (.str x) (.str x)
 |lst {a:QC}{xs:List V}{ds:List SR}:G a->H a=Qq (.lst xs)->xs.length<=1000->HasAll G H xs ds->oM G H (.ref a) (.list ds)
 |tup {a:QC}{xs:List V}{ds:List SR}:G a->H a=Qq (.tup xs)->xs.length<=1000->HasAll G H xs ds->oM G H (.ref a) (.tuple ds)
inductive HasAll (G:QC->Prop) (H:Hp):List V->List SR->Prop where
 |nil:HasAll G H [] []
 |cons {x:V}{xs:List V}{d:SR}{ds:List SR}:oM G H x d->HasAll G H xs ds->HasAll G H (x::xs) (d::ds)
end
section
theorem HasAll.length:∀ {xs:List V}{ds:List SR},HasAll G H xs ds->xs.length=ds.length
 |_,_,.nil=>rfl
 |_,_,.cons _ t=>by rw[Zg,Zg,HasAll.length t]
end
section
end
section
variable {κ:Type} [DecidableEq κ]
noncomputable def cO(a:List κ)(x:κ):List κ:=if x∈a then a else a++[x]
noncomputable def dl(l:List κ):List κ:=l.foldl cO []
theorem Da(l:List κ)(x:κ):dl (l++[x])=cO (dl l) x:=by unfold L2.dl;rw[XY];rfl
theorem Du:∀(l b:List κ)  k ,k∈l.foldl cO b ↔ k∈b\/k∈l
 |[],b,k=>by simp
 |x::r,b,k=>by
  rw[Zz,Du r];unfold cO;by_cases h:x∈b
  ·rw[if_pos h];constructor
   ·rintro(a|a)
    all_goals simp_all
   ·rintro(a|a)
    ·exact .inl a
    ·rcases QL.mp a with rfl|a
     all_goals simp_all
  ·rw[if_neg h];simp
   grind
theorem vo{k:κ}:k∈dl l ↔ k∈l:=by unfold L2.dl;rw[Du];simp
theorem Bq:∀(l a:List κ),(l.foldl cO a).length<=a.length+l.length
 |[],a=>Z3 _
 |x::r,a=>by
  rw[Zz];refine Z9 (Bq r _) ?_;unfold cO;split
  ·simp_all
  ·simp;omega
theorem xW(l:List κ):(dl l).length<=l.length:=by have:=Bq l [];simpa[dl]using this
theorem CL:∀(l a:List κ),(∀x∈l,x∉a)->l.Nodup->(l.foldl cO a).length=a.length+l.length
 |[],a,_,_=>rfl
 |x::r,a,h,c=>by
  obtain⟨e,b⟩:=QZ.mp c;have d:=h x Za;rw[Zz,show cO a x=a++[x]from if_neg d,CL r _ (λy f m=>?_) b]
  ·simp;omega
  simp_all
theorem ES:∀(l a:List κ),((∃x∈l,x∈a)\/¬l.Nodup)->(l.foldl cO a).length<a.length+l.length
 |[],a,h=>by
  simp_all
 |x::r,a,h=>by
  rw[Zz];by_cases b:x∈a
  ·rw[show cO a x=a from if_pos b];have:=Bq r a;simp;omega
  ·rw[show cO a x=a++[x]from if_neg b];have f:=ES r (a++[x]) ?_
   ·simp at *;omega
   ·rcases h with⟨y,c,d⟩|h
    ·rcases QL.mp c with rfl|c
     ·exact absurd d b
     ·exact .inl ⟨y,c,Zj _ d⟩
    ·by_cases e:x∈r
     ·exact .inl ⟨x,e,by simp⟩
     ·exact .inr λz=>h (QZ.mpr ⟨e,z⟩)
theorem OI(l:List κ):decide ((dl l).length=l.length)=decide l.Nodup:=by
 by_cases h:l.Nodup
 ·have:=CL l [] (λ_ ω z=>by simp at z) h;rw[decide_eq_true h,decide_eq_true (by simpa[dl]using this)]
 ·have:=ES l [] (.inr h);rw[decide_eq_false h,decide_eq_false (by simp[dl]at *;omega)]
variable {St:Nat->RS->Prop}
theorem F1{knd:KeyKind b w κ}{h:RS}(x:h.SetOf knd a S m)(e:∀k,S k=c k)(f:m=g):h.SetOf knd a c g:=by
 have d:=funext e;subst d f;exact x
theorem Lg(W:YC d w A.in1 I U wr n P St)(O:D∉U){knd:KeyKind d w κ}(hn:ks.length=n)(l:∀i v k,P i v->ks[i]?=Qq k->knd.is k v=Qr/\v.scannable=Qr)(c:n+1<RW):
 ∀  j i   z ,n-i=j->i<=n->St i z.heap->z.heap.SetOf knd D (λk=>decide (k∈ks.take i)) (dl (ks.take i)).length ->
  (∀f s,(∀b o,b∉D::wr->z.heap.get? b=Qq o->f.get? b=Qq o)->f.SetOf knd D (λk=>decide (k∈ks)) (dl ks).length->R (.ok (.ret .none)) {z with heap:=f,toks:=s}) ->
  SW (QJ d w) A (.builtin "set.update.loop" ⟨[.ref D,.ref I],[]⟩) R z:=by
 have g:=λh=>O (W.sub _ h);intro j
 induction j with
 |zero =>
  intro i z hj Z st u C;obtain rfl:i=n:=by omega
  refine Rn RG ?_;rw[Ra Rb _];refine Qt (W.done z _ _ st λf s x=>?_);rw[Rj (W7 hn)]at u;obtain⟨o,B,y,t,J,a⟩:=u;exact QB (C f s (λb o c e=>x b o (λm=>c (Z4 _ m)) e) ⟨o,B,y,t,x D _ g J,a⟩)
 |succ j ih =>
  intro i z hj Z st u C;have T:i<n:=by omega
  refine Rn RG ?_;rw[Ra Rb _];refine Qt (W.item i z _ _ T st λv N aa Y L S=>?_);have hk:ks[i]?=Qq (ks[i]'(by omega)):=Z2 _;obtain⟨Q,hs⟩:=l i v _ Y hk;obtain⟨o,B,y,t,J,a⟩:=u;have F:N.SetOf knd D (λk=>decide (k∈ks.take i)) (dl (ks.take i)).length:=⟨o,B,y,t,S D _ g J,a⟩;refine Qt (Q8 ?_);refine Q8 (Qt (knd.pyHash Q ?_));have p:(dl (ks.take i)).length+1<RW:=by
   have a1:=xW (ks.take i);have a2:(ks.take i).length<=i:=Ve _ _;omega
  refine wpAny_setAddHashed_of Q hs F p λX r G=>?_;have M:ks.take (i+1)=ks.take i++[ks[i]'(by omega)]:=by simp_all
  have H:X.SetOf knd D (λk=>decide (k∈ks.take (i+1))) (dl (ks.take (i+1))).length:=by
   refine F1 G (λk=>?_) ?_
   ·rw[M,Yk];simp only[YL,decide_eq_true_eq,QO,QH]
   ·rw[M,Da];unfold cO;by_cases q:ks[i]'(by omega)∈ks.take i
    ·rw[if_pos (by simpa using q),if_pos (vo.mpr q)]
    ·rw[if_neg (by simpa using q),if_neg (λz=>q (vo.mp z)),Zh,UN]
  refine QB ⟨SA Rb _,ih (i+1) _ (by omega) T (W.frame _ N _ L λb c o e=>?_) H λf s x E=>C f s (λb o c e=>x b o c ?_) E⟩
  ·rw[r.2 b (λq:b=D=>O (by rw[<- q];exact c))];exact e
  ·rw[r.2 b (λq=>c (by rw[q];exact Za))];exact S b o (λm=>c (Z4 _ m)) e
end
noncomputable abbrev bH(b:Bool):Ts:={cls:=.type "set",dict:=Qs,data:=.set #[] 0 (.fresh 0 0 b)}
section
variable [DecidableEq κ] {prog:QW}
noncomputable def ky(c:KeyKind prog w κ)(d:List κ)(z:QF)(r:Qz)(f:QF):Prop :=
 r=.none/\∃a e,f={z with heap:=a,toks:=e}/\a.SetOf c z.heap.objs.size (λk=>decide (k∈d)) (dl d).length/\∀b o,b<z.heap.objs.size->z.heap.get? b=Qq o->a.get? b=Qq o
set_option maxHeartbeats 6400000 in
theorem K9{knd:KeyKind prog w κ}{l:QC}{its:Array Qz}{ks:List κ}{Q:Qz->QF->Prop}(hh:A.handled=Qs)(hl:z.heap.IsList l its)(hn:ks.length=its.size)
 (hv:∀(i:Nat) (v:Qz) (k:κ),its[i]?=Qq v->ks[i]?=Qq k->knd.is k v=Qr/\v.scannable=Qr) (hb:its.size+1<RW)
 (h:∀z',ky knd ks z .none z'->Q (.ref z.heap.objs.size) z'):QI (QJ prog w) A (call (.type "set") [.ref l]) Q E z:=by
 obtain⟨mc,mt,m0⟩:=QS.mro;have m1:=QS.made;have m2:=QS.sub;refine VP (codeAny_of_tree ?_);show QI _ _ (callAny (.type "set") _) _ _ _;refine QB ⟨XG _ (by decide +kernel),Rn Wg ?_⟩;rw[Xk (X4 "set" [.ref l] []) rfl];have m3:=QS.notType;have m4:=QS.canCreate;have m5:=Ws (.ref l)
 repeat (any_goals (first|assumption|wp_step))
 refine Sv (code_set_new_1 (.ref l) (E:=E) (Q₁:=λr z1=>∃b:Bool,r=.ref z.heap.objs.size/\z1={z with heap:=z.heap.push (bH b)}) λb=>⟨b,rfl,rfl⟩) λr z1 hr=>?_;cases r with
 |error e=>exact hr
 |ok fl =>
  cases fl with
  |next=>exact hr.elim
  |brk=>exact hr.elim
  |cont=>exact hr.elim
  |ret r =>
   obtain⟨b,rfl,rfl⟩:=hr;have g0:(z.heap.push (bH b)).get? z.heap.objs.size=Qq (bH b):=Z5 _ rfl;have ty:Wd {z with heap:=z.heap.push (bH b)} (.ref z.heap.objs.size) "set":=⟨_,g0,rfl⟩;have i1:=QS.init.lookup;have i2:=QS.init.bind (.ref z.heap.objs.size)
   repeat (any_goals (first|assumption|wp_step))
   refine Sv (T6 (R:=wants (ky knd ks z) E) QS.init.plain Wt (Za4 ty ?_)) λr2 z2 hr2=>?_
   ·obtain⟨⟨oc,od,odt,osl⟩,ho,c1,nl,d1⟩:=hl;simp only at c1 d1;subst c1 d1;have ho1:(z.heap.push (bH b)).get? l=Qq {cls:=.type "list",dict:=od,data:=.seq its nl,slots:=osl}:=Z1 _ ho;have s1:=WK;have s2:=VT;have s3:(Uy "list" == Uy "dict")=Qv:=by decide
    have hl1:(z.heap.push (bH b)).IsList l its:=⟨_,ho1,rfl,nl,rfl⟩;unfold TB.«set.__init__» noKeywords UM;generalize ePI:UF=PI
    wp_walk
    subst ePI;refine R8 hl1 ?_;refine Qt (WU ?_);have lt:l<z.heap.objs.size:=Z6 ho;have sz1:(z.heap.push (bH b)).objs.size=z.heap.objs.size+1:=Zs _ _;have neI:l≠(z.heap.push (bH b)).objs.size:=by rw[sz1];exact Zc (Zo lt)
    have nD:z.heap.objs.size∉[(z.heap.push (bH b)).objs.size,l]:=by
     rw[sz1];simp only[Yq,Yn,or_false,not_or];exact⟨Zc (Y0 _),Y5 lt⟩
    refine Lg (T9 (by simp[hh]) _ l neI its) nD (knd:=knd) (ks:=ks) hn hv hb (its.size-0) 0 _ (by omega) (Y1 _) ⟨⟨_,Z5 _ rfl,rfl,rfl⟩,hl1.push _⟩ ?_ λh' tk kk hS=>?_
    ·refine F1 ((Zbh (knd:=knd) b).setOf (Z1 _ g0) (by unfold RW;omega)) (λk=>?_) rfl;simp
    ·show QI _ _ _ _ _ _;refine QB ?_;show QI _ _ (ret R6) _ _ _;refine QB ⟨rfl,h',tk,rfl,hS,λc o hc e=>kk c o ?_ (Z1 _ (Z1 _ e))⟩;rw[sz1];simp only[Yq,Yn,or_false,not_or];exact⟨Zc hc,Zc (Zo hc)⟩
   ·cases r2 with
    |error e=>exact hr2
    |ok fl2 =>
     cases fl2 with
     |next=>exact hr2.elim
     |brk=>exact hr2.elim
     |cont=>exact hr2.elim
     |ret r =>
      have hs:=hr2;obtain⟨rfl,h',tk,rfl,hS,kk⟩:=hr2
      repeat (any_goals (first|assumption|wp_step))
      exact h _ hs
end
noncomputable def ui(P:QW)(w:Rm)(p:QC)(a:List QD):HO:=.ext λh=>h.SetOf (strKind P w) p (λk=>decide (k∈a)) (dl a).length
section
theorem yQ:∀ {ks:List QD}{d:List Qz}{i:Nat}{v:Qz}{k:QD},aG (ks.map V.str) d->d[i]?=Qq v->ks[i]?=Qq k->∃t,v=Rl k t
 |[],_,i,v,k,.nil,h,_=>by simp at h
 |b::r,_,0,v,k,.cons a t,h,c=>by
  simp at h c;subst h c;exact a
 |b::r,_,i+1,v,k,.cons a t,h,c=>yQ t (by simpa using h) (by simpa using c)
theorem Hj(C:X.calm=Qr):bL X (.type "set") (λz H Q=>∃(p:QC) (c:List QD),z=[.ref p]/\cF X.K H p (c.map V.str)/\c.length<=4000/\∀d,H d=Qs->Q (.ref d) (upd H d (ui X.prog X.w d c))):=by
 intro x s R H z O Q I r h;obtain⟨p,c,rfl,D,M,q⟩:=h;obtain⟨u,rfl,J⟩:=v1 r;cases (J);obtain⟨j,y,G,_⟩:=I.list D;have a:j.length=c.length:=by rw[<- y.length,Z0]
 refine K9 (knd:=strKind X.prog X.w) (I.ok.hd C) G.isList (by rw[Zn,a]) (λi v k m n=>?_) (by rw[Zn,a];unfold RW;omega) λP E=>?_
 ·obtain⟨t,rfl⟩:=yQ y (by simpa using m) n;exact⟨UY _ _ _ _,rfl⟩
 ·obtain⟨_,L,N,rfl,w,F⟩:=E;refine⟨.ref s.heap.objs.size,_,I.laid (λb o e=>F b o (Z6 e) e) (Z3 _) ?_,rfl,q _ (I.hok.fresh (Z3 _))⟩;refine⟨w,?_,λm n g l=>?_⟩
  ·obtain⟨o,_,_,_,e,_⟩:=w;exact⟨o,e⟩
  ·obtain⟨o,B,A,t,e,f⟩:=g;exact⟨o,B,A,t,l o e,f⟩
theorem Nv:bL X (.builtin "len") (λg H Q=>∃(d:QC) (a:List QD),g=[.ref d]/\H d=Qq (ui X.prog X.w d a)/\a.length<=4000/\Q (.int (dl a).length) H):=by
 intro f s y H g x Q I r h;obtain⟨d,a,rfl,k,w,q⟩:=h;obtain⟨u,rfl,n⟩:=v1 r;cases (n);obtain⟨i,_,_⟩:=I.hok d _ k;obtain⟨o,v,p,t,e,c,b,_,_,j,l,m⟩:=i;refine call_len_set e c b l ?_ ?_
 ·unfold RW at j;omega
 ·rw[m];exact⟨.int _,H,I.tok _,⟨_,rfl⟩,q⟩
end
theorem dh.auto{X:Cx}{a:TH}{b:List (QD×QC)}{T:List QD}(d:autoParam (U0 a X.env=pure b) A10._auto_1)(e:autoParam ((a.names.all λy=>y.2 != .cell)=Qr) A10._auto_1)(f:autoParam (a.kind=.function) A10._auto_1)
 (g:autoParam ((a.names.all λx=>x.2 != .local||a.names.lookup x.1==Qq .local)=Qr) A10._auto_1)
 (h:kQ X b:=by first|exact trivial|exact⟨rfl,trivial⟩|exact⟨rfl,rfl,trivial⟩|exact⟨rfl,rfl,rfl,trivial⟩|exact⟨rfl,rfl,rfl,rfl,trivial⟩)
 (i:autoParam ((a.names.all λx=>x.2 != .free||((b.lookup x.1).isSome&&(X.env.scope.names.lookup x.1==Qq .cell||X.env.scope.names.lookup x.1==Qq .free)))=Qr) A10._auto_1)
 (l:autoParam ((X.N.all λx=>a.names.lookup x != Qq .local)=Qr) A10._auto_1):dh X a b T where
 clos:=d
 cell:=λy k=>by have:=QM.mp e y k;simpa using this
 kind:=f
 names:=λx c j=>by
  have:=QM.mp g x c;rw[j]at this
  simpa using this
 cls:=h
 has:=λx c m=>by
  have:=QM.mp i x c
  simp_all
 out:=λx c=>by simp_all
theorem Iy(c:Nat->List V->Hp->Prop)(w:c 0 [] H)(v:∀i a H,i<n->c i a H->J.go i H)(e:∀a H,c n a H->J.stop n H)
 (r:∀i a H,i<=n->c i a H->a.length<=QG)
 (A:∀i a H x d,i<n->c i a H->J.yld i H x d->∀N:List V->Hp->Prop,(∀a H,c (i+1) a H->N a H)->g x (D++QE k Qs) d λh t=>C h t λb l=>if b=Qr then B h l λy u=>N (a++[y]) u else N a l)
 (z:∀a H,c n a H->∀p,H p=Qs->Q (.ref p) (upd H p (.lst a))):fO J k D H g C B Q:=by
 refine⟨λi m a H=>m=n-i/\i<=n/\c i a H,⟨n,by simp,Y1 _,w⟩,?_⟩;rintro i m a H ⟨rfl,o,p⟩;by_cases j:i<n
 ·exact .inr ⟨v i a H j p,r _ _ _ o p,λx d y=>A i a H x d j p y (λf d=>∃s,s<n-i/\s=n-(i+1)/\i+1<=n/\c (i+1) f d) λf d q=>⟨n-(i+1),by omega,rfl,j,q⟩⟩
 ·obtain rfl:i=n:=by omega
  exact .inl ⟨e _ _ p,r _ _ _ o p,z _ _ p⟩
theorem Jz{K:aV}(d:Nat->List V->Hp->Prop)(n:d 0 [] H)(f:∀i c H,d i c H->cF K H a xs)
 (s:∀i c H,i<=xs.length->d i c H->c.length<=QG)
 (r:∀i x c H,xs[i]?=Qq x->d i c H->∀N:List V->Hp->Prop,(∀c H,d (i+1) c H->N c H)->g x (v++QE k Qs) H λe l=>u e l λb h=>if b=Qr then t e h λy m=>N (c++[y]) m else N c h)
 (q:∀c H,d xs.length c H->∀p,H p=Qs->Q (.ref p) (upd H p (.lst c))):fO (nY K a) k v H g u t Q:=by
 refine Iy d n (λi c H j p=>⟨xs,xs[i],f i c H p,Z2 j⟩) (λc H p=>⟨xs,f _ c H p,Z3 _⟩) s ?_ q;rintro i c H x w j p ⟨rfl,y⟩ N o;exact r i x c _ (y xs (f _ _ _ p)) p N o
noncomputable def ud(a:jw):Prop:=∀o H s e b,a o H s (λ_ ω ω=>False) e b->False
theorem tE:ud fy:=λ_ ω ω ω ω h=>h
theorem fg.new(h:H p=Qs):fg H (upd H p o):=λb u e=>by rw[bS (eK e h)];exact e
section
theorem aD.adopt(I:aD X a w H s)(d:H T=Qs)(i:X.s₀.heap.objs.size<=T)(l:T≠X.env.locals)(j:∀x c,X.env.cells.lookup x=Qq c->c≠T)(k:∀p∈X.pn++a,p.1≠T)
 (g:cg X.prog X.w (upd H T o) s.heap T o):aD X a w (upd H T o) s:=by
 refine I.step (ch:=[T]) (λb f=>?_) (λb o ω ω ω e ω=>e) (λb o ω ω ω e ω=>⟨o.slots,e⟩) (λb o r e n=>?_) (λb o ω e=>⟨o,e⟩)
  (λb t e=>?_) (λb o u e=>?_) (λb y e=>⟨#[],?_⟩) (λm h=>h) (λb u e=>?_) I.bare
 ·have e:b=T:=by simpa using f
  subst e;exact⟨.inr (Yc i),l,j,k⟩
 ·rw[bS (λz=>r (by simp[z]))];exact n
 ·rw[bS (eK e d)];exact e
 ·rw[bS (eK e d)];exact e
 ·rw[bS (eK e d),e];simp
 ·by_cases f:b=T
  ·subst f;rw[dm]at e;cases e;exact g
  ·rw[bS f]at e;exact(I.hok b u e).stay (λc v ω q=>q) (λc q=>by rw[bS (eK q d)];exact q) λc t q=>by rw[bS (eK q d)];exact q
theorem aD.turns{ch:List QC}(I:aD X a w H s)(k:∀b o,b∉ch->s.heap.get? b=Qq o->l.get? b=Qq o)(f:∀b∈ch,gO X a H b):aD X a w H {s with heap:=l,toks:=t'}:=by
 have g:∀b u,H b=Qq u->b∉ch:=λb u e z=>by rw[(f b z).1]at e;cases e
 refine I.step (λb h=>⟨(f b h).2.2.2.1.imp_right λz=>Yc z,(f b h).2.1,(f b h).2.2.2.2.1,(f b h).2.2.2.2.2⟩) (λb o ω ω d e ω=>k b o d e) (λb o ω ω d e ω=>⟨o.slots,k b o d e⟩) (λ_ ω ω ω n=>n)
  (λb o d e=>⟨o,k b o d e⟩) (λ_ ω e=>e) (λ_ ω ω e=>e) (λb x e=>⟨#[],by rw[e];simp⟩) (λm p=>?_) (λb u e=>?_) I.bare
 ·obtain⟨o,j,i,t,r⟩:=p;exact⟨o,j,i,k _ o (λz=>(f _ z).2.1 rfl) t,r⟩
 ·refine(I.hok b u e).stay (λc v d q=>k c v ?_ q) (λ_ q=>q) λ_ ω q=>q;rcases d with z|z
  ·rw[z];exact g b u e
  ·exact g c _ z
end
noncomputable def CD(K:aV)(a b:QC):It :=
 ⟨λi H=>∃ c d x y,cF K H a c/\cF K H b d/\c[i]? = Qq x/\d[i]? = Qq y,
  λi H v e=>∃p x y,v=.ref p/\H p=Qs/\e=upd H p (.tup [x,y])/\(∀c,cF K H a c->c[i]?=Qq x)/\∀d,cF K H b d->d[i]?=Qq y,
  λi H=>∃c d,cF K H a c/\cF K H b d/\(c.length<=i\/d.length<=i)⟩
theorem HF{P:QW}{w:Rm}{K:aV}{es:List Rx}{x1:_}{aa:VY}{Y Z z TI TO B C:QC}(D:ZipApart z TI TO B C Y Z):
 ia P w K (.Tuple es x1 aa) (CD K Y Z) [z,TO,B,C,TI] z (λi h=>IsZip h z TI TO .none/\IsPair h TI (.ref B) (.ref C)/\(∃a b,IsPair h TO a b)/\h.IsListIter B Y i/\h.IsListIter C Z i) where
 mem:=by simp
 obj:=λi h st b f=>by
  obtain⟨g,j,⟨a,c,m⟩,⟨o4,r,_,d4⟩,⟨o5,t,_,d5⟩⟩:=st;simp at f;rcases f with rfl|rfl|rfl|rfl|rfl
  all_goals simp_all
 keep:=λi h M st k=>by
  obtain⟨g,j,⟨a,c,m⟩,r,t⟩:=st;exact⟨k z (by simp) _ g,k TI (by simp) _ j,⟨a,c,k TO (by simp) _ m⟩,r.at λo e=>k B (by simp) o e,t.at λo e=>k C (by simp) o e⟩
 item:=by
  intro X O S N hc i l s σ H E I F st R;subst O S N;obtain⟨g,j,⟨a,c,m⟩,r,t⟩:=st;obtain⟨xs,ys,x,y,G,L,ex,ey⟩:=R;obtain⟨U,rx,px,_⟩:=I.list G;obtain⟨W,ry,py,_⟩:=I.list L;obtain⟨u,hu,ru⟩:=rx.get ex;obtain⟨v,hv,rv⟩:=ry.get ey;refine wpAny_pyNext_zip_item D g j m r t px.isList py.isList (by simpa using hu) (by simpa using hv) λM a1 a2 a3 a4 a5 a6 a7=>?_;refine⟨_,rfl,wpAny_letOwnedTupleGo_zip a1 λA b1 sb=>?_⟩;have nz:s.heap.objs.size≠z:=λe=>by have:=Z6 g;simp_all
  have J :=I.turns (t':=s.toks) (λb o f e=>by
   simp at f
   exact(sb.2 b f.1).trans (a7 b o f.1 f.2.1 f.2.2.1 f.2.2.2.1 e)) F
  have gT:=(sb.2 _ nz).trans a5;have fT:=I.hok.fresh (Z3 _)
  have J2:aD X l σ (upd H s.heap.objs.size (.tup [x,y])) { s with heap:=A }:=J.adopt fT I.sz (Y5 I.lt) (λn c e=>by
   obtain⟨w',q⟩:=I.cell n c e
   exact Zc q.lt) (λp hp=>Zc (Z6 (I.pin p hp).1)) ⟨by show 2<=QG;decide,[u,v],.cons ru (.cons rv .nil),⟨_,gT,rfl,_,rfl⟩⟩
  have d:∀b o,b≠z->M.get? b=Qq o->A.get? b=Qq o:=λb o f e=>(sb.2 b f).trans e;refine⟨.ref s.heap.objs.size,_,J2,rfl,⟨_,x,y,rfl,fT,rfl,λzs T=>by rw[I.list_inj T G];exact ex,λzs T=>by rw[I.list_inj T L];exact ey⟩,⟨b1,d _ _ D.TIz (a7 _ _ D.TIz D.TITO D.TIi1 D.TIi2 j),⟨_,_,d _ _ D.TOz a2⟩,a3.at λo e=>d _ _ D.i1z e,a4.at λo e=>d _ _ D.i2z e⟩,λb f=>?_⟩;have Q:=(F b f).1;have:b≠s.heap.objs.size:=by
   rintro rfl;obtain⟨o,e⟩:∃o,s.heap.get? s.heap.objs.size=Qq o:=by
    simp at f;rcases f with e|e|e|e|e<;>rw[e]
    ·exact⟨_,g⟩
    ·exact⟨_,m⟩
    ·obtain⟨o,q,_⟩:=r;exact⟨o,q⟩
    ·obtain⟨o,q,_⟩:=t;exact⟨o,q⟩
    ·exact⟨_,j⟩
   exact Zv _ (Z6 e)
  rw[bS this];exact Q
 done:=by
  intro X O S N hc i l s σ H E I F st R;subst O S N;obtain⟨g,j,⟨a,c,m⟩,r,t⟩:=st;obtain⟨xs,ys,G,L,ab⟩:=R;obtain⟨U,rx,px,_⟩:=I.list G;obtain⟨W,ry,py,_⟩:=I.list L;have e1:=rx.length;have e2:=ry.length;refine wpAny_pyNext_zip_end (I.ok.hd hc) D g j m r t px.isList py.isList ?_ λM kk=>⟨rfl,I.turns (λb o f e=>?_) F⟩
  all_goals simp_all
 self:=λ_ ω ω ω ω st h=>ZX st.1 h
noncomputable def zT(K:aV)(d:TA):TI:=λh H R=>d h H λe c=>∃a b,e=[.ref a,.ref b]/\(∃f,cF K c a f)/\(∃g,cF K c b g)/\R (CD K a b) c
section
theorem yDk(E:Gl X "zip")(F:X.mg "zip" = Qs)(C:PA X [l,g] W)(G:autoParam (Qy [l,g] X.env=[(Qv,eval l X.env),(Qv,eval g X.env)]) A10._auto_1)(j:autoParam (Qy [g] X.env=[(Qv,eval g X.env)]) A10._auto_1):
 PI X (.Tuple es x1 tp) (.Call (.Name "zip" p) [l,g] [] m) (zT X.K W):=by
 intro k s Y H R I h;refine Call_ (pI I E F boot_zip (Si (bt (C m k s Y H _ I h) λus d ⟨vs,t,f,S,O⟩=>?_) (by rw[G,j]) (by rw[j];rfl)));obtain⟨a,b,rfl,⟨xs,P⟩,⟨ys,Q⟩,q⟩:=O;obtain⟨u,v,rfl,T,U⟩:=v2 S;cases (T);cases (U);obtain⟨J,rx,o,_⟩:=f.list P;obtain⟨L,ry,r,_⟩:=f.list Q;have M:a<d.heap.objs.size:=by obtain⟨_,e,_⟩:=o.isList;exact Z6 e
 have N:b<d.heap.objs.size:=by obtain⟨_,e,_⟩:=r.isList;exact Z6 e
 refine call_zip_2 o.isList r.isList λh' n x y z A Z B=>ZX n ?_;have w:=f.kept (t':=d.toks) B;refine⟨d.heap.objs.size+4,[d.heap.objs.size+4,d.heap.objs.size+3,d.heap.objs.size,d.heap.objs.size+1,d.heap.objs.size+2],_,_,t,rfl,w,HF (Zbe M N),⟨n,x,⟨_,_,y⟩,z,A⟩,λc D=>?_,q⟩;have i:d.heap.objs.size<=c:=by
  simp at D
  grind
 exact f.fpOk i (f.hok.fresh i)
theorem Kh:oG X "str.index" (λx b H Q=>∃z y i r,x=.str z/\b=[.str y]/\QR z y 0 z.length 1=i::r/\Q (.int  i ) H):=by
 intro a s k H x b v j Q I f d h;obtain⟨z,y,i,r,rfl,rfl,c,q⟩:=h;obtain⟨t,rfl⟩:=f;obtain⟨u,rfl,e⟩:=v1 d;obtain⟨g,rfl⟩:=e;exact PySem.SC.index c ⟨.int _,H,I.tok _,⟨_,rfl⟩,q⟩
theorem CM:∀ {b:List QD}{c:List Qz},aG (b.map V.str) c->∃l:List (QD×Tok),c=Xw l/\l.map (·.1)=b
 |[],_,.nil=>⟨[],rfl,rfl⟩
 |k::r,_,.cons a t=>by
  obtain⟨f,rfl⟩:=a;obtain⟨l,d,e⟩:=CM t;exact⟨(k,f)::l,by rw[d];rfl,by rw[Z8,e]⟩
theorem Kl{K:aV}(e:X.K=K):oG X "str.join" (λx c H Q=>∃(z:QD) (p:QC) (a:List QD),x=.str z/\c=[.ref p]/\cF K H p (a.map V.str)/\SE z a=Qr/\Q (.str (Ug z a)) H):=by
 subst e;intro b s A H x c v y Q I r m h;obtain⟨z,p,a,rfl,rfl,g,f,q⟩:=h;obtain⟨t,rfl⟩:=r;obtain⟨u,rfl,n⟩:=v1 m;cases (n);obtain⟨i,o,j,_⟩:=I.list g;obtain⟨l,rfl,d⟩:=CM o;exact PySem.SC.join j.isList d f λw k=>⟨.str _,H,I.tok k,⟨w,rfl⟩,q⟩
end
section
variable {X:Cx}{K:aV}{o e:Rx}{es:List Rx}{to ta tl:TE}{t:TA}{name f:QD}{apos cpos pos:VY}{T id:String}{r:V->List V->Hp->VK->Prop}{tg:Rx}
end
section
noncomputable def uP(K:aV):R2:=λx y H Q=>∃a b c d,x=.ref a/\y=.ref b/\gC K H a c/\gC K H b d/\c.length+d.length<=QG /\
 (c=[]->Q (.ref b) H)/\(c≠[]->d=[]->Q (.ref a) H)/\(c≠[]->d≠[]->∀p,H p=Qs->Q (.ref p) (upd H p (.tup (c++d))))
theorem Pu{K:aV}(E:X.K=K):dS X (Ru .Add) (uP K):=by
 subst E;intro B s σ H x y v u Q I T U h;obtain⟨a,b,Y,ys,rfl,rfl,F,G,N,P,R,S⟩:=h;cases T;cases U;obtain⟨l,f,t,_⟩:=I.tuple F;obtain⟨e,g,A,_⟩:=I.tuple G;by_cases d:Y=[]
 ·obtain⟨⟨C,D,p,W⟩,r,J,n,L⟩:=id t;obtain⟨⟨o,i,data2,m⟩,c,j,O,k⟩:=id A;subst J L j k;have M:=f.nil_iff.mpr d;exact XR ⟨_,r,rfl⟩ ⟨_,c,rfl⟩ Wj Xo Us Um (Ui _ _)
   (tuple_addW0 a b l.toArray e.toArray n O D i W m (by simp[M])) ⟨r,c,.ref b,H,I,rfl,P d⟩
 ·refine HT.cat_tup t A (λz=>d (f.nil_iff.mp z)) (λz=>⟨.ref a,H,I,rfl,R d (g.nil_iff.mp z)⟩) (λz=>?_) (by rw[<- f.length,<- g.length];exact N);refine⟨.ref s.heap.objs.size,_,I.laid (λb Z q=>Z1 _ q) (Z3 _) ?_,rfl,S d (λw=>z (g.nil_iff.mpr w)) _ (I.hok.fresh (Z3 _))⟩;exact⟨by simp_all,_,f.append g,X0 _ _⟩
noncomputable def Bs(K:aV)(d:TE):TE:=λe H Q=>d e H λx b=>∃a c,x=.ref a/\cF K b a c/\∀p,b p=Qs->Q (.ref p) (upd b p (.lst c.reverse))
theorem yDr(A:PE X e M):PE X (.Subscript e (.Slice Qs Qs (Qq (.UnaryOp .USub (.Constant (.int 1) k P) R)) S) E) (Bs X.K M):=by
 intro c s i H Q I h;refine U3 (bt (A c s i H _ I h) λv L ⟨x,j,n,G,F⟩=>?_);obtain⟨a,N,rfl,B,q⟩:=F;cases G;refine Wx ?_;rw[UH];refine QB (QB ?_);rw[UG];refine bt (yDp GI (zF8 (X:=X) ) c L i j (λy f=>y=.int (-1)/\f=j) n ⟨1,rfl,rfl,rfl⟩) λu d ⟨y,f,p,J,z,w⟩=>?_;subst z w;obtain⟨t,rfl⟩:=J;have g:aD X c i f {d with heap:=d.heap.push {cls:=.type "slice",data:=.fields #[.none,.none,.int (-1) t]}}:=p.kept (t':=d.toks) λb D q=>Z1 _ q;obtain⟨C,r,m,O⟩:=g.list B;have l:=r.length;refine V4 m.isList.typeIs Tu.lookup ?_ (by with_unfolding_all rfl);refine S9 m.isList (Tp ..) .none .none (.int _ _) (by decide) ?_ (by simp_all);rw[PySem.W.krv_pick];exact⟨.ref _,_,g.laid (t':=d.toks) (o:=.lst N.reverse) (λb D q=>Z1 _ q) (Z3 _) ⟨by simp_all,_,0,r.reverse,Z5 _ rfl⟩,rfl,q _ (g.hok.fresh (Z3 _))⟩
end
noncomputable def b5(h a:RS):Prop:=∀b o,h.get? b=Qq o->a.get? b=Qq o
theorem b5.trans(x:b5 a b)(y:b5 b c):b5 a c:=λp o e=>y p o (x p o e)
theorem b5.push(h:RS)(o:Ts):b5 h (h.push o):=λ_ ω e=>Z1 _ e
theorem b5.same(k:b5 g h)(d:g.objs.size<=a)(f:Sk a h c):b5 g c:=λb o e =>
 (f.2 b (Zc (Zd (Z6 e) d))).trans (k b o e)
theorem b5.but(k:b5 g h)(d:g.objs.size<=a)(f:∀b o,b∉[a]->h.get? b=Qq o->c.get? b=Qq o):b5 g c:=λb o e =>
 f b o (λz=>Zc (Zd (Z6 e) d) (QH.mp z)) (k b o e)
noncomputable def fI(a b:QD):Prop:=a.cps.toList<b.cps.toList
noncomputable instance (a b:QD):Decidable (fI a b):=inferInstanceAs (Decidable (a.cps.toList<b.cps.toList))
theorem w9(x:fI a b)(y:fI b c):fI a c:=List.lt_trans x y
section
variable {vs:List Qz}
noncomputable def jZ(z:QF)(h:RS)(k:QD)(u:Qz)(y:QF):Prop:=∃(b:RS) (a:Nat) (t:Tok),u=.str k t/\y={z with heap:=b,toks:=a}/\b5 h b
theorem J8(a:Nat->QD)(hh:A.handled=Qs)(hl:g.IsList l vs.toArray)(T:g.objs.size<=I)(hS:g.objs.size<=S)(ne:S≠I)
 (H:∀i v,vs[i]?=Qq v->∀(h:RS) (x:Nat),b5 g h->QI (QJ P w) A.in1 (call (.ref q) [v]) (jZ z h (a i)) (λ_ ω=>False) {z with heap:=h,toks:=x})
 (N:∀i v h x,vs[i]?=Qq v->(∀j,j<vs.length->¬fI (a j) (a i))->b5 g h->R (.ok (.ret v)) {z with heap:=h,toks:=x}) :
 ∀  r j i  (h:RS) (x:Nat) (b:Qz) (t:Tok) (n:Nat),vs.length-(j+1)=r->j+1<=vs.length->b5 g h->h.get? S=Qq (Su "list" #[b,.str (a i) t] n)->h.IsListIter I l (j+1) ->
  vs[i]?=Qq b->i<=j->(∀k,k<=j->¬fI (a k) (a i))->SW (QJ P w) A (.builtin "min.loop" ⟨[.ref I,.ref q,.ref S],[]⟩) R {z with heap:=h,toks:=x}:=by
 have nm:(Sy "min"++Sy ".loop") = "min.loop":=by decide
 have Y:l≠I:=by
  obtain⟨o,e,_⟩:=hl;exact Zc (Zd (Z6 e) T)
 have W:=T9 (prog:=P) (w:=w) (A:=A.in1) hh I l Y vs.toArray;have sz:vs.toArray.size=vs.length:=by simp
 have F:∀ {h},b5 g h->h.IsList l vs.toArray:=fun {h} k=>by
  obtain⟨o,e,r⟩:=hl;exact⟨o,k _ _ e,r⟩
 intro r
 induction r with
 |zero =>
  intro j i h x b t n hr hj k B it U X d;have aa:j+1=vs.length:=by omega
  refine Rn Ut ?_;rw[Ra Rz _];refine Qt (Vo B rfl ?_);refine Qt (SO (W.done _ _ _ ⟨by simp_all,F k⟩ λO G D=>?_));have L:=D S _ (by simpa using ne) B;refine Qt (WG L rfl (Qt (Ww (QB ?_))));exact N i b _ _ U (λs hk=>d s (by omega)) ((k.but T D).same hS (Tj O S _))
 |succ r ih =>
  intro j i h x b t n hr hj k B it U X d;have p:j+1<vs.length:=by omega
  refine Rn Ut ?_;rw[Ra Rz _];refine Qt (Vo B rfl ?_);refine Qt (SO (W.item (j+1) _ _ _ (by rw[sz];exact p) ⟨it,F k⟩ λv O G hp st D=>?_));have hv:vs[j+1]?=Qq v:=by simpa using hp
  have L:=D S _ (by simpa using ne) B;have kg:=k.but T D;refine Qt (SO (Q8 (RL (H (j+1) v hv O G kg) (λu y he=>?_) λ_ ω f=>f.elim)));obtain⟨Q,ab,m,rfl,rfl,Z⟩:=he;have M:=Z S _ L;have C:Q.IsListIter I l (j+1+1):=st.1.at λo e=>Z _ _ e;have E:=kg.trans Z;show QI _ A.in1 (tryCatch (holding [v,Rl (a (j+1)) m] (richCompare .Lt (Rl (a (j+1)) m) (Rl (a i) t) >>= _)) _ >>= _) _ _ _;refine Qt (SO (Q8 (Qt (show QI _ _ (QK .Lt (Rl (a (j+1)) m) (Rl (a i) t)) _ _ _ from lt_str ?_))));refine Qt (Q8 (RD ?_));refine Qt (Ww (QB ?_));by_cases c:fI (a (j+1)) (a i)
  ·have J:(a (j+1)).cps.toList<(a i).cps.toList:=c;obtain⟨n2,g2⟩:∃n2,(Q.update S (R7 λ_=>#[v,Rl (a (j+1)) m])).get? S=Qq (Su "list" #[v,Rl (a (j+1)) m] n2):=⟨_,get?_update_seq M λ_=>#[v,Rl (a (j+1)) m]⟩;have s2:=Tj Q S (R7 λ_=>#[v,Rl (a (j+1)) m]);simp only[J,decide_true,if_true];refine Qt (WG M rfl (Qt (Ww ?_)));rw[nm];refine QB ⟨SA Rz _,ih (j+1) (j+1) _ _ v m n2 (by omega) p (E.same hS s2) g2 (C.at λo e=>(s2.2 I (Rf ne)).trans e) hv (Z3 _) λs hk=>?_⟩;by_cases e:s=j+1
   ·subst e;exact λz=>Ta _ z
   ·exact λz=>d s (by omega) (w9 z c)
  ·have J:¬(a (j+1)).cps.toList<(a i).cps.toList:=c;simp only[J,decide_false,XI,if_false];refine Qt (Ww ?_);rw[nm];refine QB ⟨SA Rz _,ih (j+1) i _ _ b t n (by omega) p E M C U (by omega) λs hk=>?_⟩;by_cases e:s=j+1
   ·subst e;exact c
   ·exact d s (by omega)
theorem JP(b:Nat->QD)(M:A.handled=Qs)(m:z.heap.IsList l vs.toArray)(H:0<vs.length)
 (c:∀i v,vs[i]?=Qq v->∀  h   C ,b5 z.heap h->QI (QJ P w) A.in1 (call (.ref q) [v]) (jZ z h (b i)) (λ_ ω=>False) {z with heap:=h,toks:=C})
 (n:∀i v h C,vs[i]?=Qq v->(∀j,j<vs.length->¬fI (b j) (b i))->b5 z.heap h->Q v {z with heap:=h,toks:=C}) :
 QI (QJ P w) A (call (.builtin "min") [.ref l] [(Qu "key",.ref q)]) Q E z:=by
 have T:(Sy "min"++Sy ".loop") = "min.loop":=by decide
 refine kmk_tree PySem.F.kind_min PySem.F.plain_min PySem.F.entry_min (kmk_min_key _ _) ?_;refine Qt (wpAny_of_eq (show YW "min" ["key", "default"] 0 ⟨[],[(Qu "key",QV q)]⟩=pure [Qq (QV q),Qs]from rfl) ?_);refine Qt (QB (Qt (R8 m (Qt (VJ ?_ (Y1 _))))));rw[T];refine QB ⟨SA Rz _,?_⟩
 let a:Ts:={cls:=.type "list_iterator",data:=.fields #[.ref l,.int 0 0]}
 have d:(z.heap.push a).objs.size=z.heap.objs.size+1:=Zs ..;have Z:((z.heap.push a).push (Su "list" #[] 0)).get? z.heap.objs.size=Qq a:=Z1 _ (Z5 _ rfl);have G:((z.heap.push a).push (Su "list" #[] 0)).get? (z.heap.push a).objs.size=Qq (Su "list" #[] 0):=Z5 _ rfl;have S:b5 z.heap ((z.heap.push a).push (Su "list" #[] 0)):=(b5.push _ _).trans (b5.push _ _);have J:z.heap.objs.size<=z.heap.objs.size:=Z3 _;have L:z.heap.objs.size<=(z.heap.push a).objs.size:=by rw[d];exact Yv _
 have B:(z.heap.push a).objs.size≠z.heap.objs.size:=by rw[d];exact YE _
 have p:l≠z.heap.objs.size:=by
  obtain⟨o,e,_⟩:=m;exact Zc (Z6 e)
 have W:=T9 (prog:=P) (w:=w) (A:=A.in1) M z.heap.objs.size l p vs.toArray;have sz:vs.toArray.size=vs.length:=by simp
 have t:∀ {h},b5 z.heap h->h.IsList l vs.toArray:=fun {h} k=>by
  obtain⟨o,e,r⟩:=m;exact⟨o,k _ _ e,r⟩
 refine Rn Ut ?_;rw[Ra Rz _];refine Qt (Vo G rfl ?_);refine Qt (SO (W.item 0 _ _ _ (by rw[sz];exact H) ⟨⟨_,Z,rfl,rfl⟩,t S⟩ λv h1 D hp st O=>?_));have N:vs[0]?=Qq v:=by simpa using hp
 have X:=O _ _ (by simpa using B) G;have R:=S.but J O;refine Qt (SO (Q8 (RL (c 0 v N h1 D R) (λu y he=>?_) λ_ ω f=>f.elim)));obtain⟨I,aa,g,rfl,rfl,s⟩:=he;have F:=s _ _ X;have U:=Tj I (z.heap.push a).objs.size (R7 λ_=>#[v,Rl (b 0) g]);obtain⟨x,Y⟩:∃x,(I.update (z.heap.push a).objs.size (R7 λ_=>#[v,Rl (b 0) g])).get? (z.heap.push a).objs.size=Qq (Su "list" #[v,Rl (b 0) g] x):=⟨_,get?_update_seq F λ_=>#[v,Rl (b 0) g]⟩;refine Qt (WG F rfl ?_);rw[T];refine QB ⟨SA Rz _,J8 b M m J L B c n _ 0 0 _ _ v g x rfl H ((R.trans s).same L U) Y ((st.1.at λo e=>s _ _ e).at λo e=>(U.2 _ (Rf B)).trans e) N (Z3 _) λk' hk=>?_⟩;have:k'=0:=by omega
 subst this;exact λz=>Ta _ z
end
noncomputable def kx(c:QC)(q:QD):HO:=.ext λh=>h.CodeRec (.ref c) q
noncomputable def dj(H:Hp)(P:QC)(a:VY)(q:QD):Prop:=H P=Qq (.tbl #[])\/∃c,H P=Qq (.tbl #[rawInt a.line,rawInt a.col,.ref c])/\H c=Qq (kx c q)
noncomputable def gZ(P:QC)(H a:Hp):Prop:=∀b o,H b=Qq o->b≠P->a b=Qq o
theorem dj.ne(T:dj H P b q)(e:H a=Qq o)(h:∀d,o≠.tbl d):a≠P:=by
 rintro rfl;rcases T with z|⟨c,z,_⟩<;>rw[e]at z<;>exact h _ (Zr z)
theorem dj.stay(T:dj H P a q)(k:∀b o,H b=Qq o->d b=Qq o):dj d P a q:=by
 rcases T with z|⟨c,z,y⟩
 ·exact .inl (k _ _ z)
 ·exact .inr ⟨c,k _ _ z,k _ _ y⟩
theorem dj.but(T:dj H P a q)(d:H p=Qq u)(h:∀j,u≠.tbl j)(i:∀f,u≠.ext f)(k:∀b o,H b=Qq o->b≠p->g b=Qq o):dj g P a q:=by
 have e:=T.ne d h;rcases T with z|⟨c,z,y⟩
 ·exact .inl (k _ _ z (Rf e))
 ·refine .inr ⟨c,k _ _ z (Rf e),k _ _ y ?_⟩;rintro rfl;rw[d]at y;exact i _ (Zr y)
noncomputable def hB(d:QD->Option Qz)(a:RS):Prop:=∃(b:QC) (c:Ts),d "__builtins__" = Qq (.ref b)/\b≠VQ/\b≠Rg/\a.get? b=Qq c/\c.cls=.type "module"/\c.dict=Qq VQ/\c.data=.plain
structure iI(K:aV)(mg:QD->Option Qz)(base:RS)(c P:QC):Prop where
 hd:Th K c P=Qr
 blt:hB mg base
section
theorem xo:∀a b:RS,a.CodeRec (.ref c) q->(∀o,a.get? c=Qq o->b.get? c=Qq o)->b.CodeRec (.ref c) q:=λa b ⟨g,o,f,t,e,d,r⟩ k=>by
 cases e;exact⟨c,o,f,t,rfl,k o d,r⟩
theorem J5(I:aD X B σ H s)(T:iI X.K X.mg X.base c P)(t:X.env.code=.ref c)(hq:X.env.qual++"<lambda>" = q)
 (L:U0 i X.env=pure []) (M:WZ a X.env=([],[])) (W:dj H P l q)
 (h:∀  x   Y   f g   pm j ,aD X B σ x Y->Y.heap.get? f=Qq (Uv "<lambda>" q a p i [] pm g j)->Y.heap.CodeRec (.ref g) q->dj x P l q->gZ P H x->Q (.ref f) Y) :
 QI (QJ X.prog X.w) A (eval (.Lambda a p i l) X.env) Q E s:=by
 subst hq;refine PySem.W.kla_eval M ?_;obtain⟨bm,ob,e1,e3,e4,S,e5,e6,e7⟩:=T.blt;have aa:bm≠P:=by
  rintro rfl;have:=(I.bs _ _ S).2;rcases W with z|⟨g,z,_⟩<;>rw[this]at z<;>cases z
 have hb:s.heap.BuiltinsAt X.mg P:=⟨bm,ob,e1,e3,e4,aa,I.bk _ _ S,e5,e6,e7⟩;have hg:=I.mod.glob.keeps I.bk;have C:=WN I.kIn T.hd;have R:∀ {U},H P=Qq (.tbl U)->s.heap.get? P=Qq (VS U):=fun {U} e=>I.hok P _ e;have ac:Rg≠P:=by
  rintro rfl;obtain⟨o,es,ep,ho,hd,_⟩:=hg;rcases W with z|⟨g,z,_⟩<;>(simp_all)
 rcases W with z|⟨g,z,y⟩
 ·refine PySem.W.kla_makeFunction L I.ok.glob hg t C (R z) trivial rfl ac hb λg j D Z O N af w ae=>?_;have fc:=I.hok.fresh N;have nP:=Rf (eK z fc)
  let x:Hp:=upd (upd H P (.tbl #[rawInt l.line,rawInt l.col,.ref g])) g (kx g (X.env.qual++"<lambda>"))
  have G:x P=Qq (.tbl #[rawInt l.line,rawInt l.col,.ref g]):=by show upd _ _ _ _=_;rw[bS (Rf nP),dm]
  have J:x g=Qq (kx g (X.env.qual++"<lambda>")):=dm;have F:∀b o,H b=Qq o->b≠P->x b=Qq o:=λb o e nb=>by
   show upd _ _ _ _=_;rw[bS (eK e fc),bS nb];exact e
  have I1:aD X B σ x {s with heap:=D,toks:=Z}:=by
   refine I.step (ch:=[]) (λ_ m=>nomatch m) (λb o ω ω ω e n=>O b o (Rf (eK z n)) e) (λb o ω ω ω e n=>⟨o.slots,O b o (Rf (eK z n)) e⟩) (λb o ω e n=>?_) (λb o ω e=>?_)
    (λb xs e=>F b _ e λk=>by simp_all) (λb o u e=>F b _ e λk=>by simp_all) (λb U e=>?_) (λm hm=>?_) (λb u e=>?_) I.bare
   ·show upd _ _ _ _=_;rw[bS (Zc (Zd (Z6 e) N)),bS (Rf (eK z n))];exact n
   ·by_cases k:b=P
    ·simp_all
    ·exact⟨o,O b o k e⟩
   ·by_cases k:b=P
    all_goals simp_all
   ·exact hm.extBut O λk=>by have:=I.free;rw[k,z]at this;cases this
   ·by_cases k1:b=g
    ·subst k1;rw[J]at e;cases e;obtain⟨_,o,_,_,e',ho,_⟩:=id w;cases e';exact⟨w,⟨o,ho⟩,xo⟩
    ·by_cases k2:b=P
     ·subst k2;rw[G]at e;cases e;exact ae
     ·have e':H b=Qq u:=by
       have S:upd (upd H P _) g _ b=Qq u:=e
       rwa [bS k1,bS k2]at S
      refine(I.hok b u e').stay (λd v ab r=>O d v ?_ r) (λd r=>F d _ r ?_) λd xs r=>F d _ r ?_
      ·rcases ab with k|k
       ·rw[k];exact k2
       ·rintro rfl;rw[z]at k;cases k
      ·rintro rfl;rw[z]at r;cases r
      ·rintro rfl;rw[z]at r;cases r
  have I2:=I1.kept (t':=Z) (h':=D.push (Uv "<lambda>" (X.env.qual++"<lambda>") a p i [] ((X.mg "__name__").getD .none) g j)) λb u e=>Z1 _ e;refine h x _ D.objs.size g ((X.mg "__name__").getD .none) j I2 (Z5 _ rfl) ?_ (.inr ⟨g,G,J⟩) F;exact xo D _ w λo e=>Z1 _ e
 ·refine PySem.W.kla_makeFunctionHit (cv:=.ref g) L I.ok.glob hg t C (R z) trivial ?_ hb λj D Z kk sz=>?_
  ·simp[codeAmong,rawInt]
  ·have I2:=I.kept (t':=Z) (h':=D.push (Uv "<lambda>" (X.env.qual++"<lambda>") a p i [] ((X.mg "__name__").getD .none) g j)) λb u e=>Z1 _ (kk b u e);refine h H _ D.objs.size g ((X.mg "__name__").getD .none) j I2 (Z5 _ rfl) ?_ (.inr ⟨g,z,y⟩) λb o e ω=>e;obtain⟨hr,_,_⟩:=I.hok g _ y;exact xo s.heap _ hr λo e=>Z1 _ (kk _ _ e)
end
structure kr(scope:TH)(x:QD):Prop where
 co:scope.isCoroutine=Qv
 gen:scope.isGenerator=Qv
 kind:scope.kind=.function
 cell:∀y∈scope.names,y.2≠.cell
 loc:scope.names.lookup x=Qq .local
section
theorem Lp(M:z.heap.get? f=Qq (Uv Q q c (.Attribute (.Name x n) g R) a [] T E p))(L:z.heap.CodeRec (.ref E) q)
 (i:A.depth<WW) (m:z.heap.NoLimit) (J:T7 (UJ Q q c (.Attribute (.Name x n) g R) a [] T (.ref E) p) ⟨[v],[]⟩=pure [(x,v)]) (S:kr a x) (N:(x==("__debug__" : QD))=Qv)
 (s:∀d ,Q6 (.Name x n) g d (eval (.Name x n) d)=eval (.Name x n) d)
 (l:∀  F   G   h  (U:Nat),b5 z.heap h->QI (QJ P w) F (ZQ v g Qr) (λu y=>∃t j,u=.str k t/\y={z with heap:=h,toks:=j}) G {z with heap:=h,toks:=U}) :
 QI (QJ P w) A (call (.ref f) [v]) (jZ z z.heap k) (λ_ ω=>False) z:=by
 refine VP (PySem.W.kla_callFunE i M rfl S.co S.gen rfl L ?_);rw[J];refine QB (Yw S.cell (λy O=>by rw[QH.mp O];exact S.loc) (λr B C=>?_) S.kind);have D:b5 z.heap r:=λb o e=>(C.2 b (Zc (Z6 e))).trans (Z1 _ e);refine⟨m.keeps D,PySem.W.kla_codeExpr (GK (s _) (WV (Yx S.kind S.loc B (v:=v) (by simp) ?_) N))⟩;refine bt (l _ _ r _ D) λu y ⟨t,j,H,I⟩=>?_;exact⟨r,j,t,H,I,D⟩
end
noncomputable def nC(K:aV)(P:QC)(c:VY)(q b:QD)(m:TA):TE:=λo H Q=>m o H λn e=>∃(l:QC) (d:List V) (f:List QD),n=[.ref l]/\cF K e l d/\0<d.length/\dj e P c q/\f.length=d.length /\
 (∀(i:Nat) (v:V) (k:QD),d[i]?=Qq v->f[i]?=Qq k->∃a C j h,v=.ref a/\e a=Qq (.ins C j h)/\jB K C/\dO K C b/\h.lookup b=Qq (.str k)) /\
 ∀(i:Nat) (v:V) (k:QD) (g:Hp),d[i]?=Qq v->f[i]?=Qq k->(∀y∈f,¬fI y k)->dj g P c q->gZ P e g->Q v g
section
theorem zRu(T:iI X.K X.mg X.base c P)(A:X.env.code=.ref c)(hr:cV 2 X.A)(af:X.calm=Qr)(hg:Gl X "min")(hm:X.mg "min" = Qs)(ha:PA X [e] ta)
 (S:kr b x) (hq:autoParam (X.env.qual++"<lambda>" = q) A10._auto_1) (ae:autoParam (U0 b X.env=pure []) A10._auto_1) (F:autoParam (WZ d X.env=([],[])) A10._auto_1)
 (hb:autoParam (∀(pm cd D v:Qz),T7 (UJ "<lambda>" q d (.Attribute (.Name x p1) g p2) b [] pm cd D) ⟨[v],[]⟩=pure [(x,v)]) A16._auto_1) (hx:autoParam ((x==("__debug__" : QD))=Qv) A11._auto_1)
 (ac:autoParam (∀n:X9,Q6 (.Name x p1) g n (eval (.Name x p1) n)=eval (.Name x p1) n) A16._auto_1)
 (he:autoParam (Rc m (Qy [e] X.env)=(Qv,eval e X.env)::Rc m (Qy [] X.env)) A10._auto_1) (ah:autoParam ((Rc m (Qy [e] X.env)).any (·.1)=Qv) A10._auto_1) :
 PE X (.Call (.Name "min" p) [e] [⟨Qq "key",.Lambda d (.Attribute (.Name x p1) g p2) b U,am⟩] m) (nC X.K P U q g ta):=by
 intro Y s σ H Q I h;refine Te (pI I hg hm Zbn ?_);refine Zbk (bt (ha m Y s σ H _ I h) λus s1 ⟨vs,H1,I1,r1,q1⟩=>?_) he ah rfl rfl;obtain⟨l,xs,B,rfl,hl,h0,W,al,E,ab⟩:=q1;obtain⟨u,rfl,ru⟩:=v1 r1;cases (ru);refine Zbj (Qt (J5 I1 T A hq ae F W λH2 s2 f c' pm D Z ho J W2 gr=>Qt (VI (QB ?_))));refine Zbi ?_;have ag:cF X.K H2 l xs:=by
  rcases hl with(z|⟨o,z⟩)|z
  ·exact .inl (.inl (gr _ _ z (W.ne z (λ_ k=>nomatch k))))
  ·exact .inl (.inr ⟨o,gr _ _ z (W.ne z (λ_ k=>nomatch k))⟩)
  ·exact .inr z
 obtain⟨an,rv,pl,_⟩:=Z.list ag;have il:=rv.length;refine JP (λi=>B.getD i R5) (Z.ok.hd af) pl.isList (by omega) (λi v M h tk R=>?_) λi v h tk M w R=>?_
 ·have hi:=(Qw.mp M).1;obtain⟨y,N⟩:∃y,xs[i]?=Qq y:=⟨_,Z2 (by omega)⟩;obtain⟨k,G⟩:∃k,B[i]?=Qq k:=⟨_,Z2 (by omega)⟩;obtain⟨u,L,ry⟩:=rv.get N;rw[M]at L;cases L;obtain⟨a,C,dx,fs,rfl,ea,cc,nn,lf⟩:=E i y k N G;cases (ry);have ek:B.getD i R5=k:=by simp[G]
  rw[ek];have I3:=Z.kept (t':=tk) R;have aa:=gr _ _ ea (W.ne ea (λ_ k=>nomatch k));refine Lp (R _ _ ho) (xo _ _ J λo e=>R _ _ e) hr.in1.depth I3.nolimit (hb _ _ _ _) S hx ac λA' E' h2 ak k2=>?_;have I4:=I3.kept (t':=ak) k2;obtain⟨mA,O,r,_,_,_⟩:=tT I4.hok aa;obtain⟨w',hw,aj⟩:=dN.some_of (v:=V.str k) (o:=mA g) (by rw[<- lf];exact r g);obtain⟨t,rfl⟩:=aj;exact Ce I4.kIn O (cc.get g) cc.hd nn hw rfl ⟨t,_,rfl,rfl⟩
 ·have hi:=(Qw.mp M).1;obtain⟨y,N⟩:∃y,xs[i]?=Qq y:=⟨_,Z2 (by omega)⟩;obtain⟨k,G⟩:∃k,B[i]?=Qq k:=⟨_,Z2 (by omega)⟩;obtain⟨u,L,ry⟩:=rv.get N;rw[M]at L;cases L;have ek:B.getD i R5=k:=by simp[G]
  refine⟨y,H2,Z.kept (t':=tk) R,ry,ab i y k H2 N G (λy' ai=>?_) W2 gr⟩;obtain⟨j,hj,ej⟩:=Yf ai;have:=w j (by omega);rw[ek]at this;have e2:B.getD j R5=y':=by simp[Z2 hj,ej]
  rw[e2]at this;exact this
end
theorem K7(T:Zbp p a b l t h):hB l h:=by
 obtain⟨k,m,c,d,f,g,i,j⟩:=T.bmain;refine⟨k,m,c,d,λq=>?_,f,g,i,j⟩;obtain⟨o,r,n,e,s,_⟩:=T.g
 simp_all
noncomputable def D1(K:aV)(a:QC):It :=
 ⟨λi H=>∃ b x,cF K H a b/\b[i]? = Qq x,
  λi H v c=>∃p x,v=.ref p/\H p=Qs/\c=upd H p (.tup [.int (i:Nat),x])/\∀b,cF K H a b->b[i]?=Qq x,
  λi H=>∃b,cF K H a b/\b.length<=i⟩
theorem Lu{P:QW}{w:Rm}{K:aV}{es:List Rx}{x1:_}{G:VY}{l e m:QC}(D:e≠m):
 ia P w K (.Tuple es x1 G) (D1 K l) [e,m] e (λi h=>(∃d,IsEnum h e m ( i ) d)/\h.IsListIter m l i) where
 mem:=by simp
 obj:=λi h st b a=>by
  obtain⟨⟨d,f⟩,⟨o4,j,_,d4⟩⟩:=st;simp at a;rcases a with rfl|rfl
  all_goals simp_all
 keep:=λi h R st k=>by
  obtain⟨⟨d,f⟩,j⟩:=st;exact⟨⟨d,k e (by simp) _ f⟩,j.at λo q=>k m (by simp) o q⟩
 item:=by
  intro X z C y S i g s U H E I r st B;subst z C y;obtain⟨⟨d,f⟩,j⟩:=st;obtain⟨xs,x,t,O⟩:=B;obtain⟨F,M,L,_⟩:=I.list t;obtain⟨u,hu,ru⟩:=M.get O;refine wpAny_pyNext_enum_item f j L.isList (x:=u) (by simpa using hu) D λR Y Z a3 a4 a5=>?_;refine⟨_,rfl,wpAny_letOwnedTupleGo_enum Y λv b1 N=>?_⟩;have ne:s.heap.objs.size≠e:=λq=>by have:=Z6 f;rw[<- q]at this;exact Zv _ this
  have J :=I.turns (t':=s.toks + 1) (λb o a q=>by
   simp at a
   exact(N.2 b a.1).trans (a5 b o a.1 a.2 q)) r
  have gT:=(N.2 _ ne).trans a3;have Q:=I.hok.fresh (Z3 _)
  have W:aD X g U (upd H s.heap.objs.size (.tup [.int  i ,x])) { s with heap:=v,toks:=s.toks + 1 }:=J.adopt Q I.sz (Y5 I.lt) (λn c q=>by
   obtain⟨w',q⟩:=I.cell n c q
   exact Zc q.lt) (λp hp=>Zc (Z6 (I.pin p hp).1)) ⟨by show 2<=QG;decide,[.int  i  s.toks,u],.cons ⟨_,rfl⟩ (.cons ru .nil),⟨_,gT,rfl,_,rfl⟩⟩
  refine⟨.ref s.heap.objs.size,_,W,rfl,⟨_,x,rfl,Q,rfl,λzs hz=>by rw[I.list_inj hz t];exact O⟩,⟨⟨u,?_⟩,Z.at λo q=>(N.2 _ (Rf D)).trans q⟩,λb a=>?_⟩
  ·have:(((i+1:Nat)))=(i:Int)+1:=by push_cast;rfl
   rw[this];exact b1
  ·have A:=(r b a).1;have:b≠s.heap.objs.size:=by
    rintro rfl;obtain⟨o,q⟩:∃o,s.heap.get? s.heap.objs.size=Qq o:=by
     simp at a;rcases a with q|q<;>rw[q]
     ·exact⟨_,f⟩
     ·obtain⟨o,q,_⟩:=j;exact⟨o,q⟩
    exact Zv _ (Z6 q)
   rw[bS this];exact A
 done:=by
  intro X z C y S i g s U H E I r st B;subst z C y;obtain⟨⟨d,f⟩,j⟩:=st;obtain⟨xs,t,T⟩:=B;obtain⟨F,M,L,_⟩:=I.list t;have e1:=M.length;refine wpAny_pyNext_enum_end (I.ok.hd S) f j L.isList (by simp;omega) λR kk=>⟨rfl,I.turns (λb o a q=>?_) r⟩;simp at a;exact kk b o a.2 q
 self:=λ_ ω ω ω ω st h=>ZI st.1.choose_spec h
noncomputable def tU(K:aV)(c:TA):TI:=λf H R=>c f H λd b=>∃a,d=[.ref a]/\(∃e,cF K b a e)/\R (D1 K a) b
section
theorem zZw(t:Gl X "enumerate")(v:X.mg "enumerate" = Qs)(r:PA X [g] D)(w:autoParam (Qy [g] X.env=[(Qv,eval g X.env)]) A10._auto_1):
 PI X (.Tuple G P M) (.Call (.Name "enumerate" p) [g] [] i) (tU X.K D):=by
 intro d s E H R I h;refine Call_ (pI I t v boot_enumerate (Si (bt (r i d s E H _ I h) λN e ⟨O,l,f,B,z⟩=>?_) w rfl));obtain⟨a,rfl,⟨Q,A⟩,q⟩:=z;obtain⟨u,rfl,C⟩:=v1 B;cases (C);obtain⟨x,L,y,_⟩:=f.list A;refine call_enumerate_list y.isList λJ j n F o=>ZI j ?_;have m:=f.kept (t':=e.toks) o;refine⟨e.heap.objs.size+1,[e.heap.objs.size+1,e.heap.objs.size],_,_,l,rfl,m,Lu (YE _),⟨⟨_,j⟩,n⟩,λc k=>?_,q⟩;have b:e.heap.objs.size<=c:=by
  simp at k;rcases k with q|q
  all_goals simp_all
 exact f.fpOk b (f.hok.fresh b)
end
noncomputable def kA(H:Hp)(d:QC)(kvs:List (aR×V))(H':Hp):Prop:=∃o,H'=upd H d (.frz o (.dK kvs))
theorem kA.at{H H':Hp}{d:QC}{kvs:List (aR×V)}(z:kA H d kvs H'):Rd H' d (.dK kvs):=by
 obtain⟨o,rfl⟩:=z;exact .inr ⟨o,dm⟩
theorem kA.ne{H H':Hp}{d:QC}{kvs:List (aR×V)}(z:kA H d kvs H'){b:QC}(h:b≠d):H' b=H b:=by
 obtain⟨o,rfl⟩:=z;exact bS h
section
theorem Iv(h:H a=Qq o):upd H a o=H:=by
 funext b;by_cases e:b=a
 ·subst e;rw[dm,h]
 ·rw[bS e]
theorem aD.freeze(I:aD X i y H s)(r:Rd H d (.dK l)):∃o g f,o.data=.dict g f/\s.heap.get? d=Qq o/\aD X i y (upd H d (.frz o (.dK l))) s:=by
 rcases r with r|⟨o,r⟩
 ·have w:=I.hok d _ r;obtain⟨_,_,_,_,o,g,f,e,x,k,_⟩:=id w;refine⟨o,g,f,k,e,?_⟩;have j:∀b a,H b=Qq (.tup a)->b≠d:=λb a q z=>by simp_all
  refine I.step (ch:=[]) (λ_ m=>nomatch m) (λb o ω ω ω e ω=>e) (λb o ω ω ω e ω=>⟨o.slots,e⟩) (λb o ω q n=>?_) (λb o ω e=>⟨o,e⟩)
   (λb a q=>?_) (λb o u q=>?_) (λb B q=>⟨#[],?_⟩) (λm h=>h) (λb u q=>?_) I.bare
  ·rw[bS (Rf (eK r n))];exact n
  ·rw[bS (j b a q)];exact q
  ·rw[bS (λz=>by simp_all)];exact q
  ·rw[bS (λz=>by simp_all),q];simp
  ·by_cases t:b=d
   ·subst t;rw[dm]at q;cases q;exact⟨e,w⟩
   ·rw[bS t]at q;exact(I.hok b u q).stay (λc v ω q=>q) (λc q=>by rw[bS (λz=>by simp_all)];exact q) λc a q=>by rw[bS (j c a q)];exact q
 ·obtain⟨e,_,_,_,_,A,g,f,p,x,k,_⟩:=I.hok d _ r;rw[e]at p;cases p;exact⟨o,g,f,k,e,by rw[Iv r];exact I⟩
theorem aD.dictAt(I:aD X i t H s)(e:H d=Qq (.frz o (.dK c)))(h:o.data=.dict l j):∃b,KV c b/\s.heap.DictAt (aN X.prog X.w) d b j/\(d==RM)=Qv:=by
 obtain⟨g,_,lo,b,p,q,m,k,f,n,a,r⟩:=I.hok d _ e;rw[g]at f;cases f;rw[h]at a;cases a;exact⟨b,p,⟨o,l,g,n,h,r⟩,lo⟩
end
theorem KV.get:∀ {a:List (d×V)}{c:List (d×Qz)}{i:Nat}{k:d}{x:V},KV a c->a[i]?=Qq (k,x)->∃u,c[i]?=Qq (k,u)/\aM x u
 |_,_,_,_,_,.nil,e=>by simp at e
 |_,_,0,k,x,.cons (b:=b) r _,e=>by
  simp at e;obtain⟨h,u⟩:=b;subst e
  simp_all
 |_,_,i+1,k,x,.cons _ t,e=>by
  obtain⟨u,f,g⟩:=KV.get t (by simpa using e);exact⟨u,by simpa using f,g⟩
theorem KV.len{vs:List (a×Qz)}(h:KV kvs vs):kvs.length=vs.length:=Uj h
theorem u6(h:eI k v=Qr):aM (kV k) v:=by
 rcases mj h with⟨i,t,rfl,rfl⟩|⟨x,t,rfl,rfl⟩
 ·exact⟨t,rfl⟩
 ·exact⟨t,rfl⟩
noncomputable def tV(d:QC)(a:List (aR×V))(o:Ts):It :=
 ⟨λi H=>H d=Qq (.frz o (.dK a))/\i<a.length,λi H v b=>b=H/\∃k x,a[i]?=Qq (k,x)/\v=kV k,λi H=>H d=Qq (.frz o (.dK a))/\a.length<=i⟩
theorem N6{P:QW}{w:Rm}{K:aV}{tg:Rx}{d g:QC}{j:List (aR×V)}{o:Ts}{Y:Array DictEntry}{M:Nat}(Q:o.data=.dict Y M):
 ia P w K tg (tV d j o) [g] g (λi h=>h.IsKeyIter g d i j.length M) where
 mem:=by simp
 obj:=λi h st b f=>by
  have e:b=g:=by simpa using f
  subst e;obtain⟨o,e,c,d⟩:=st
  simp_all
 keep:=λi h N st k=>st.at λo e=>k g (by simp) o e
 item:=by
  intro X D J C O i n s σ H E I r st F;subst D J C;obtain⟨G,R⟩:=F;obtain⟨vs,l,t,lo⟩:=I.dictAt G Q;obtain⟨⟨k,x⟩,S⟩:∃p,j[i]?=Qq p:=⟨_,Z2 R⟩;obtain⟨u,hu,ru⟩:=l.get S;obtain⟨v,y,Z,z,A,B⟩:=r g (by simp);have a:=st;rw[l.len]at a;refine wpAny_pyNext_dict_item a t hu λL N m q sb=>?_;have T:=I.turned (t':=s.toks) (λb o f e=>(sb.2 b f).trans e) v y z A B;obtain⟨o2,e,c,U⟩:=id q;exact⟨L,rfl,xr e c U (by decide) ⟨kV k,H,T,u6 m,⟨rfl,k,x,S,rfl⟩,by rw[l.len];exact q,λb f=>(r b f).1⟩⟩
 done:=by
  intro X D J C O i n s σ H E I r st F;subst D J C;obtain⟨G,R⟩:=F;obtain⟨vs,l,t,lo⟩:=I.dictAt G Q;obtain⟨v,y,Z,z,A,B⟩:=r g (by simp);have a:=st;rw[l.len]at a;exact wpAny_pyNext_dict_end (I.ok.hd O) a t (by have:=l.len;simp;omega) λN W=>⟨rfl,I.turned (λb o f e=>W b o f e) v y z A B⟩
 self:=λ_ ω ω ω ω st h=>wpAny_pyIter_keyiter st h
noncomputable def fY(v d:QC):HO:=.ext λh=>h.IsValuesView v d
section
noncomputable def nA(c:TE):TE:=λe H Q=>c e H λx a=>∃d b,x=.ref d/\Rd a d (.dK b)/\∀v,a v=Qs->Q (.ref v) (upd a v (fY v d))
theorem zRt(y:PE X o D)(a:autoParam (Q6 o "values" X.env (eval o X.env)=eval o X.env) A10._auto_1)(c:autoParam ((f.endLine==g.line)=Qr) A10._auto_1):
 PE X (.Call (.Attribute o "values" f) [] [] g) (nA D):=by
 intro i s F H Q I h;refine UP a c (bt (y i s F H _ I h) λv n ⟨x,G,j,B,d,l,t,m,A⟩=>?_);subst t;obtain rfl:v=QV d:=B;obtain⟨p,C,lo⟩:=yC j (.inl ⟨l,m⟩);obtain⟨_,_,E,M,q⟩:=iW j.hok m;refine⟨"dict", "dict.values",SU,SK,Wa,p,C,Sj rfl (U4 ?_)⟩;refine U1 SK p V2 (VU _) (ZP (aN X.prog X.w) d lo) ⟨⟨E,q⟩,?_⟩;have w:=j.hok.fresh (Z3 _);refine⟨.ref n.heap.objs.size,_,j.laid (o:=fY n.heap.objs.size d) (λb u e=>Z1 _ e) (Z3 _) ⟨⟨_,Z5 _ rfl,rfl,rfl⟩,⟨_,Z5 _ rfl⟩,λJ L ⟨z,e,r⟩ k=>⟨z,k _ e,r⟩⟩,rfl,A _ w⟩
theorem O4:bL X (.type "list") (λJ H Q=>∃d c,J=[.ref d]/\Rd H d (.dK c)/\X.calm=Qr/\∀p,H p=Qs->Q (.ref p) (upd H p (.lst (c.map λm=>kV m.1)))):=by
 intro F s σ H J us Q I rv h;obtain⟨d,c,rfl,G,S,q⟩:=h;obtain⟨u,rfl,ru⟩:=v1 rv;cases (ru);obtain⟨Y,lo,ks,m,C⟩:=iW I.hok G;obtain⟨o,N,M,g,O,T,r⟩:=id C;have B:s.heap.DictAt (aN X.prog X.w) d ks M:=⟨o,N,g,O,T,r⟩;have E:=m.len;refine PySem.W.kdl_call (Xp lo) (I.ok.hd S) B (by omega) λh' tk i L D R f=>?_;have P:=I.hok.fresh (Z3 _);refine⟨.ref s.heap.objs.size,_,I.laid (o:=.lst (c.map λm=>kV m.1)) D (Z3 _) ⟨by simp_all,i.toList,L,?_,by omega⟩,rfl,q _ P⟩;have y:i.toList.length=c.length:=by rw[Yo,E];exact f.1
 have l:∀  j   v ,i.toList[j]?=Qq v->∃k x,c[j]?=Qq (k,x)/\aM (kV k) v:=λj v e=>by
  obtain⟨k,x,z,W⟩:=f.2 j v (by rw[<- Y9];exact e);have U:j<c.length:=by rw[<- y];exact(Qw.mp e).1
  obtain⟨⟨k',x'⟩,n⟩:∃p,c[j]?=Qq p:=⟨_,Z2 U⟩;obtain⟨u',w,_⟩:=m.get n;rw[z]at w;cases w;exact⟨k,x',n,u6 W⟩
 clear R f Y B C D E m G q;generalize i.toList=A at y l
 induction c generalizing A with
 |nil =>
  cases A with
  |nil=>exact .nil
  |cons a b=>cases y
 |cons p t Z =>
  cases A with
  |nil=>cases y
  |cons a b =>
   refine .cons ?_ (Z b (by simpa using y) λj v e=>?_)
   ·obtain⟨k,x,e,q⟩:=l 0 a rfl
    simp_all
   ·obtain⟨k,x,z,q⟩:=l (j+1) v (by simpa using e);exact⟨k,x,by simpa using z,q⟩
theorem CS:∀  a b ,ltCps a b=Qr ↔ a<b
 |[],[]=>by simp[ltCps]
 |[],_::_=>by simp[ltCps]
 |_::_,[]=>by simp[ltCps]
 |a::r,b::t=>by
  rw[List.cons_lt_cons_iff];simp[ltCps,CS r t]
theorem GN(x:¬fI b a)(y:¬fI c b):¬fI c a:=by
 have d:=x;have e:=y;exact List.le_trans d e
theorem D3:∀  l   a ,risingS a l=Qr->(a::l).Pairwise (λx y=>¬fI y x)
 |[],a,_=>by simp
 |b::r,a,h=>by
  have d:(!ltCps b.cps.toList a.cps.toList&&risingS b r)=Qr:=h;simp at d;have f:=D3 r b d.2;have c:¬fI b a:=λz=>by
   have:=(CS _ _).mpr z
   simp_all
  refine Uc.mpr ⟨λy e=>?_,f⟩;rcases QL.mp e with rfl|e
  ·exact c
  ·exact GN c (by simp_all)
theorem zK:∀  l ,sortedS l=Qr->l.Pairwise (λx y=>¬fI y x)
 |[],_=>.nil
 |a::r,h=>D3 r a h
theorem wW:∀ {b:List QD}{c:List Qz},aG (b.map V.str) c->StrsAre c b
 |[],_,.nil=>.nil
 |k::r,_,.cons a t=>by
  obtain⟨d,rfl⟩:=a;exact .cons k d (wW t)
theorem xu:∀ {a:List QD}{b:List Qz},StrsAre b a->aG (a.map V.str) b
 |_,_,.nil=>.nil
 |_,_,.cons x t r=>.cons ⟨t,rfl⟩ (xu r)
theorem KA{K:aV}(x:X.K=K):bL X (.builtin "sorted") (λn H Q=>∃(l:QC) (g:List QD),n=[.ref l]/\cF K H l (g.map V.str)/\g.length<64 /\
 ∀p (c:List QD),H p=Qs->c.Perm g->c.Pairwise (λa b=>¬fI b a)->Q (.ref p) (upd H p (.lst (c.map V.str)))):=by
 subst x;intro k s L H n J Q I E h;obtain⟨l,g,rfl,z,w,q⟩:=h;obtain⟨u,rfl,D⟩:=v1 E;cases (D);obtain⟨i,m,C,A⟩:=I.list z;have F:=wW m;have B:=m.length;simp at B A;refine sorted_strs C.isList F (by omega) λf d r j t=>?_;obtain⟨e,y⟩:=sortedAll_at s.heap i f;have v:=I.hok.fresh (Yv _);have G:=j.length_eq;refine⟨.ref (s.heap.objs.size+1),_,I.laid (o:=.lst (d.map V.str)) (λ_ ω=>sortedAll_old) (Yv _) ⟨by simp_all,f.toList,e,xu r,by simpa[Su]using y⟩,rfl,q _ d v j ?_⟩;exact zK d t
end
theorem Ou:YX (.type "list") "keys" = pure Qs:=by rw[typeLookup_type,builtinLookup_eq_fast];kernel_rfl
theorem DM:V5 ZL "dict.update.loop" = Qq TB.«dict.update.loop»:=Wl (by kernel_rfl)
theorem xq:plainId "dict.update.loop" = Qr:=by decide +kernel
section
theorem JV{s:QF}{a:QC}{o:Ts}{r:Array Qz}{k:Nat}{Q:Option Qz->QF->Prop}(p:s.heap.get? a=Qq o)(l:o.cls=.type "list")(b:o.data=.seq r k)(m:o.dict=Qs)(v:A.handled=Qs)
 (h:∀i q,b5 s.heap i->Q Qs {s with heap:=i,toks:=q}):QI (QJ P w) A (getAttr? (.ref a) "keys") Q E s:=by
 obtain⟨c,u,t,y⟩:=o;simp only at l b m;subst l b m;obtain⟨x,g,d,q,os⟩:=s;have j:∀n,(⟨x,g,d,n,os⟩:QF).TypeIs (.ref a) "list":=λ_=>⟨_,p,rfl⟩;have B:=sub_AttributeError;have C:=UA.lookup;have D:=UA.bind (.ref a);have G:=am_list_getattr_none;unfold getAttr? getAttrBy? getAttrBy
 repeat (any_goals (first|assumption|exact j _|((with_reducible show QI _ _ (call (YN "list.__getattribute__") _ _) _ _ _);refine SQ UA (j _) am_entry_list_getattribute (F.args_list_getattribute_2 _ _) (meets_getattribute_miss_list a r k y "keys" _ Ou (by decide) (by size_fits)) ⟨p,v,λi z e f=>?_⟩)|wp_step))
 obtain⟨I,J,H⟩:=f.there;show QI _ _ (YZ _ _ _ _ _ _ _) _ _ _;unfold YZ hookOrError attributeErrorLeaves
 repeat (any_goals (first|assumption|wp_step))
 exact h _ _ f.of.keeps
theorem N8{c:Type}{l:List c}(h:l.Nodup){i j:Nat}{x:c}(a:l[i]?=Qq x)(b:l[j]?=Qq x):i=j:=by
 obtain⟨f,d⟩:=Qw.mp a;obtain⟨g,e⟩:=Qw.mp b;exact(VM h).mp (d.trans e.symm)
theorem Jb{z:QF}{g:RS}{l I d:QC}{a:List Qz}{f:List (aR×Qz)}{R:Result->QF->Prop}(hh:A.handled=Qs)(hl:g.IsList l a.toArray)(L:g.objs.size<=I)(hd:g.objs.size<=d)(ne:d≠I)(hz:a.length<=QG)
 (aa:f.length=a.length) (nd:(f.map (·.1)).Nodup) (hp:∀(i:Nat) (v:Qz) (k:aR) (u:Qz),a[i]?=Qq v->f[i]?=Qq (k,u)->∃(t:QC) (y:Qz),v=.ref t/\WD g t #[y,u]/\eI k y=Qr)
 (H:∀h D,b5 g h->h.DictOf (aN P w) d f->R (.ok (.ret .none)) {z with heap:=h,toks:=D}) :
 ∀(r i:Nat) (h:RS) (D:Nat),a.length-i=r->i<=a.length->b5 g h->h.DictOf (aN P w) d (f.take i)->h.IsListIter I l i ->
  SW (QJ P w) A (.builtin "dict.update.loop" ⟨[.ref d,.ref I,rawInt (i:Nat),.none],[]⟩) R {z with heap:=h,toks:=D}:=by
 have S:l≠I:=by
  obtain⟨o,e,_⟩:=hl;exact Zc (Zd (Z6 e) L)
 have W:=T9 (prog:=P) (w:=w) (A:=A.in1) hh I l S a.toArray;have sz:a.toArray.size=a.length:=by simp
 have C:∀ {h},b5 g h->h.IsList l a.toArray:=fun {h} k=>by
  obtain⟨o,e,r⟩:=hl;exact⟨o,k _ _ e,r⟩
 have dk:∀ {h h':RS}{q:List (aR×Qz)},h.DictOf (aN P w) d q->(∀b o,b∉[I]->h.get? b=Qq o->h'.get? b=Qq o)->h'.DictOf (aN P w) d q:=λ⟨o,es,ep,e,r⟩ k=>⟨o,es,ep,k _ _ (by simpa using ne) e,r⟩;intro r
 induction r with
 |zero =>
  intro i h D hr hi k G Z;have N:i=a.length:=by omega
  subst N;refine Rn DM ?_;rw[Ra xq _];show QI _ A.in1 (WY (QV I) >>= _) _ _ _;refine Qt (W.done _ _ _ ⟨by rw[sz];exact Z,C k⟩ λF E B=>?_);show QI _ A.in1 (Zbx d [] >>= _) _ _ _;refine Qt (QB (QB ?_));rw[<- aa,Y8]at G;exact H _ _ (k.but L B) (dk G B)
 |succ r ih =>
  intro i h D hr hi k G Z;have T:i<a.length:=by omega
  refine Rn DM ?_;rw[Ra xq _];show QI _ A.in1 (WY (QV I) >>= _) _ _ _;refine Qt (W.item i _ _ _ (by rw[sz];exact T) ⟨Z,C k⟩ λv F E hv st B=>?_);have Y:a[i]?=Qq v:=by simpa using hv
  obtain⟨⟨c,u⟩,Q⟩:∃p,f[i]?=Qq p:=⟨_,Z2 (by omega)⟩;obtain⟨t,y,rfl,ht,hy⟩:=hp i v c u Y Q;have kg:=k.but L B;have X:=ht.keeps kg;obtain⟨o,ho,hc,n,M⟩:=id X;have hT:({z with heap:=F,toks:=E}:QF).TypeIs (.ref t) "tuple":=⟨o,ho,hc⟩;refine Qt (Q8 (Qt (SO ?_)));unfold Zbw;refine Qt (XM hT ?_);rw[if_pos (by decide)];refine Qt (Vo ho M (QB ?_));show QI _ A.in1 (holding [y,u] (dictSet d y u)) _ _ _;have U:=dk G B;have nk:c∉(f.take i).map (·.1):=λm=>by
   obtain⟨q,hq,e⟩:=Qx.mp m;obtain⟨j,hj,ej⟩:=Yf hq;have O:j<i:=by simp at hj;omega
   have e1:(f.map (·.1))[j]?=Qq c:=by
    have:f[j]?=Qq q:=by
     have:=Z2 hj;rw[Yd O]at this;rw[this,ej]
    simp[this,e]
   have e2:(f.map (·.1))[i]?=Qq c:=by simp[Q]
   have:=N8 nd e1 e2;omega
  have ab:stored (f.take i) c u=f.take (i+1):=by
   have s:¬((f.take i).any λkv=>decide (kv.1=c))=Qr:=by
    rw[X8];rintro⟨kv,F,J⟩;exact nk (Qx.mpr ⟨kv,F,of_decide_eq_true J⟩)
   rw[stored,if_neg s,Ym,Q];rfl
  refine Q8 (wpAny_dictSet_pairs (knd:=aN P w) (k:=c) hy U (λJ x sb=>?_) (by have:=Ve i f;omega));rw[ab]at x;refine QB ⟨SA xq _,?_⟩;have e3:((i:Nat):Int)+1=((i+1:Nat):Int):=by push_cast;rfl
  show SW _ A (.builtin "dict.update.loop" ⟨[.ref d,.ref I,rawInt (((i:Nat):Int)+1),.none],[]⟩) _ _;rw[e3];exact ih (i+1) J _ (by omega) (by omega) (kg.same hd sb) x (st.1.at λo e=>(sb.2 I (Rf ne)).trans e)
theorem KF{z:QF}{l:QC}{b:List Qz}{ps:List (aR×Qz)}{Q:Qz->QF->Prop}(H:A.handled=Qs)(s:PlainL z.heap l b.toArray)(R:b.length<=QG)
 (B:ps.length=b.length) (T:(ps.map (·.1)).Nodup) (O:∀(i:Nat) (v:Qz) (k:aR) (u:Qz),b[i]?=Qq v->ps[i]?=Qq (k,u)->∃(t:QC) (y:Qz),v=.ref t/\WD z.heap t #[y,u]/\eI k y=Qr)
 (p:∀h C,b5 z.heap h->h.DictOf (aN P w) z.heap.objs.size ps->Q (.ref z.heap.objs.size) {z with heap:=h,toks:=C}) :
 QI (QJ P w) A (call (.type "dict") [.ref l]) Q E z:=by
 refine callType_codes (Q₁:=λf c=>f=.ref z.heap.objs.size/\c={z with heap:=z.heap.push {cls:=.type "dict",data:=.dict #[]}}) F.kt_called_dict (F.kt_typeCall_dict_1 _) F.entry_dict_init (kt_code_dict_new _ ⟨rfl,rfl⟩) ?_;rintro f c ⟨rfl,rfl⟩;have a:(z.heap.push {cls:=.type "dict",data:=.dict #[]}).DictOf (aN P w) z.heap.objs.size []:=Vk z.heap;have j:b5 z.heap (z.heap.push {cls:=.type "dict",data:=.dict #[]}):=b5.push _ _;obtain⟨U,n,G,D,dl,W⟩:=id s;refine⟨a.typeIs,F.args_dict_init_2 _ _,?_⟩;unfold TB.«dict.__init__»;refine Qt ?_;unfold Zbv;refine Qt (wpAny_notOrdered_dict a.typeIs ?_);show QI _ _ (pure (z.heap.objs.size,[QV l])) _ _ _;refine QB ?_;show QI _ _ (VH "dict.__init__" z.heap.objs.size (.ref l) [] .none) _ _ _;unfold VH;have M:({z with heap:=z.heap.push {cls:=.type "dict",data:=.dict #[]}}:QF).TypeIs (.ref l) "list":=⟨U,j _ _ G,D⟩;refine Qt (XM M ?_);rw[if_pos (by decide)];refine Qt (JV (j _ _ G) D W dl H λq Y m=>?_);simp only[Option.isNone_none,if_true];have x:q.IsList l b.toArray:=by
  obtain⟨o,e,r⟩:=s.isList;exact⟨o,m _ _ (j _ _ e),r⟩
 refine Qt (VO (Qt (R8 x (QB ⟨SA xq _,?_⟩))));have X:z.heap.objs.size+1<=q.objs.size:=by
  have:=Z6 (m _ _ (Z5 z.heap (o:={cls:=.type "dict",data:=.dict #[]}) rfl));exact this
 refine Jb (g:=z.heap) (z:=z) (A:=A.in1) H s.isList (I:=q.objs.size) (d:=z.heap.objs.size) (by omega) (Z3 _) (Zc (by omega)) R B T O (λh C S N=>⟨rfl,p h C S N⟩) _ 0 _ _ rfl (Y1 _) ((j.trans m).trans (b5.push _ _)) ?_ ⟨_,Z5 _ rfl,rfl,rfl⟩;obtain⟨o,L,J,e,r⟩:=a;exact⟨o,L,J,Z1 _ (m _ _ e),r⟩
end
section
theorem Om{K:aV}(hK:X.K=K):bL X (.type "dict") (λvs H Q=>∃(l:QC) (S:List QC) (f:List (aR×V)),vs=[.ref l]/\cF K H l (S.map V.ref)/\X.calm=Qr/\(f.map (·.1)).Nodup/\f.length=S.length /\
 (∀(i:Nat) (t:QC) (k:aR) (v:V),S[i]?=Qq t->f[i]?=Qq (k,v)->H t=Qq (.tup [kV k,v]))/\∀p,H p=Qs->Q (.ref p) (upd H p (.dK f))):=by
 subst hK;intro aa s σ H vs us Q I rv h;obtain⟨l,S,f,rfl,hl,hc,nd,ln,ht,q⟩:=h;obtain⟨u,rfl,Y⟩:=v1 rv;cases (show u=QV l from Y);obtain⟨g,rx,pl,hz⟩:=I.list hl;have il:=rx.length;simp only[Z0]at il hz;have W:∀(i:Nat) (v:Qz),g[i]?=Qq v->∃(t:QC) (k:aR) (x:V) (y u:Qz),v=.ref t/\f[i]?=Qq (k,x)/\WD s.heap t #[y,u]/\eI k y=Qr/\aM x u:=λi v e=>by
  have J:i<g.length:=(Qw.mp e).1;obtain⟨t,et⟩:∃t,S[i]?=Qq t:=⟨_,Z2 (by omega)⟩;obtain⟨⟨k,x⟩,Z⟩:∃p,f[i]?=Qq p:=⟨_,Z2 (by omega)⟩;obtain⟨v',M,r⟩:=rx.get (i:=i) (x:=.ref t) (by simp[et]);rw[e]at M;cases M;cases (show v=QV t from r);obtain⟨_,is,rr,it⟩:=I.hok t _ (ht i t k x et Z);obtain⟨y,u,rfl,ry,Y⟩:=v2 rr;refine⟨t,k,x,y,u,rfl,Z,it,?_,Y⟩;cases k with
  |inl n=>obtain⟨R,rfl⟩:=ry;exact Fs n R
  |inr z=>obtain⟨R,rfl⟩:=ry;exact G7 z R
 obtain⟨B,lp,A⟩:∃B:List (aR×Qz),B.length=g.length/\∀i,i<g.length->∃(t:QC) (k:aR) (x:V) (y u:Qz),g[i]?=Qq (.ref t)/\f[i]?=Qq (k,x)/\WD s.heap t #[y,u]/\eI k y=Qr/\aM x u/\B[i]?=Qq (k,u):=by
  have:∀i:Fin g.length,∃p:aR×Qz,∃(t:QC) (k:aR) (x:V) (y u:Qz),g[i.1]?=Qq (.ref t)/\f[i.1]?=Qq (k,x)/\WD s.heap t #[y,u]/\eI k y=Qr/\aM x u/\p=(k,u):=λi=>by
   obtain⟨v,L⟩:∃v,g[i.1]?=Qq v:=⟨_,Z2 i.2⟩;obtain⟨t,k,x,y,u,rfl,D,h3,h4,h5⟩:=W i.1 v L;exact⟨(k,u),t,k,x,y,u,L,D,h3,h4,h5,rfl⟩
  refine⟨List.ofFn λi=>(this i).choose,by simp,λi J=>?_⟩;obtain⟨t,k,x,y,u,C,m,E,F,G,j⟩:=(this ⟨i,J⟩).choose_spec;exact⟨t,k,x,y,u,C,m,E,F,G,by rw[List.getElem?_ofFn,dif_pos J,j]⟩
 have O:B.map (·.1)=f.map (·.1):=by
  refine Sw λi=>?_;by_cases J:i<g.length
  ·obtain⟨t,k,x,y,u,C,m,E,F,G,j⟩:=A i J;simp[m,j]
  ·rw[Ya (by simp;omega),Ya (by simp;omega)]
 have kv:KV f B:=by
  have:∀(a:List (aR×V)) (b:List (aR×Qz)),a.length=b.length->(∀(i:Nat) (k:aR) (x:V) (N:aR) (u:Qz),a[i]?=Qq (k,x)->b[i]?=Qq (N,u)->k=N/\aM x u)->KV a b:=by
   intro a
   induction a with
   |nil =>
    intro b T _;cases b with
    |nil=>exact .nil
    |cons _ _=>cases T
   |cons p t ih =>
    intro b T hr;cases b with
    |nil=>cases T
    |cons c d=>exact .cons (hr 0 p.1 p.2 c.1 c.2 rfl rfl) (ih d (by simpa using T) λi k x N u U D=>hr (i+1) k x N u (by simpa using U) (by simpa using D))
  refine this _ _ (by omega) λi k x N u U D=>?_;obtain⟨t,k2,x2,y,u2,C,m,E,F,G,j⟩:=A i (by rw[<- lp];exact(Qw.mp D).1);rw[U]at m;cases m;rw[D]at j;cases j;exact⟨rfl,G⟩
 have fr:H s.heap.objs.size=Qs:=I.hok.fresh (Z3 _);refine KF (P:=X.prog) (w:=X.w) (ps:=B) (I.ok.hd hc) pl (by omega) lp (by rw[O];exact nd) (λi v k u L hk=>?_) λh R kk hm=>?_
 ·obtain⟨t,k2,x2,y,u2,C,m,E,F,G,j⟩:=A i (Qw.mp L).1;rw[L]at C;cases C;rw[hk]at j;cases j;exact⟨t,y,rfl,E,F⟩
 ·refine⟨.ref s.heap.objs.size,_,I.laid (t':=R) (a:=s.heap.objs.size) (o:=.dK f) kk (Z3 _) ⟨by omega,?_,B,kv,hm⟩,rfl,q _ fr⟩;have:=I.big;exact beq_false_of_ne (Y5 this)
end
section
variable {X:Cx}
end
theorem Er:∀ {p q A B:List Nat},(∀d∈p,d≠c)->(∀d∈q,d≠c)->p++c::A=q++c::B->p=q/\A=B
 |[],[],_,_,_,_,h=>⟨rfl,by simpa using h⟩
 |[],y::q,_,_,_,f,h=>by
  simp at h;exact absurd h.1.symm (f y (by simp))
 |x::p,[],_,_,g,_,h=>by
  simp_all
 |x::p,y::q,_,_,g,f,h=>by
  simp at h;obtain⟨i,j⟩:=h;obtain⟨a,b⟩:=Er (λd e=>g d (by simp[e])) (λd e=>f d (by simp[e])) j;exact⟨by rw[i,a],b⟩
noncomputable def gh(c:Nat)(x:QD):Prop:=∀d∈x.cps.toList,d≠c
theorem qr{x y:QD}(h:x.cps.toList=y.cps.toList):x=y:=by
 obtain⟨⟨a⟩⟩:=x
 simp_all
theorem j8(x y:QD):(x++y).cps.toList=x.cps.toList++y.cps.toList:=by
 show(x.cps++y.cps).toList=_;simp
theorem Eo:∀ {j l:List QD},(∀p∈j,gh c p)->(∀q∈l,gh c q)->j≠[]->l≠[]->Rv ⟨#[c]⟩ j=Rv ⟨#[c]⟩ l->j=l
 |[],_,_,_,h,_,_=>absurd rfl h
 |_,[],_,_,_,h,_=>absurd rfl h
 |[p],[q],_,_,_,_,h=>by
  have:p=q:=h;rw[this]
 |[p],q::k::r,f,_,_,_,h=>by
  have d:p=q++⟨#[c]⟩++Rv ⟨#[c]⟩ (k::r):=h;exact absurd rfl (f p (by simp) c (by rw[d,j8,j8];simp))
 |p::i::r,[q],_,g,_,_,h=>by
  have d:p++⟨#[c]⟩++Rv ⟨#[c]⟩ (i::r)=q:=h;exact absurd rfl (g q (by simp) c (by rw[<- d,j8,j8];simp))
 |p::i::r,q::k::t,f,g,_,_,h=>by
  have d:p++⟨#[c]⟩++Rv ⟨#[c]⟩ (i::r)=q++⟨#[c]⟩++Rv ⟨#[c]⟩ (k::t):=h;have e:=congrArg (λx=>x.cps.toList) d;simp[j8]at e;have n:p.cps.toList++c::(Rv ⟨#[c]⟩ (i::r)).cps.toList=q.cps.toList++c::(Rv ⟨#[c]⟩ (k::t)).cps.toList:=by simpa using e
  obtain⟨a,b⟩:=Er (f p (by simp)) (g q (by simp)) n;rw[qr a,Eo (λx m=>f x (Z4 _ m)) (λx m=>g x (Z4 _ m)) (by simp) (by simp) (qr b)]
theorem MS(h:∀w∈a,gh c w)(g:a≠[]):R4 (Rv ⟨#[c]⟩ a) ⟨#[c]⟩=a:=by
 refine Eo (λp f d b e=>?_) h ?_ g (StrLaws.join_split _ _)
 ·exact StrLaws.split_free _ c p f (e▸b)
 ·intro z;have:=split_pos (Rv ⟨#[c]⟩ a) ⟨#[c]⟩
  simp_all
noncomputable def evens{b:Type}:List b->List b
 |[]=>[]
 |[a]=>[a]
 |a::_::r=>a::evens r
noncomputable def odds{a:Type}:List a->List a
 |[]=>[]
 |[_]=>[]
 |_::b::r=>b::odds r
theorem Dx:∀(n:Nat) (l:List c),l.length<=n->(Q7 ((l.length+1)/2)).filterMap (λk=>l[2*k]?)=evens l
 | 0,[],_=>by simp[evens]
 |_+1,[],_=>by simp[evens]
 |n+1,[a],_=>by simp[evens]
 |n+1,a::b::r,h=>by
  have e:((a::b::r).length+1)/2=(r.length+1)/2+1:=by simp;omega
  rw[e,UD,Y3];show a::_=a::evens r;have f:((λk=>(a::b::r)[2*k]?) ∘ VD)=λk=>r[2*k]?:=by
   rfl
  rw[Yi,<- Dx n r (by simp at h;omega),f]
theorem Dz:∀  n  (l:List c),l.length<=n->(Q7 (l.length/2)).filterMap (λk=>l[2*k+1]?)=odds l
 | 0,[],_=>by simp[odds]
 |_+1,[],_=>by simp[odds]
 |n+1,[a],_=>by simp[odds]
 |n+1,a::b::r,h=>by
  have e:(a::b::r).length/2=r.length/2+1:=by simp;omega
  rw[e,UD,Y3];show b::_=b::odds r;have f:((λk=>(a::b::r)[2*k+1]?) ∘ VD)=λk=>r[2*k+1]?:=by
   rfl
  rw[Yi,<- Dz n r (by simp at h;omega),f]
theorem O8(a:List Qz):Vt a.toArray Qs Qs (Qq 2)=(evens a).toArray:=by
 unfold Vt To sliceRange;rw[<- Dx a.length a (Z3 _)]
 congr 1
 have b:(if(2:Int) > 0 then if(0)<(a.length:Int)then((a.length:Int)-0+2-1)/2 else 0 else if(0) > (a.length:Int)then(0-(a.length:Int)-2-1)/(-2)else 0).toNat=(a.length+1)/2:=by
  grind
 show YS (λ(k:Nat)=>a.toArray[k]?) (Ud _ (Q7 (if(2) > 0 then if(0)<(a.length:Int)then((a.length:Int)-0+2-1)/2 else 0 else if(0) > (a.length:Int)then(0-(a.length:Int)-2-1)/(-2)else 0).toNat))=_;rw[b,Yi]
 congr 1
 funext k;show a.toArray[((0:Int)+2 *  k ).toNat]?=a[2*k]?;rw[show((0)+2*(k:Int)).toNat=2*k by omega];simp
theorem O1(n:Nat)(h:1<=n):To (Qq 1) Qs (Qq 2) n=((1),(n:Int),(2)):=by
 unfold To;have:max (0) (min 1 (n:Int))=1:=by omega
 simp[this]
theorem HX(a:List Qz)(h:1<=a.length):Vt a.toArray (Qq 1) Qs (Qq 2)=(odds a).toArray:=by
 unfold Vt;rw[Zn,O1 _ h,<- Dz a.length a (Z3 _)]
 congr 1
 have b:(if(2:Int) > 0 then if(1)<(a.length:Int)then((a.length:Int)-1+2-1)/2 else 0 else if(1:Int) >  a.length  then(1 -  a.length  - 2-1)/(-2)else 0).toNat=a.length/2:=by
  grind
 show YS (λ(k:Nat)=>a.toArray[k]?) (Ud (λ(k:Nat)=>((1:Int)+2*(k:Int)).toNat) (Q7 (if(2:Int) > 0 then if(1)<(a.length:Int)then((a.length:Int)-1+2-1)/2 else 0 else if(1:Int) >  a.length  then(1-(a.length:Int)-2-1)/(-2)else 0).toNat))=_;rw[b,Yi]
 congr 1
 funext k;show a.toArray[((1)+2*(k:Int)).toNat]?=a[2*k+1]?;rw[show((1)+2*(k:Int)).toNat=2*k+1 by omega];simp
section
theorem Mx:oG X "str.startswith" (λx b H Q=>∃z y,x=.str z/\b=[.str y]/\Q (.bl (U2 z y)) H):=by
 intro a s i H x b v g Q I e c h;obtain⟨z,y,rfl,rfl,q⟩:=h;obtain⟨t,rfl⟩:=e;obtain⟨u,rfl,d⟩:=v1 c;obtain⟨f,rfl⟩:=d;exact PySem.SC.startswith ⟨.bl _,H,I,rfl,q⟩
theorem GZ:∀ {l:List (QD×Tok)},aG ((l.map (·.1)).map V.str) (Xw l)
 |[]=>.nil
 |(k,t)::r=>.cons ⟨t,rfl⟩ GZ
theorem Hv:oG X "str.split" (λx n H Q=>∃z y,x=.str z/\n=[.str y]/\(y.length==0)=Qv/\z.length<=100000/\∀p,H p=Qs->Q (.ref p) (upd H p (.lst ((R4 z y).map V.str)))):=by
 intro f s E H x n v M Q I C A h;obtain⟨z,y,rfl,rfl,j,J,q⟩:=h;obtain⟨t,rfl⟩:=C;obtain⟨u,rfl,B⟩:=v1 A;obtain⟨i,rfl⟩:=B;have L:z.length+2<=QG:=by rw[sizeLine_eq];omega
 have G:=split_le z y;have r:=I.hok.fresh (Z3 _);have c:∀  l   k ,l.map (·.1)=R4 z y->EP X f E Q (.ref s.heap.objs.size) {s with heap:=s.heap.push {cls:=.type "list",data:=.seq (Xw l).toArray},toks:=k}:=λl k e=>by
  have D:aG ((R4 z y).map V.str) (Xw l):=by rw[<- e];exact GZ
  exact⟨.ref _,_,I.laid (o:=.lst ((R4 z y).map V.str)) (λb o e=>Z1 _ e) (Z3 _) ⟨by rw[Z0];omega,_,_,D,Z5 _ rfl⟩,rfl,q _ r⟩
 have a:=F.slot_str_split;cases d:(decide (z.length<y.length)||decide (Tq z<Tq y))with
 |true=>exact SQ a (UX _ _ _) VZ (VG _ _) (meets_str_split_cannot_occur z y t i d) (c [(z,t)] s.toks (if_pos d).symm)
 |false =>
  have m:¬(decide (z.length<y.length)||decide (Tq z<Tq y))=Qr:=by rw[d];decide
  cases g:(QR z y 0 z.length (z.length+1)).isEmpty with
  |true=>exact SQ a (UX _ _ _) VZ (VG _ _) (meets_str_split_not_found z y t i d j g) (c [(z,t)] s.toks ((if_neg m).trans (if_pos g)).symm)
  |false =>
   have w:¬(QR z y 0 z.length (z.length+1)).isEmpty=Qr:=by rw[g];decide
   have e:R4 z y=TX z (QR z y 0 z.length (z.length+1)) y.length:=(if_neg m).trans (if_neg w);refine SQ a (UX _ _ _) VZ (VG _ _) (meets_str_split_sep z y t i d j g (by omega) (by rw[<- e];omega)) ?_;have:=c (numbered s.toks (TX z (QR z y 0 z.length (z.length+1)) y.length)) (s.toks+(TX z (QR z y 0 z.length (z.length+1)) y.length).length) ((numbered_texts _ _).trans e.symm);rw[<- strsFrom_eq]at this;exact this
theorem aG.evens:∀ {c:List V}{us:List Qz},aG c us->aG (evens c) (evens us)
 |[],_,h=>by cases h;exact .nil
 |[_],_,h=>by
  cases h with
  |cons a t=>cases t;exact .cons a .nil
 |_::_::_,_,h=>by
  cases h with
  |cons a t =>
   cases t with
   |cons b t=>exact .cons a (aG.evens t)
theorem aG.odds:∀ {c:List V}{us:List Qz},aG c us->aG (odds c) (odds us)
 |[],_,h=>by cases h;exact .nil
 |[_],_,h=>by
  cases h with
  |cons a t=>cases t;exact .nil
 |_::_::_,_,h=>by
  cases h with
  |cons a t =>
   cases t with
   |cons b t=>exact .cons b (aG.odds t)
theorem CZ:∀l:List a,(evens l).length<=l.length
 |[]=>Z3 _
 |[_]=>Z3 _
 |_::_::r=>by
  have:=CZ r;simp[evens];omega
theorem Gh:∀l:List a,(odds l).length<=l.length
 |[]=>Z3 _
 |[_]=>Y1 _
 |_::_::r=>by
  have:=Gh r;simp[odds];omega
noncomputable def rV(K:aV)(d:TE):TE:=λe H Q=>d e H λx b=>∃a c,x=.ref a/\cF K b a c/\∀p,b p=Qs->Q (.ref p) (upd b p (.lst (evens c)))
noncomputable def xN(K:aV)(d:TE):TE:=λe H Q=>d e H λx b=>∃a c,x=.ref a/\cF K b a c/\1<=c.length/\∀p,b p=Qs->Q (.ref p) (upd b p (.lst (odds c)))
theorem yA2(B:PE X e N):PE X (.Subscript e (.Slice Qs Qs (Qq (.Constant (.int 2) k R)) S) F) (rV X.K N):=by
 intro c s g H Q I h;refine U3 (bt (B c s g H _ I h) λv M ⟨x,i,p,J,G⟩=>?_);obtain⟨a,n,rfl,C,q⟩:=G;cases J;refine Wx ?_;rw[UH];refine QB (QB ?_);rw[UG];refine bt (zF8 c M g i (λy d=>y=.int 2/\d=i) p ⟨rfl,rfl⟩) λu m ⟨y,d,w,L,A,z⟩=>?_;subst A z;obtain⟨t,rfl⟩:=L;have f:aD X c g d {m with heap:=m.heap.push {cls:=.type "slice",data:=.fields #[.none,.none,.int 2 t]}}:=w.kept λb E q=>Z1 _ q;obtain⟨D,r,l,O⟩:=f.list C;have j:=r.length;refine V4 l.isList.typeIs Tu.lookup ?_ (by with_unfolding_all rfl);refine S9 l.isList (Tp ..) .none .none (.int _ _) (by decide) ?_ (by simp_all);rw[O8];have P:=CZ n;exact⟨.ref _,_,f.laid (o:=.lst (evens n)) (λb E q=>Z1 _ q) (Z3 _) ⟨by omega,_,0,r.evens,Z5 _ rfl⟩,rfl,q _ (f.hok.fresh (Z3 _))⟩
theorem yDt(F:PE X e W):PE X (.Subscript e (.Slice (Qq (.Constant (.int 1) k' p2)) Qs (Qq (.Constant (.int 2) k p1)) p3) M) (xN X.K W):=by
 intro c s f H Q I h;refine U3 (bt (F c s f H _ I h) λv T ⟨x,m,B,P,N⟩=>?_);obtain⟨a,z,rfl,G,Y,q⟩:=N;cases P;refine Wx ?_;rw[UG];refine bt (zF8 c T f m (λy d=>y=.int 1/\d=m) B ⟨rfl,rfl⟩) λu0 S ⟨y0,l,A,O,j,i⟩=>?_;subst j i;obtain⟨U,rfl⟩:=O;rw[UH];refine QB ?_;rw[UG];refine bt (zF8 (X:=X) c S f l (λy d=>y=.int 2/\d=l) A ⟨rfl,rfl⟩) λu w ⟨y,d,C,R,E,D⟩=>?_;subst E D;obtain⟨t,rfl⟩:=R;have g:aD X c f d {w with heap:=w.heap.push {cls:=.type "slice",data:=.fields #[.int 1 U,.none,.int 2 t]}}:=C.kept λb L q=>Z1 _ q;obtain⟨J,r,p,Z⟩:=g.list G;have n:=r.length;refine V4 p.isList.typeIs Tu.lookup ?_ (by with_unfolding_all rfl);refine S9 p.isList (Tp ..) (.int _ _) .none (.int _ _) (by decide) ?_ (by simp_all);rw[HX _ (by omega)];have le:=Gh z;exact⟨.ref _,_,g.laid (o:=.lst (odds z)) (λb L q=>Z1 _ q) (Z3 _) ⟨by omega,_,0,r.odds,Z5 _ rfl⟩,rfl,q _ (g.hok.fresh (Z3 _))⟩
noncomputable def TJ:=St->Hp->QD->(QD->Hp->Prop)->Prop
noncomputable def PJ(X:Cx)(f:List Rx)(t:TJ):Prop:=∀(a:List (QC×Ts)) (s:QF) (d:St) (H:Hp) (b:QD) (Q:QD->Hp->Prop),aD X a d H s->t d H b Q ->
 Joins (QJ X.prog X.w) X.A X.xe (evalEach f X.env) b (λc g=>∃e,aD X a d e g/\Q c e) s
theorem yDi:PJ X [] (λ_ H a Q=>Q a H):=λ_ ω ω H ω ω I h=>⟨H,I,h⟩
noncomputable def nW:V->Option QD
 | .str x=>Qq x
 | .int i=>if i.natAbs<10^12 then Qq (Qu (Sy i))else Qs
 |_=>Qs
theorem yDh(A:PE X e F)(B:PJ X n G):
 PJ X (.FormattedValue e (-1) Qs D::n) (λj H a Q=>F j H λv g=>∃x,nW v=Qq x/\x.length<=100000/\a.length<=100000/\G j g (a++x) Q):=by
 intro b s j H a Q I h;have r:(200000:Nat)<=QG:=by rw[sizeLine_eq];decide
 have C:∀x y:QD,(x++y).length=x.length+y.length:=λx y=>by show(x.cps++y.cps).size=_;simp[Wm]
 refine wpAny_FormattedValue_plain (bt (A b s j H _ I h) λu l ⟨v,g,p,o,x,d,J,w,q⟩=>?_);have f:∀  t  (k:Nat),∃y E,Rl x t=.str y E/\(a++y).length<=QG/\Joins (QJ X.prog X.w) X.A X.xe (evalEach n X.env) (a++y) (λm l=>∃g,aD X b j g l/\Q m g) {l with toks:=k}:=λt k =>
  ⟨x,t,rfl,by rw[C];omega,B b _ j g _ _ (p.tok k) q⟩
 cases v with
 |str z =>
  cases d;obtain⟨t,rfl⟩:=o;exact wpAny_formatField_str (f t l.toks) (f _ _) (by omega)
 |int i =>
  obtain⟨t,rfl⟩:=o;replace d:(if i.natAbs<10^12 then Qq (Qu (Sy i))else Qs)=Qq x:=d;by_cases c:i.natAbs<10^12
  ·rw[if_pos c]at d;cases d;refine wpAny_formatField_int ?_ (f _ _);have:i.natAbs.log2<64:=by
    by_cases z:i.natAbs=0
    ·rw[z];decide
    ·exact(Xr z).mpr (Zd c (by decide))
   omega
  ·rw[if_neg c]at d;cases d
 |_=>cases d
theorem yDj(m:PJ X i r):
 PJ X (.Constant (.str x) k o::i) (λc H b Q=>x.length<=100000/\b.length<=100000/\r c H (b++x) Q):=by
 intro a s c H b Q I h;obtain⟨z,l,q⟩:=h;have f:(200000)<=QG:=by rw[sizeLine_eq];decide
 have n:∀x y:QD,(x++y).length=x.length+y.length:=λx y=>by show(x.cps++y.cps).size=_;simp[Wm]
 refine bt (zY3 a s c H (λy d=>y=.str x/\d=H) I ⟨rfl,rfl⟩) λu A ⟨v,w,e,p,j,g⟩=>?_;subst j g;obtain⟨t,rfl⟩:=p;exact⟨x,t,rfl,by rw[n];omega,m a _ c _ _ _ e q⟩
theorem zRw{v1 v2:Rx}{rest:List Rx}(h:PJ X (v1::v2::rest) B):PE X (.JoinedStr (v1::v2::rest) z) (λm H Q=>B m H R5 λc k=>c.length<=100000/\Q (.str c) k):=by
 intro f s m H Q I u;have p:(200000)<=QG:=by rw[sizeLine_eq];decide
 have d:∀  l   b   g i   s ,(∀o s,g o s->i o s)->Joins (QJ X.prog X.w) X.A X.xe l b g s->Joins (QJ X.prog X.w) X.A X.xe l b i s:=by
  intro l
  induction l with
  |nil=>intro b g i s h q;exact h _ _ q
  |cons a r x=>intro b g i s h q;exact bt q λv A ⟨y,t,e,w,j⟩=>⟨y,t,e,w,x _ _ _ _ h j⟩
 refine wpAny_JoinedStr (d _ _ _ _ _ (λc A ⟨k,n,C,q⟩=>⟨by omega,.str c,k,n.tok _,⟨_,rfl⟩,q⟩) (h f s m H _ _ I u))
theorem P5:bL X (.type "int") (λb H Q=>∃n:Int,b=[.str (Qu (Sy n))]/\0<=n/\n<10^10/\Q (.int n) H):=by
 intro a s i H b g Q I f h;obtain⟨n,rfl,c,d,q⟩:=h;obtain⟨u,rfl,e⟩:=L2.v1 f;obtain⟨t,rfl⟩:=e;exact PySem.W.KIN.call_num c d ⟨.int n,H,I.tok _,⟨_,rfl⟩,q⟩
end
noncomputable abbrev dX:=Option QD
noncomputable def m6:dX->Qz->Bool
 |none,.none=>Qr
 |none,_=>Qv
 |some x,v=>Va x v
noncomputable def J7(w:Rm):dX->Int
 |none=>0xFCA86420
 |some x=>hashStr w x
theorem nL:∀ {k:dX}{v:Qz},m6 k v=Qr->(k=Qs/\v=R6)\/(∃x t,k=Qq x/\v=Rl x t)
 |none,v,h=>by
  cases v<;>first|exact .inl ⟨rfl,rfl⟩|exact nomatch h
 |some x,v,h=>by
  obtain⟨t,e⟩:=Xe h;exact .inr ⟨x,t,rfl,e⟩
theorem LF(x:QD)(t:Tok):m6 (Qq x) (.str x t)=Qr:=by simp[m6,Va]
theorem He(h:Q 0xFCA86420 {s with toks:=s.toks+1}):
 QI (QJ b w) A (pyHash .none) Q E s:=by
 have a:s.TypeIs .none "NoneType":=rfl;have c:[R6].any Value.onHeap=Qv:=rfl;show QI _ _ (pyHashByItsType .none) Q E s;refine Qt ?_;rw[cRoomFor,if_neg (by rw[c];exact Zb)];refine QB ?_;refine Qt (WH a TV.lookup ?_);rw[if_neg (by rw[beq_builtin_none];exact Zb)];refine Qt (WH a TV.lookup ?_)
 refine Qt (wpAny_callSpecialIfBoundUnlessNone?_slot a TV
  (TN TV a F.entry_NoneType_hash
   (wpAny_ret_mkInt ?_) (F.args_NoneType_hash_1 _)))
 exact QB h
noncomputable def c8(prog:QW)(w:Rm):YP prog w dX where
 is:=m6
 hash:=J7 w
 inj:=λv a b g f=>by
  rcases nL g with⟨rfl,rfl⟩|⟨x,t,rfl,rfl⟩
  ·rcases nL f with⟨rfl,e⟩|⟨y,u,rfl,e⟩
   ·rfl
   ·exact nomatch e
  ·rcases nL f with⟨rfl,e⟩|⟨y,u,rfl,e⟩
   ·exact nomatch e
   ·injection e with d _;rw[d]
 byValue:=λk v h=>by
  rcases nL h with⟨rfl,rfl⟩|⟨x,t,rfl,rfl⟩<;>rfl
 pyHash:=λc h=>by
  rcases nL c with⟨rfl,rfl⟩|⟨x,t,rfl,rfl⟩
  ·exact He h
  ·exact ZY h
 eqBool:=λi c h=>by
  rcases nL i with⟨rfl,rfl⟩|⟨x,t,rfl,rfl⟩
  ·rcases nL c with⟨rfl,rfl⟩|⟨y,u,rfl,rfl⟩
   ·rw[decide_eq_true rfl]at h;unfold eqBool;rw[if_pos (by rfl)];exact Qt (VO (QB h))
   ·rw[decide_eq_false (λq=>nomatch q)]at h;exact Wp y u _ _ _ _ h
  ·rcases nL c with⟨rfl,rfl⟩|⟨y,u,rfl,rfl⟩
   ·rw[decide_eq_false (λq=>nomatch q)]at h;exact Wn x t _ _ _ _ h
   ·have e:decide ((Qq x:dX)=Qq y)=decide (x=y):=by
     by_cases e:x=y
     ·subst e;simp
     ·rw[decide_eq_false e,decide_eq_false (λq=>e (Zr q))]
    rw[e]at h;exact Za1 h
 «strs»:=λk x t v h=>by
  rcases nL h with⟨rfl,e⟩|⟨y,u,rfl,e⟩
  ·exact nomatch e
  ·injection e with d _;subst d;cases v<;>rfl
noncomputable def oV:dX->V
 |none=>.non
 |some x=>.str x
theorem xT(r:aM (oV k) u):(c8 P w).is k u=Qr:=by
 cases k with
 |none=>obtain rfl:=(r);rfl
 |some x=>obtain⟨t,e⟩:=(r);subst e;exact LF x t
noncomputable def DO(P:QW)(w:Rm)(a:QC)(b:List (dX×V)):HO:=.ext λh=>b.length<=QG/\(a==RM)=Qv/\∃c,KV b c/\h.DictOf (c8 P w) a c
section
theorem sD(c:fC P w H h)(e:H a=Qq (DO P w a kvs)):kvs.length<=QG/\(a==RM)=Qv/\∃b,KV kvs b/\h.DictOf (c8 P w) a b :=
 (c a _ e).1
theorem xM(z:d.length<=QG)(g:(a==RM)=Qv)(b:KV d f)(i:h.DictOf (c8 P w) a f):cg P w H h a (DO P w a d):=by
 refine⟨⟨z,g,f,b,i⟩,let⟨q,_,_,m,_⟩:=i;⟨q,m⟩,λo p q k=>?_⟩;obtain⟨z,g,f,b,n,l,j,e,c⟩:=q;exact⟨z,g,f,b,n,l,j,k _ e,c⟩
end
noncomputable def oj(P:QW)(w:Rm)(f g:TE):TE:=λd H Q=>f d H λx e=>g d e λy c=>∃a b k v,x=.ref a/\c a=Qq (DO P w a b)/\y=oV k/\du b k=Qq v/\Q v c
noncomputable def oi(P:QW)(w:Rm)(g i h:TE):TS:=λD c H=>h c H λv e=>g c e λx f=>i c f λy d=>∃a b k,x=.ref a/\d a=Qq (DO P w a b)/\y=oV k/\b.length<QG/\D.nx c (upd d a (DO P w a (dg b k v)))
noncomputable def lM(P:QW)(w:Rm)(d e:TE):TE:=λb H Q=>∀p,H p=Qs->d b (upd H p (DO P w p [])) λx c=>e b c λy a=>a p=Qq (DO P w p [])/\∃k,x=oV k/\Q (.ref p) (upd a p (DO P w p [(k,y)]))
section
theorem zZz(w:PE X o M)(t:PE X i N)(A:sg i):PE X (.Subscript o i D) (oj X.prog X.w M N):=by
 intro b s j H Q I h;refine Qc V1.lookup A (bt (w b s j H _ I h) λu L ⟨x,m,p,G,E⟩=>bt (t b L j m _ p E) λP R ⟨y,n,e,J,a,C,k,v,q,g,r,l,F⟩=>?_);subst q r;obtain rfl:u=QV a:=G;obtain⟨z,O,S,c,f⟩:=sD e.hok g;obtain⟨T,B,d⟩:=dN.some_of (by rw[<- l];exact c.val k);exact⟨f.typeIs,ZZ (xT J) f.mapOf B ⟨v,n,e.tok _,d,F⟩⟩
theorem zZn(P:PE X o td)(N:PE X i ty)(R:PE X c tv)(n:Sl c (Qq (.Subscript o i f)) p.line X.env=pure Qv):
 PS X (.Assign [.Subscript o i f] c p) (oi X.prog X.w td ty tv):=by
 intro b s m H D I h;refine XN (bt (R b s m H _ I h) λr s1 ⟨v,w,B,Y,T⟩=>bt (P b s1 m w _ B T) λu s2 ⟨x,A,C,Z,U⟩=>bt (N b s2 m A _ C U) λiv s3 ⟨y,H3,t,ry,a,e,k,F,g,G,l,W⟩=>?_) n;subst F G;obtain rfl:u=QV a:=Z;obtain⟨z,L,vs,j,E⟩:=sD t.hok g;have S:vs.length<=QG:=by rw[<- j.length];exact z
 have O:(dg e k v).length<=QG:=by have:=zh e k v;omega
 refine YM (hsz:=S) (xT ry) E λJ d n=>⟨m,_,?_,W⟩;have M:∃q,J.get? a=Qq q:=let⟨q,_,_,Q,_⟩:=d;⟨q,Q⟩;exact v9 t (by rw[g];exact RQ) n M (xM O L (j.put k Y) d)
theorem zVf(n:PE X k G)(t:PE X v J):PE X (.Dict [Qq k] [v] w) (lM X.prog X.w G J):=by
 intro a s d H Q I q;have o:=I.hok.fresh (Z3 s.heap.objs.size);have g:=I.laid (t':=s.toks) (λ_ ω q=>Z1 _ q) (Z3 _)
  (xM (Y1 _) (beq_eq_false_iff_ne.mpr (Rf (Zc I.big))) .nil (Vk s.heap))
 refine wpAny_Dict_walk (knd:=c8 X.prog X.w) rfl rfl (by simp) (by simp) (pairTrees_cons_walk (bt (n a _ d _ _ g (q _ o)) λu F ⟨x,f,h,D,A⟩=>bt (t a F d f _ h A) λM O ⟨y,N,c,E,e,k,j,B⟩=>pairTrees_nil_walk ?_));subst j;obtain⟨z,l,L,C,i⟩:=sD c.hok e;cases C;refine⟨[(k,M)],⟨xT D,rfl,RQ⟩,i,λh' b r=>⟨.ref s.heap.objs.size,_,?_,rfl,B⟩⟩;have m:∃q,h'.get? s.heap.objs.size=Qq q:=let⟨q,_,_,p,_⟩:=b;⟨q,p⟩;exact v9 c (by rw[e];exact RQ) r m (xM (by rw[sizeLine_eq];simp) l (.cons ⟨rfl,E⟩ .nil) b)
end
noncomputable def bw(n:Nat):QD:=Qu (Sy ((n:Nat):Int))
theorem wQ(n:Nat):(bw n).cps.toList=(SL 10 n).map Char.toNat:=PySem.W.KIN.signs_num n
theorem Ab(h:c∈(bw n).cps.toList):48<=c/\c<=57:=by
 rw[wQ]at h;obtain⟨g,a,e⟩:=Qx.mp h;have d:=Nat.isDigit_of_mem_toDigits (by decide) (by decide) a;rw[<- e];simp only[Char.isDigit,Zl,decide_eq_true_eq]at d;have b:=d.1;have f:=d.2;exact⟨b,f⟩
theorem tR(x:QD):x.cps.toList.length=x.length:=Yo
theorem OH(n:Nat):SL 10 n≠[]:=by
 simp_all
theorem Qa(n:Nat):1<=(bw n).length:=by
 rw[<- tR,wQ,Z0];exact TR.mpr (OH n)
theorem wk(h:n<=999999):(bw n).length<=6:=by
 have e:(10:Int)^6=1000000:=by decide
 exact toString_length_le (by omega) (by decide) (by rw[e];omega)
theorem PY(n:Nat):0<n->∀c r,SL 10 n=c::r->c≠'0':=by
 induction n using Nat.strongRecOn with
 |_ n g =>
  intro b c r e;by_cases h:n<10
  ·rw[Nat.toDigits_of_lt_base h]at e;injection e with a _;rw[<- a];have:∀d ,d<10->0<d->Nat.digitChar d≠'0':=by decide
   exact this n h b
  ·have f:n%10<10:=Yj n (by decide);have t:SL 10 (n/10)++SL 10 (n%10)=SL 10 (10*(n/10)+n%10):=Nat.toDigits_append_toDigits (by decide) (by omega) f;rw[Nat.div_add_mod]at t;cases q:SL 10 (n/10)with
   |nil=>simp_all
   |cons d s =>
    rw[q,e]at t;injection t with i _;rw[<- i];exact g (n/10) (by omega) (by omega) d s q
theorem IG(h:1<(bw n).length):U2 (bw n) "0" = Qv:=by
 have d:0<n:=by
  rcases Vr n with e|e
  ·subst e;exact absurd h (by decide +kernel)
  ·exact e
 cases q:SL 10 n with
 |nil=>simp_all
 |cons c r =>
  have f:=PY n d c r q;unfold U2;rw[StrLaws.subAt_eq,wQ,q];have a:("0" : QD).cps.toList=[48]:=by decide +kernel
  have b:("0" : QD).length=1:=by decide +kernel
  rw[a,b,UW,Z8];have:¬c.toNat=48:=λz=>f (Char.toNat_inj.mp (z.trans (by decide)));simp[this]
theorem Ll:("." : QD)=⟨#[46]⟩:=by decide +kernel
noncomputable def aC:List (QD×Nat)->List QD
 |[]=>[]
 |(k,n)::t=>k::bw n::aC t
noncomputable def ax(p:List (QD×Nat)):QD:=Rv "." (aC p)
theorem Bd:∀p q ,aC (p++q)=aC p++aC q
 |[],_=>rfl
 |(k,n)::t,q=>by show k::bw n::aC (t++q)=k::bw n::(aC t++aC q);rw[Bd t q]
theorem mG:∀p ,(aC p).length=2*p.length
 |[]=>rfl
 |(k,n)::t=>by show(aC t).length+1+1=2*(t.length+1);rw[mG t];omega
theorem zL:∀p ,evens (aC p)=p.map (·.1)
 |[]=>rfl
 |(k,n)::t=>by show k::evens (aC t)=_;rw[zL t];rfl
theorem Fe:∀p ,odds (aC p)=p.map λq=>bw q.2
 |[]=>rfl
 |(k,n)::t=>by show bw n::odds (aC t)=_;rw[Fe t];rfl
theorem uT(f:b->c):∀l ,evens (l.map f)=(evens l).map f
 |[]=>rfl
 |[_]=>rfl
 |a::_::r=>by show f a::evens (r.map f)=f a::(evens r).map f;rw[uT f r]
theorem Au(f:a->c):∀l ,odds (l.map f)=(odds l).map f
 |[]=>rfl
 |[_]=>rfl
 |_::b::r=>by show f b::odds (r.map f)=f b::(odds r).map f;rw[Au f r]
theorem B9(s:QD):∀ {ws vs:List QD},ws≠[]->vs≠[]->Rv s (ws++vs)=Rv s ws++s++Rv s vs
 |[],_,h,_=>absurd rfl h
 |_,[],_,h=>absurd rfl h
 |[w],v::vs,_,_=>rfl
 |w::a::ws,v::vs,_,h=>by
  show w++s++Rv s ((a::ws)++(v::vs))=w++s++Rv s (a::ws)++s++Rv s (v::vs);rw[B9 s (by simp) h];refine qr ?_;simp only[j8,RP]
theorem F6(x y:QD):(x++y).length=x.length+y.length:=by show(x.cps++y.cps).size=_;simp[Wm]
theorem Cw(a:s.length=1):∀ {ws:List QD},(∀w∈ws,w.length<=m)->(Rv s ws).length<=ws.length*(m+1)
 |[],_=>Y1 _
 |[w],h=>by
  have:=h w (by simp);show w.length<=1*(m+1);omega
 |w::d::ws,h=>by
  have f:=h w (by simp);have b:=Cw a λx c=>h x (Z4 _ c);show(w++s++Rv s (d::ws)).length<=_;rw[F6,F6,a];simp at b ⊢;have e:(ws.length+1+1)*(m+1)=(ws.length+1)*(m+1)+(m+1):=W6 _ _;omega
noncomputable def P2(e:QC)(h:RS):Prop:=∃o a,h.get? e=Qq o/\o.data=.fields a/\a[2]?=Qq R6
noncomputable def Kp(e:QC){f:Type}(t:ZT f):Prop:=∀(M:Model) (d:PySem.Ctx) (Q:f->VY->QF->Prop) (E:Qz->VY->QF->Prop) (p:VY) (s:QF),P2 e s.heap->Sem.wp M d t Q E p s ->
 Sem.wp M d t (λa c b=>Q a c b/\P2 e b.heap) (λv c b=>E v c b/\P2 e b.heap) p s
section
variable {e:QC}
theorem Kp.bind{f:j->ZT k}(d:Kp e m)(c:∀a,Kp e (f a)):Kp e (m >>= f):=λM b Q E p s h w=>by
 rw[Sem.wp_bind']at w ⊢;exact Sem.wp_mono M b m (λa g i z=>c a M b Q E g i z.2 z.1) (λ_ ω ω z=>z) p s (d M b _ E p s h w)
theorem Kp.ld(a:QC):Kp e (load a):=λM d Q E p s h w=>by
 obtain⟨o,b,c⟩:=(w);exact⟨o,b,c,h⟩
end
end L2
namespace L2.W
open PySem PySem.Spec PyProof.Rows
@[irreducible] noncomputable def PE(X:Cx)(e:Rx)(t:TE):Prop:=L2.PE X e t
theorem Pd:@L2.PE=@PE:=by unfold PE;rfl
@[irreducible] noncomputable def PT(X:Cx)(e:Rx)(t:TT):Prop:=L2.PT X e t
theorem KM:@L2.PT=@PT:=by unfold PT;rfl
@[irreducible] noncomputable def PSs(X:Cx)(st:List RX)(t:TS):Prop:=L2.PSs X st t
theorem sf:@L2.PSs=@PSs:=by unfold PSs;rfl
noncomputable def PT.nox:=by have h:=@L2.PT.nox;rw[KM]at h;exact @h
noncomputable def Fun.ok:=by have h:=@L2.Fun.ok;rw[sf]at h;exact @h
noncomputable def PSs.nox:=by have h:=@L2.PSs.nox;rw[sf]at h;exact @h
noncomputable def PE.nox:=by have h:=@L2.PE.nox;rw[Pd]at h;exact @h
end L2.W
namespace L2
open PySem PySem.Spec PyProof.Rows
noncomputable def XO(C a:QC):HO:=.ext λh=>∃o b,h.get? a=Qq o/\o.cls=.ref C/\o.data=.fields b/\b[2]?=Qq R6
section
theorem cg.ex(x:cg P w H h a o):∃c,h.get? a=Qq c:=by
 cases o with
 |lst g=>obtain⟨_,_,_,_,e⟩:=x;exact⟨_,e⟩
 |tup g=>obtain⟨_,_,_,c,e,_⟩:=x;exact⟨_,e⟩
 |dK b=>obtain⟨_,_,_,_,o,_,_,e,_⟩:=x;exact⟨_,e⟩
 |dT b=>obtain⟨_,_,_,_,o,_,_,e,_⟩:=x;exact⟨_,e⟩
 |set S n=>obtain⟨o,_,_,_,e,_⟩:=x;exact⟨_,e⟩
 |ins C i d=>obtain⟨_,_,_,e,_⟩:=x;exact⟨_,e⟩
 |own y=>exact x
 |xd d=>obtain⟨_,⟨_,_,_,e,_⟩,_⟩:=x;exact⟨_,e⟩
 |rng lo j=>obtain⟨_,_,_,e⟩:=x;exact⟨_,e⟩
 |frz c u=>exact⟨_,x.1⟩
 |tbl k=>exact⟨_,x⟩
 |met f y=>exact⟨_,x⟩
 |ext l=>exact x.2.1
end
structure Cc(l:List X9)(e T0:QC)(cls a0 fl:Qz)(h h':RS):Prop where
 keep:∀b o,h.get? b=Qq o->b≠e->b≠T0->b∉j0 l->h'.get? b=Qq o
 slot:∀b o,h.get? b=Qq o->b∈j0 l->∃sl,h'.get? b=Qq {o with slots:=sl}
 tr:∃oe vs T oT ts,h'.get? e=Qq oe/\oe.cls=cls/\vs[0]?=Qq a0/\oe.data=.fields vs/\vs[1]?=Qq (.ref T)/\(T=T0\/h.get? T=Qs)/\T≠e/\h'.get? T=Qq oT/\oT.data=.fields ts/\ts[3]?=Qq fl
 p2:P2 e h'
section
end
section
variable {X:Cx}{s:QF}
theorem Cc.ex(m:Cc X.stack e d f k l s.heap h')(b:QC)(o:Ts)(q:s.heap.get? b=Qq o)(g:b≠d):∃i,h'.get? b=Qq i:=by
 obtain⟨j,_,_,_,_,h,_⟩:=m.tr;by_cases a:b=e
 ·rw[a];exact⟨j,h⟩
 ·by_cases c:b∈j0 X.stack
  ·obtain⟨n,z⟩:=m.slot b o q c;exact⟨_,z⟩
  ·exact⟨o,m.keep b o q a g c⟩
end
section
end
section
variable {K:aV}
end
section
variable {W:St->QC->Hp->Prop}
end
section
variable {X:Cx}{pins pins':List (QC×Ts)}{σ:St}{H:Hp}{s:QF}{W:TW}{e:QC}
end
section
variable {X:Cx}{x n:QD}{np hpos pos:VY}{body suite:List RX}{b₀ : RX}{i:Nat}{B:QC}{tb:TW->TS}{th:QC->TS}
end
open PySem PySem.Spec PyProof.Rows PySem.W
section
variable {prog:QW}{w:Rm}{A:RT}{E:Qz->QF->Prop}{h:RS}{g:Array GenState}{d:Drawn}{t:Nat}{os:OsState}{a:QC}{o:Ts}
 {nm q:QD}{C N:QC}{bs bm:List Qz}{hdct:Bool}{sn:List QD}{sub:List Qz}{ab:Bool}{col:Option Bool}{dd:Option QC}{k0 k1 k2 k3 k5:Option Qz}{newId:String}
end
section
variable {prog:QW}{w:Rm}{A:RT}{E:Qz->QF->Prop}{s:QF}{K:Frag}{x C D:QC}{ox:Ts}
end
section
variable {X:Cx}
end
namespace W
end W
section
variable {st:RX}
end
theorem c7.calm{K:aV}(l:ud CX)(F:c7 P w K q d CX k f j t sp):c7 P w K q d fy k f j t (λg H Q E=>sp g H Q λ_ ω ω=>False) :=
 ⟨λg H Q E h=>F.len g H Q _ h,λA a s H b v g Q E o n m p h=>by
  have:=F.run A a s H b v g Q (λ_ ω ω=>False) o n m p h;refine Sv this λr x i=>?_;cases r with
  |ok c =>
   cases c with
   |ret u=>exact i
   |_=>exact i
  |error e=>exact l _ _ _ _ _ i⟩
namespace W
end W
structure l5(H:Hp)(P:QC)(q:QD):Prop where
 ex:∃ps:Array Qz,H P=Qq (.tbl ps)/\TriplesOk ps.toList/\∀(pos:VY) (v:Qz),codeAmong pos ps.toList=Qq v->∃a,v=.ref a/\H a=Qq (kx a q)
theorem l5.ne{H:Hp}{P:QC}{q:QD}(T:l5 H P q){a:QC}{o:HO}(e:H a=Qq o)(h:∀ps,o≠.tbl ps):a≠P:=by
 rintro rfl;obtain⟨ps,z,_⟩:=T.ex;rw[e]at z;exact h _ (Zr z)
theorem l5.upd{H:Hp}{P:QC}{q:QD}{p:QC}{u o:HO}(T:l5 H P q)(hp:H p=Qq u)(h1:∀ps,u≠.tbl ps)(h2:∀f,u≠.ext f):l5 (L2.upd H p o) P q:=by
 have n1:=T.ne hp h1;obtain⟨ps,z,t,c⟩:=T.ex;refine⟨ps,by rw[bS (Rf n1)];exact z,t,λpos v e=>?_⟩;obtain⟨a,e1,e2⟩:=c pos v e;refine⟨a,e1,?_⟩;rw[bS ?_]
 ·exact e2
 ·rintro rfl;rw[hp]at e2;exact h2 _ (Zr e2)
section
variable {f c':QC}{q:QD}{params:TY}{body:Rx}{scope:TH}{cl:List (QD×QC)}{N:List QD}{ws:List V}{h h':RS}{H:Hp}
end
section
variable {CX:jw}{P:QW}{w:Rm}{K:aV}{mg:QD->Option Qz}{base:RS}{k:Nat}{f c':QC}{q:QD}{params:TY}{body:Rx}{scope:TH}{cl:List (QD×QC)}{N:List QD}{ws:List V}
end
section
variable {X:Cx}{CX:jw}{k:Nat}{f c':QC}{q x:QD}{params:TY}{body:Rx}{scope:TH}{cl:List (QD×QC)}{N:List QD}{ws:List V}{sp:Hp->VK->XK->Prop}{E:St->XK}{i:Nat}{p pos:VY}
end
section
variable {X:Cx}{pins:List (QC×Ts)}{σ:St}{H:Hp}{s:QF}{A:RT}{E:Qz->QF->Prop}
end
section
variable {X:Cx}{CX:jw}{k:Nat}{fw c P:QC}{fd:RE}{q x y:QD}{params:TY}{body:Rx}{scope:TH}{N:List QD}{ix:List Nat}{sp:QC->QC->List (QD×QC)->List V->Sp}{E:St->XK}{p lpos pos:VY}
end
namespace W
end W
end L2
namespace PySem.SeqAt
open AutoSeq1 (wpAny_loadPart')
open MeetsSeq
section
variable {A:RT}{s:QF}
end
end PySem.SeqAt
namespace L2
open PySem PySem.Spec PyProof.Rows
section
variable {X:Cx}{pins:List (QC×Ts)}{σ:St}{H:Hp}{s:QF}
end
noncomputable def jK(a:List QC)(H:Hp):Prop:=(∀T∈a,H T=Qq (.tbl #[]))/\∀b,b∉a->H b=Qs\/∃o c,H b=Qq (.frz o (.lst c))
theorem Il{K:aV}(KX:K.In f.heap)(X:f.heap.Ns Rg J)(y:f.heap.Ns VQ mb)(af:∀x:QD,x≠"__name__"->mb x=RN x)(U:f.heap.NoLimit)(hg:f.gens=#[])(aa:hB J f.heap)(R:∀T∈t,f.heap.get? T=Qq (VS #[]))(ae:∀T∈t,K.lookup T=Qs)(ac:∀T∈t,∃c,Th K c T=Qr)
 (S:f.heap.get? a=Qq {cls:=.type "list",data:=.seq vs.toArray}) (hi:X1 vs ns) (hl:ns.length<=QG) (hr:cV k Vw)
 (F:∀p:RS,K.In p->p.Ns Rg J->hB J p->c7 P w K J p CX k fa fd [x] sp) (I:∀(s:QF)  u ,WT s fd ⟨[u],[]⟩ [(x,u)])
 (ag:∀H:Hp,jK t H->cF K H a (ns.map V.int)->sp [.ref a] H (λv ω=>v=.bl Qr) λ_ ω ω=>False)
 (ab:∀H e A,CX [] H f (λ_ ω ω=>False) e A->False) :
 SW (QJ P w) Vw (.call (.ref fa) ⟨[.ref a],[]⟩) (λr A=>r=.ok (.ret (.bool Qr))/\OldK f.heap A.heap/\A.os=f.os/\U7 A.gens) f:=by
 have rv:=C1 hi;have Z:=hi.length;have aT:a∉t:=λh=>by
  simp_all
 have D:∀H:Hp,jK t H->cF K H a (ns.map V.int)->fC P w H f.heap->(∀b,H b≠Qs->b=a\/b∈t)->(H a≠Qs->K.lookup a=Qs) ->
  SW (QJ P w) Vw (.call (.ref fa) ⟨[.ref a],[]⟩) (λr A=>r=.ok (.ret (.bool Qr))/\OldK f.heap A.heap/\A.os=f.os/\U7 A.gens) f:=by
  intro H hO hS Y hA hK;have j:∀ {b:QC}{o:Ts},f.heap.get? b=Qq o->H b=Qs->(iT f.heap H).get? b=Qq o:=λe n=>HL e n;have ah:∀ {b:QC}{o:Ts}{es:Array DictEntry}{ep:Nat},f.heap.get? b=Qq o->o.data=.dict es ep->H b=Qs:=fun {b o es ep} e d=>by
   cases q:H b with
   |none=>rfl
   |some u =>
    rcases hA b (by rw[q];simp)with B|B
    ·subst B;rw[S]at e;cases e
     simp_all
    ·rw[R b B]at e;cases e;cases d
  have C:∀ {b:QC}{m:QD->Option Qz},f.heap.Ns b m->(iT f.heap H).Ns b m:=fun {b m} ⟨o,es,ep,e,d,r⟩=>⟨o,es,ep,j e (ah e d),d,r⟩
  have Q :=λb o e=>j (KX b o e) (by
   cases q:H b with
   |none=>rfl
   |some u =>
    rcases hA b (by rw[q];simp)with B|B
    ·subst B
     simp_all
    ·rw[ae b B]at e;cases e)
  have O:hB J (iT f.heap H):=by
   obtain⟨bm,ob,e1,e2,e3,N,e5,e6,e7⟩:=aa;refine⟨bm,ob,e1,e2,e3,j N ?_,e5,e6,e7⟩;cases q:H bm with
   |none=>rfl
   |some u =>
    rcases hA bm (by rw[q];simp)with B|B
    ·subst B;rw[S]at N;cases N
     grind
    ·rw[R bm B]at N;cases N
     simp_all
  have hM:Mod K J (iT f.heap H):=⟨Q,C X,⟨mb,C y,af⟩,let⟨mc,h1,h2⟩:=U;⟨mc,C h1,h2⟩⟩;have e0:jJ P w K J (iT f.heap H) Vw [] f H:=⟨rfl,hM,λb o e=>Hc e,W7 (Pn _ _),trivial,λb y=>absurd (show b∈([])from y) (by simp),Y,.of_eq hg⟩;refine Sv ((F _ Q (C X) O).run Vw [] f H ⟨[.ref a],[]⟩ [.ref a] [.ref a] _ _ hr e0 (I f (.ref a)) (.cons rfl .nil) (ag H hO hS)) λr A h=>?_;cases r with
  |error e=>exact(ab H e A h).elim
  |ok fl =>
   cases fl with
   |next=>exact RF h
   |brk=>exact RF h
   |cont=>exact RF h
   |ret u =>
    obtain⟨v,H',os,M,un,E,r',q⟩:=h;have q':=q;subst q';obtain rfl:u=V7 Qr:=r';have G:=λb o i e=>by
     cases q:H b with
     |none=>exact un.keep b o e q (by intro z;exact absurd (show b∈([])from z) (by simp)) (by simp)
     |some u =>
      rcases hO.2 b i with z|⟨ob,xs,z⟩
      ·rw[q]at z;cases z
      ·have z2:=un.frzs b ob _ z;obtain⟨e1,_⟩:=Y b _ z;obtain⟨e2,_⟩:=E b _ z2
       grind
    have gT:∀T∈t,∃l,A.heap.get? T=Qq {cls:=.none,data:=.fields (#[]++l)}:=λT W=>by
     obtain⟨l,eT⟩:=un.tbls T _ (hO.1 T W);exact⟨l,E T _ eT⟩
    refine⟨rfl,⟨λb o e=>?_,λb o e=>?_⟩,os,M⟩
    ·by_cases i:b∈t
     ·obtain⟨l,g⟩:=gT b i;rw[R b i]at e;cases e;obtain⟨c,hc⟩:=ac b i;obtain⟨oc,ai,_,_,_,_,_,_,_,g1,g2,g3,g4,_⟩:=WN KX hc;exact .inr (.inl ⟨⟨c,oc,ai,g1,g2,g3,g4⟩,rfl,#[],l,rfl,g⟩)
     ·exact .inl (G b o i e)
    ·by_cases i:b∈t
     ·obtain⟨l,g⟩:=gT b i;exact⟨_,g⟩
     ·exact⟨o,G b o i e⟩
 cases hk:K.lookup a with
 |some o =>
  have e:=KX a o hk;rw[S]at e;cases e;refine D (λb=>if b∈t then Qq (.tbl #[])else Qs) ⟨λT W=>if_pos W,λb i=>.inl (if_neg i)⟩ (.inr ⟨_,vs.toArray,_,hk,rfl,rfl,rfl,by rw[Zn,Z];exact hl,by simpa using rv⟩) (λb u z=>?_) (λb z=>?_) λz=>absurd (if_neg aT) z
  ·by_cases i:b∈t
   ·have L:=(if_pos i).symm.trans z;cases L;exact R b i
   simp_all
  simp_all
 |none =>
  refine D (λb=>if b∈t then Qq (.tbl #[])else if b=a then Qq (.frz {cls:=.type "list",data:=.seq vs.toArray} (.lst (ns.map V.int)))else Qs) ⟨λT W=>if_pos W,λb i=>?_⟩ (.inl (.inr ⟨{cls:=.type "list",data:=.seq vs.toArray},?_⟩)) (λb u z=>?_) (λb z=>?_) λ_=>hk
  ·by_cases y:b=a
   ·exact .inr ⟨_,_,(if_neg i).trans (if_pos y)⟩
   ·exact .inl ((if_neg i).trans (if_neg y))
  ·simp_all
  ·by_cases i:b∈t
   ·have L:=(if_pos i).symm.trans z;cases L;exact R b i
   ·have L:=(if_neg i).symm.trans z;by_cases y:b=a
    ·have z2:=(if_pos y).symm.trans L;cases z2;subst y;exact⟨S,by simp_all,vs,_,rv,S⟩
    ·have z2:=(if_neg y).symm.trans L;cases z2
  ·by_cases i:b∈t
   ·exact .inr i
   ·by_cases y:b=a
    ·exact .inl y
    ·exact absurd ((if_neg i).trans (if_neg y)) z
theorem wX(a:List Int):∀n,n<=a.length->preSum (λi=>a.getD i 0) n=(a.take n).sum
 | 0,_=>rfl
 |n+1,h=>by
  show preSum (λi=>a.getD i 0) n+a.getD n 0=_;have e:a[n]?=Qq a[n]:=Z2 (by omega);have b:a.getD n 0=a[n]:=by rw[RY,e];rfl
  rw[wX a n (by omega),b,Ym,e,Option.toList_some,V3,Ye,List.sum_nil,Int.add_zero]
section
theorem NB{K:aV}(D:X.K=K):oG X "list.index" (λx z H Q=>∃(l:QC) (b:List QD) (n:QD) (j:Nat),x=.ref l/\z=[.str n]/\cF K H l (b.map V.str)/\b[j]?=Qq n/\(∀m,m<j->b[m]?≠Qq n)/\Q (.int  j ) H):=by
 subst D;intro w s σ H x z v us Q I Y W h;obtain⟨l,b,n,j,rfl,rfl,J,o,d,q⟩:=h;cases (Y);obtain⟨u,rfl,U⟩:=v1 W;obtain⟨a,r,T,O⟩:=I.list J;obtain⟨⟨A,B,g,Z⟩,t,E,S,F⟩:=T.isList;subst E F;have jl:=(Qw.mp o).1;have P:=r.length;rw[Z0]at P O;have C:(b.map V.str).all ik=Qr:=by
  rw[Zp];intro x M;obtain⟨k,_,rfl⟩:=Qx.mp M;rfl
 have c:∀  i  (G:i<a.toArray.size)  k ,b[i]?=Qq k->wD (.str n) a.toArray[i]=nO (.str k) (.str n):=λi G k e=>by
  obtain⟨w',hw,f⟩:=r.get (by rw[Zk,e];rfl);have:a.toArray[i]=w':=by
   have h1:a[i]?=Qq a.toArray[i]:=by simp
   simp_all
  rw[this];exact BU f rfl
 have aa:=sizeLine_eq;refine SQ We ⟨_,t,rfl⟩ PySem.F.entry_list_index (PySem.F.args_list_index_2 _ _) (SeqAt.list_indexAt l a.toArray S B Z u (wD (.str n)) j (by simp;omega) (by omega) ?_ ?_) ⟨t,λy N=>E2 U rfl r C y (by simpa using N),?_⟩
 ·rw[c j (by simp;omega) n o];simp[nO]
 ·intro m L R;obtain⟨k,p⟩:∃k,b[m]?=Qq k:=⟨_,Z2 (by omega)⟩;rw[c m L k p];have:k≠n:=λe=>d m R (by rw[p,e]);simp[nO,this]
 ·exact⟨.int j,H,I.tok _,⟨_,rfl⟩,q⟩
theorem zFp{K:aV}(x:X.K=K):bL X (.builtin "sum") (λw H Q=>∃(l:QC) (a:List Int),w=[.ref l]/\cF K H l (a.map V.int)/\X.calm=Qr/\Q (.int a.sum) H):=by
 subst x;intro p s T H w R Q I J h;obtain⟨l,a,rfl,C,y,q⟩:=h;obtain⟨u,rfl,G⟩:=v1 J;cases (G);obtain⟨c,r,d,O⟩:=I.list C;have F:=r.length;rw[Z0]at F;refine call_sum_walkG (R8 d.isList ?_);have g:l≠s.heap.objs.size:=by
  obtain⟨o,e,_⟩:=d.isList;exact Zc (Z6 e)
 refine⟨s.heap.objs.size,_,_,_,_,_,λi=>a.getD i 0,rfl,T9 (A:=X.A.in1) (I.ok.hd y) s.heap.objs.size l g c.toArray,⟨⟨_,Z5 _ rfl,rfl,rfl⟩,?_⟩,λb f=>?_,λi v D=>?_,λM P L B=>?_⟩
 ·obtain⟨o,e,r⟩:=d.isList;exact⟨o,Z1 _ e,r⟩
 ·rw[Zs];rcases QL.mp f with e|f
  ·simp_all
  ·obtain⟨o,e,_⟩:=d.isList;rw[QH.mp f];exact Zo (Z6 e)
 ·have m:c[i]?=Qq v:=by simpa using D
  have N:=(Qw.mp m).1;obtain⟨z,k⟩:∃z,a[i]?=Qq z:=⟨_,Z2 (by omega)⟩;obtain⟨S,n,j⟩:=r.get (by rw[Zk,k];rfl);rw[m]at n;cases n;obtain⟨t,e⟩:=(j);exact⟨t,by rw[e];simp[k]⟩
 ·have E:=λb o e=>B b o (λz=>absurd (Z6 e) (by simp_all)) (Z1 _ e);refine⟨.int a.sum,H,I.kept E,⟨L,?_⟩,q⟩;have:c.toArray.size=a.length:=by simp;omega
  rw[this,wX a a.length (Z3 _),Y8]
theorem HU:bL X (.builtin "sum") (λE H Q=>∃(v d:QC) (j:List aR) (a:List Int),E=[.ref v]/\H v=Qq (fY v d)/\Rd H d (.dK (j.zip (a.map V.int)))/\j.length=a.length/\X.calm=Qr/\Q (.int a.sum) H):=by
 intro D s σ H E us Q I Y h;obtain⟨v,d,j,a,rfl,P,T,hl,N,q⟩:=h;obtain⟨u,rfl,U⟩:=v1 Y;cases (U);obtain⟨hz,lo,f,C,G⟩:=iW I.hok T;obtain⟨o,L,l,g,M,O,r⟩:=id G;have F:s.heap.DictAt (aN X.prog X.w) d f l:=⟨o,L,g,M,O,r⟩;obtain⟨vw,_,_⟩:=I.hok v _ P;have K:=W4 (knd:=aN X.prog X.w) (r:=v) (d:=d) (kvs:=f) (ep:=l);have c:(λh=>h.IsValuesView v d/\h.DictAt (aN X.prog X.w) d f l) s.heap:=⟨vw,F⟩;have wl:f.length=a.length:=by
  have:=C.len
  simp_all
 refine ZR ?_;obtain⟨oI,St,n,W,st⟩:=K.iter X.A.in1 s (I.ok.hd N) c;refine n _ _ ⟨s.heap.objs.size,_,_,_,f.length,_,_,λi=>a.getD i 0,rfl,W.toS,st,λb m=>?_,λi x R=>?_,λs' t' y=>?_⟩
 ·rw[Zs];rcases QL.mp m with e|m
  ·simp_all
  ·rw[QH.mp m];exact Zo (K.there _ c).2
 ·obtain⟨k,w⟩:=R;have hi:=(Qw.mp w).1;obtain⟨B,J⟩:∃B,j[i]?=Qq B:=⟨_,Z2 (by omega)⟩;obtain⟨z,p⟩:∃z,a[i]?=Qq z:=⟨_,Z2 (by omega)⟩;obtain⟨w',A,Z⟩:=C.get (by rw[SM];exact⟨J,by rw[Zk,p];rfl⟩);rw[w]at A;cases A;obtain⟨t,e⟩:=(by omega);exact⟨t,by rw[e];simp[p]⟩
 ·have S:=λb o e=>y.heap b o (λhI=>absurd (Z6 e) (by simp_all)) (Z1 _ e);rw[YR y];refine⟨.int a.sum,H,I.kept S,⟨t',?_⟩,q⟩;rw[wl,wX a a.length (Z3 _),Y8]
theorem Js:bL X (.builtin "sorted") (λvs H Q=>∃(d:QC) (f:List (aR×V)) (m:List QD),vs=[.ref d]/\Rd H d (.dK f)/\f.map (·.1)=m.map Ua/\m.length<64/\X.calm=Qr /\
 ∀p (z:List QD),H p=Qs->z.Perm m->z.Pairwise (λa b=>¬fI b a)->Q (.ref p) (upd H p (.lst (z.map V.str)))):=by
 intro aa s σ H vs us Q I rv h;obtain⟨d,f,m,rfl,rd,G,M,hc,q⟩:=h;obtain⟨u,rfl,ru⟩:=v1 rv;cases (ru);obtain⟨hz,lo,ws,P,U⟩:=iW I.hok rd;obtain⟨o,es,Y,g,ex,hd,r⟩:=id U;have T:s.heap.DictAt (aN X.prog X.w) d ws Y:=⟨o,es,g,ex,hd,r⟩;have kl:f.length=m.length:=by have:=congrArg Rh G;rw[Z0,Z0]at this;exact this
 have wl:=P.len;refine UU kind_sorted plain_sorted entry_sorted (args_sorted1 _) ?_;refine Qt (QB ?_);refine Qt (PySem.W.kdu_collect (Xp (kvs:=ws) (ep:=Y) lo) (I.ok.hd hc) T (by omega) λC tk c hk i=>?_);have B:c.toList.length=m.length:=by rw[Yo,i.1];omega
 have w:∀(j:Nat)  v  (n:QD),c.toList[j]?=Qq v->m[j]?=Qq n->∃t,v=Rl n t:=λj v n e L=>by
  obtain⟨k,x,e2,O⟩:=i.2 j v (by simp_all);have hj:j<f.length:=by rw[kl,<- B];exact(Qw.mp e).1
  obtain⟨⟨k',x'⟩,D⟩:∃p,f[j]?=Qq p:=⟨_,Z2 hj⟩;obtain⟨u',E,_⟩:=P.get D;rw[e2]at E;cases E;have W:=congrArg (λl=>l[j]?) G;simp only[Zk,D,L]at W;cases Zr W;exact(u6 (k:=Ua n) O)
 have sa:aG (m.map V.str) c.toList:=by
  clear hk i hz T U kl P rd q G M;generalize c.toList=R at B w
  induction m generalizing R with
  |nil =>
   cases R with
   |nil=>exact .nil
   |cons a b=>cases B
  |cons p t ih =>
   cases R with
   |nil=>cases B
   |cons a b=>exact .cons (w 0 a p rfl rfl) (ih b (by simpa using B) λj v n e L=>w (j+1) v n (by simpa using e) (by simpa using L))
 have N:=wW sa;refine Qt (VJ ?_ (by rw[B,sizeLine_eq];omega));have y:(C.push (Su "list" c.toList.toArray 0)).get? C.objs.size=Qq (Su "list" c.toList.toArray 0):=Z5 _ rfl;refine Qt (Q8 (TN slot_list_sort ⟨_,y,rfl⟩ entry_list_sort (list_sort_treeK strKind_oneLt y N.keysOf (λab ac rest e=>keyKind_strs (by rw[<- e];exact N)) (by omega) λF hp hs=>⟨_,rfl,?_⟩) (args_list_sort _)));obtain⟨A,a1,S,a3⟩:=sorted_out_str N hp hs;obtain⟨e,he⟩:=sortedHeap_at y;have J:=I.kept (t':=tk) hk;have kk:∀b o,C.get? b=Qq o->(sortedHeap (C.push (Su "list" c.toList.toArray 0)) C.objs.size c.toList ((arrOf F).map (·.2))).get? b=Qq o:=λb o Z=>by
  have lt:=Z6 Z;rw[sortedHeap_old (Zc lt) (by rw[Zs];exact Zo lt)];exact Z1 _ Z
 have fr:=J.hok.fresh (Z3 _);refine QB ⟨_,rfl,.ref C.objs.size,_,J.laid (o:=.lst (A.map V.str)) kk (Z3 _) ⟨by rw[Z0,S.length_eq,sizeLine_eq];omega,((arrOf F).map (·.2)).toList,e,xu a1,by omega⟩,rfl,q _ A fr S (zK A a3)⟩
end
noncomputable def i6(P:QW)(w:Rm)(c:TE):TE:=λe H Q=>c e H λx a=>∃d b,x=.ref d/\a d=Qq (DO P w d b)/\∀v,a v=Qs->Q (.ref v) (upd a v (fY v d))
section
theorem zPp(A:PE X o J)(a:autoParam (Q6 o "values" X.env (eval o X.env)=eval o X.env) A10._auto_1)(c:autoParam ((f.endLine==g.line)=Qr) A10._auto_1):
 PE X (.Call (.Attribute o "values" f) [] [] g) (i6 X.prog X.w J):=by
 intro i s M H Q I h;refine UP a c (bt (A i s M H _ I h) λv l ⟨x,N,m,E,d,B,y,F,D⟩=>?_);subst y;obtain rfl:v=QV d:=E;obtain⟨_,lo,L,O,n⟩:=sD m.hok F;have w:=n.typeIs;have G:∀b,QV d=.ref b->∃j,l.heap.get? b=Qq j/\j.dict=Qs:=λb q=>by
  cases q;obtain⟨j,_,_,p,t,_⟩:=id n;exact⟨j,p,t.2.1⟩
 refine⟨"dict", "dict.values",SU,SK,Wa,w,G,Sj rfl (U4 ?_)⟩;refine U1 SK w V2 (VU _) (ZP (c8 X.prog X.w) d lo) ⟨⟨L,n⟩,?_⟩;have z:=m.hok.fresh (Z3 _);refine⟨.ref l.heap.objs.size,_,m.laid (t':=l.toks) (o:=fY l.heap.objs.size d) (λb u e=>Z1 _ e) (Z3 _) ⟨⟨_,Z5 _ rfl,rfl,rfl⟩,⟨_,Z5 _ rfl⟩,λp t ⟨C,e,r⟩ k=>⟨C,k _ e,r⟩⟩,rfl,D _ z⟩
theorem zIb(O:X.prog=P)(R:X.w=w):bL X (.builtin "sum") (λF H Q=>∃(v d:QC) (j:List dX) (a:List Int),F=[.ref v]/\H v=Qq (fY v d)/\H d=Qq (DO P w d (j.zip (a.map V.int)))/\j.length=a.length/\X.calm=Qr/\Q (.int a.sum) H):=by
 subst O R;intro E s σ H F us Q I rv h;obtain⟨v,d,j,a,rfl,U,rd,hl,S,q⟩:=h;obtain⟨u,rfl,ru⟩:=v1 rv;cases (ru);obtain⟨hz,lo,f,D,J⟩:=sD I.hok rd;obtain⟨o,M,l,g,N,T,r⟩:=id J;have G:s.heap.DictAt (c8 X.prog X.w) d f l:=⟨o,M,g,N,T,r⟩;obtain⟨vw,_,_⟩:=I.hok v _ U;have K:=W4 (knd:=c8 X.prog X.w) (r:=v) (d:=d) (kvs:=f) (ep:=l);have c:(λh=>h.IsValuesView v d/\h.DictAt (c8 X.prog X.w) d f l) s.heap:=⟨vw,G⟩;have wl:f.length=a.length:=by
  have:=D.len
  simp_all
 refine ZR ?_;obtain⟨oI,St,n,W,st⟩:=K.iter X.A.in1 s (I.ok.hd S) c;refine n _ _ ⟨s.heap.objs.size,_,_,_,f.length,_,_,λi=>a.getD i 0,rfl,W.toS,st,λb m=>?_,λi x Y=>?_,λs' t' A=>?_⟩
 ·rw[Zs];rcases QL.mp m with e|m
  ·simp_all
  ·rw[QH.mp m];exact Zo (K.there _ c).2
 ·obtain⟨k,y⟩:=Y;have hi:=(Qw.mp y).1;obtain⟨C,L⟩:∃C,j[i]?=Qq C:=⟨_,Z2 (by omega)⟩;obtain⟨z,p⟩:∃z,a[i]?=Qq z:=⟨_,Z2 (by omega)⟩;obtain⟨w',B,aa⟩:=D.get (by rw[SM];exact⟨L,by rw[Zk,p];rfl⟩);rw[y]at B;cases B;obtain⟨t,e⟩:=(by omega);exact⟨t,by rw[e];simp[p]⟩
 ·have Z:=λb o e=>A.heap b o (λhI=>absurd (Z6 e) (by simp_all)) (Z1 _ e);rw[YR A];refine⟨.int a.sum,H,I.kept Z,⟨t',?_⟩,q⟩;rw[wl,wX a a.length (Z3 _),Y8]
end
namespace W
end W
noncomputable def rh(d:QC)(a:List (aR×V))(o:Ts):It :=
 ⟨λi H=>H d=Qq (.frz o (.dK a))/\i < a.length,
  λi H v b=>∃p k x,v=.ref p/\H p=Qs/\b=upd H p (.tup [kV k,x])/\a[i]?=Qq (k,x),
  λi H=>H d=Qq (.frz o (.dK a))/\a.length<=i⟩
theorem NI{P:QW}{w:Rm}{K:aV}{C:List Rx}{x1:_}{O:VY}{d f:QC}{m:List (aR×V)}{o:Ts}{es:Array DictEntry}{Q:Nat}(U:o.data=.dict es Q):
 ia P w K (.Tuple C x1 O) (rh d m o) [f] f (λi h=>∃r t,IsItemIter h f d i m.length Q r t) where
 mem:=by simp
 obj:=λi h st b j=>by
  have e:b=f:=by simpa using j
  subst e;obtain⟨r,t,e⟩:=st
  simp_all
 keep:=λi h S ⟨r,t,e⟩ k=>⟨r,t,k f (by simp) _ e⟩
 item:=by
  intro X G N F T i l s σ H E I A st L;subst G N F;obtain⟨M,W⟩:=L;obtain⟨r,t,a⟩:=st;obtain⟨vs,v,B,lo⟩:=I.dictAt M U;obtain⟨⟨k,x⟩,Y⟩:∃p,m[i]?=Qq p:=⟨_,Z2 W⟩;obtain⟨u,hu,ru⟩:=v.get Y;rw[v.len]at a;refine wpAny_pyNext_items_item a B hu λz S y a1 a3 a4 a5=>?_;refine⟨_,rfl,wpAny_letOwnedTupleGo_items a1 λD b1 sb=>?_⟩;have Z:s.heap.objs.size≠f:=λq=>by have:=Z6 a;rw[<- q]at this;exact Zv _ this
  have J :=I.turns (t':=s.toks) (ch:=[f]) (λb o j q=>by
   have g:b≠f:=by simpa using j
   exact(sb.2 b g).trans (a5 b o g q)) A
  have gT:=(sb.2 _ Z).trans a3;have R:=I.hok.fresh (Z3 _)
  have J2:aD X l σ (upd H s.heap.objs.size (.tup [kV k,x])) { s with heap:=D }:=J.adopt R I.sz (Y5 I.lt) (λn c q=>by
   obtain⟨w',q⟩:=I.cell n c q
   exact Zc q.lt) (λp hp=>Zc (Z6 (I.pin p hp).1)) ⟨by show 2<=QG;decide,[z,u],.cons (u6 y) (.cons ru .nil),⟨_,gT,rfl,_,rfl⟩⟩
  refine⟨.ref s.heap.objs.size,_,J2,rfl,⟨_,k,x,rfl,R,rfl,Y⟩,⟨z,u,by rw[v.len];exact b1⟩,λb j=>?_⟩;have g:=(A b j).1;have:b≠s.heap.objs.size:=by
   have e:b=f:=by simpa using j
   rw[e];exact Rf Z
  rw[bS this];exact g
 done:=by
  intro X G N F T i l s σ H E I A st L;subst G N F;obtain⟨M,W⟩:=L;obtain⟨r,t,a⟩:=st;obtain⟨vs,v,B,lo⟩:=I.dictAt M U;rw[v.len]at a;exact wpAny_pyNext_items_end (I.ok.hd T) a B (by have:=v.len;simp;omega) λS eb=>⟨rfl,I.turns (t':=s.toks) (ch:=[f]) (λb o j e=>eb b o (by simpa using j) e) A⟩
 self:=λ_ _ _ _ _ ⟨r,t,st⟩ h=>PySem.W.kcp_self st h
noncomputable def g5(v d:QC):HO:=.ext λh=>h.IsItemsView v d
noncomputable def lB(c:TE):TE:=λe H Q=>c e H λx a=>∃d b,x=.ref d/\Rd a d (.dK b)/\∀v,a v=Qs->Q (.ref v) (upd a v (g5 v d))
section
theorem zVh(y:PE X o D)(a:autoParam (Q6 o "items" X.env (eval o X.env)=eval o X.env) A10._auto_1)(c:autoParam ((f.endLine==g.line)=Qr) A10._auto_1):
 PE X (.Call (.Attribute o "items" f) [] [] g) (lB D):=by
 intro i s F H Q I h;refine UP a c (bt (y i s F H _ I h) λv n ⟨x,G,j,B,d,l,t,m,A⟩=>?_);subst t;obtain rfl:v=QV d:=B;obtain⟨p,C,lo⟩:=yC j (.inl ⟨l,m⟩);obtain⟨_,_,E,M,q⟩:=iW j.hok m;refine⟨"dict", "dict.items",SU,Wf,PySem.F.type_dict_items,p,C,Sj rfl (U4 ?_)⟩;refine U1 Wf p PySem.F.entry_dict_items (PySem.F.args_dict_items_1 _) (meets_dict_items (aN X.prog X.w) d lo) ⟨⟨E,q⟩,?_⟩;have w:=j.hok.fresh (Z3 _);refine⟨.ref n.heap.objs.size,_,j.laid (o:=g5 n.heap.objs.size d) (λb u e=>Z1 _ e) (Z3 _) ⟨⟨_,Z5 _ rfl,rfl,rfl⟩,⟨_,Z5 _ rfl⟩,λJ L ⟨z,e,r⟩ k=>⟨z,k _ e,r⟩⟩,rfl,A _ w⟩
end
namespace W
end W
section
variable {P:QW}{w:Rm}{A:RT}{E:Qz->QF->Prop}{s:QF}
end
section
variable {P:QW}{w:Rm}{A:RT}{E:Qz->QF->Prop}{s:QF}
end
end L2
namespace L2.W
open PySem PySem.Spec PyProof.Rows
end L2.W
namespace L2
open PySem PySem.Spec PyProof.Rows
structure q8(K:aV)(C:QC)(m:QD)(f:QC):Prop where
 rd:Xz K C (.type "type")=Qr
 at_:XA K (.ref C) (.type "type") m=Qq (.val (.ref f))
 hd:Ul (.ref f)=Qr
 sp:R0 K (.ref C) "__getattribute__" = Qq (Qq (.builtin "type.__getattribute__"))
 kp:Rk K (.ref f)=Qr
section
variable {p pos apos:VY}
end
end L2
namespace L2.W
open PySem PySem.Spec PyProof.Rows
end L2.W
namespace L2
open PySem PySem.Spec PyProof.Rows
end L2
namespace L2.W
open PySem PySem.Spec PyProof.Rows
end L2.W
namespace L2
open PySem PySem.Spec PyProof.Rows
section
variable {prog:QW}{w:Rm}{A:RT}{R:Result->QF->Prop}{I:QC}{fp wr:List QC}{G:Array GenState->Array GenState->Prop}{n:Nat}{P:Nat->Qz->Prop}{St:Nat->QF->Prop}
end
section
variable {prog:QW}{w:Rm}{A:RT}{E:Qz->QF->Prop}{s:QF}
end
section
variable {X:Cx}
end
section
variable {X:Cx}
end
section
variable {X:Cx}{e:Rx}{es:List Rx}{te:TE}{t:TA}
end
end L2
namespace L2.W
open PySem PySem.Spec PyProof.Rows
end L2.W
namespace L2
open PySem PySem.Spec PyProof.Rows
section
variable {X:Cx}{CX:jw}{k:Nat}{fw c P:QC}{fd:RE}{q x y:QD}{params:TY}{body:Rx}{scope:TH}{N:List QD}{ix:List Nat}{sp:QC->QC->List (QD×QC)->List V->Sp}{E:St->XK}{p lpos pos:VY}
end
namespace W
end W
section
variable {X:Cx}{x n:QD}{np hpos pos:VY}{body suite:List RX}{b₀ : RX}{i:Nat}{B:QC}{tb:TW->TS}{th:QC->TS}
end
section
variable {X:Cx}
end
namespace W
end W
namespace W
end W
section
variable {P:QW}{w:Rm}{A:RT}{E:Qz->QF->Prop}{s:QF}{r:QC}{n:Nat}
end
section
variable {X:Cx}{pins:List (QC×Ts)}{σ:St}{H:Hp}{s:QF}{r f:QC}{n:Nat}{Q:VK}
end
section
variable {X:Cx}{pins:List (QC×Ts)}{σ:St}{H:Hp}{s:QF}{A:RT}{E:Qz->QF->Prop}
end
section
variable {CX:jw}{P:QW}{w:Rm}{K:aV}{mg:QD->Option Qz}{base:RS}{k:Nat}{f c':QC}{q x:QD}{params:TY}{body:Rx}{scope:TH}{cl:List (QD×QC)}{N:List QD}{ws:List V}
end
section
variable {X:Cx}{CX:jw}{k:Nat}{c P:QC}{q:QD}{params:TY}{body:Rx}{scope:TH}{N:List QD}{ix:List Nat}{sp:QC->QC->List (QD×QC)->List V->V->Hp->VK->XK->Prop}{e:Rx}{ta:TA}{p lpos kpos pos:VY}
end
namespace W
end W
open PySem PySem.Spec PyProof.Rows PySem.W
section
variable {prog:QW}{w:Rm}{A:RT}{E:Qz->QF->Prop}{s:QF}
end
section
variable {X:Cx}
end
section
variable {prog:QW}{w:Rm}{A:RT}{E:Qz->QF->Prop}{s:QF}{it e:QC}
end
section
variable {X:Cx}{elt tg a:Rx}{ifs:List Rx}{sc:TH}{p rp pos:VY}{cl:List (QD×QC)}{T:List QD}{ta:TA}{g:TG}{tt:TT}{te:TE}{e:QC}
end
namespace W
end W
section
variable {X:Cx}{y n:QD}{i:Nat}
end
end L2
namespace L2.W
open PySem PySem.Spec PyProof.Rows
end L2.W
namespace L2
open PySem PySem.Spec PyProof.Rows
structure lS(P:QW)(w:Rm)(K:aV)(mg:QD->Option Qz)(base:RS)(CX:jw)(k:Nat)(m:QD)(ps:List QD)(sp:Sp)(C:QC):Prop where
 ex:∃f fd,jB K C/\m8 K C m f/\c7 P w K mg base CX k f fd ps sp/\cI K fd ps []
noncomputable def lE(D:QC->Prop)(m:QD)(g:QC->Sp)(E:St->XK)(h:TE)(t:TA):TE:=λb H Q=>h b H λx c=>∃a C f d,x=.ref a/\c a=Qq (.ins C f d)/\D C/\d.lookup m=Qs/\t b c λi e=>g C (x::i) e Q (E b)
section
variable {pos apos:VY}
theorem zVg{T:ZT Bool}(O:PE X o Z)(F:∀C,D C->lS X.prog X.w X.K X.mg X.base z k m ps (Y C) C)(P:cV k X.A)(S:fx z X E)(M:PA X (e::g) t)
 (j:autoParam (Qy (e::g) X.env=(Qv,eval e X.env)::Qy g X.env) A10._auto_1) (i:autoParam ((Rc pos (Qy g X.env)).any (·.1)=Qv) A10._auto_1)
 (R:autoParam (eval (.Call (.Attribute o m apos) (e :: g) [] pos) X.env=(do
  let w<-eval o X.env
  UB apos.atName
  let(f,d)<-holding [w] (getMethod w m T)
  V6 pos f d (Rc pos (Qy (e::g) X.env)) (T8 pos (Sq [] X.env)))) A10._auto_1):PE X (.Call (.Attribute o m apos) (e::g) [] pos) (lE D m Y E Z t):=by
 intro b s y H Q I h;refine WB (bt (O b s y H _ I h) λu W ⟨x,A,n,U,a,C,dx,fs,J,B,L,l,q⟩=>?_) R;obtain⟨⟨f,fd,c,v,G,N⟩⟩:=F C L;subst J;obtain rfl:u=QV a:=U;refine BO n B c v l ?_;refine U5 I.ok.mod.kin v.kp (bt (M pos b W y A _ n q) λus s2 ⟨vs,H2,p,r,q2⟩=>⟨p.kIn,?_⟩) j i;exact yb (vs:=.ref a::vs) G P N .nil S p (.cons rfl r) (by simp_all)
end
namespace W
end W
section
variable {P:QW}{w:Rm}{A:RT}{E:Qz->QF->Prop}{s:QF}
end
section
variable {P:QW}{w:Rm}{A:RT}{E:Qz->QF->Prop}{s:QF}
end
end L2
namespace L2.W
open PySem PySem.Spec PyProof.Rows
end L2.W
namespace L2
open PySem PySem.Spec PyProof.Rows
end L2
namespace L2.W
open PySem PySem.Spec PyProof.Rows
section
variable {X:Cx}{st:RX}{rest:List RX}{s:TS}{F:TS->Prop}
end
end L2.W
namespace L2
open PySem PySem.Spec PyProof.Rows
noncomputable def e2(p:QC)(b1 b2:Bool):Qz->Bool
 | .ref a=>if a=p then b1 else b2
 |_=>b2
theorem zRv(y:PE X o M)(F:∀C,D C->lS X.prog X.w X.K X.mg X.base p k m U (L C) C)(z:cV k X.A)(B:fx p X E)
 (A:autoParam (eval (.Call (.Attribute o m d) [] [] b) X.env=(do
  let n<-eval o X.env
  UB d.atName
  let(f,e)<-holding [n] (getMethod n m T)
  V6 b f e (Rc b (Qy [] X.env)) (T8 b (Sq [] X.env)))) A10._auto_1):PE X (.Call (.Attribute o m d) [] [] b) (lE D m L E M nJ):=by
 intro g s N H Q I h;refine WB (bt (y g s N H _ I h) λu W ⟨x,O,i,J,a,C,P,S,t,r,v,l,q⟩=>?_) A;obtain⟨⟨f,R,c,j,G,w⟩⟩:=F C v;subst t;obtain rfl:u=QV a:=J;refine BO i r c j l ?_;exact PySem.W.callWith_K0 i.kIn j.kp (yb (vs:=[.ref a]) G z w .nil B i (.cons rfl .nil) (by rw[QP];exact q))
theorem Me:bL X (.type "dict") (λd H Q=>∃a b,d=[.ref a]/\Rd H a (.dK b)/\∀p,H p=Qs->Q (.ref p) (upd H p (.dK b))):=by
 intro c s l H d k Q I r h;obtain⟨a,b,rfl,e,q⟩:=h;obtain⟨u,rfl,i⟩:=r.one;cases (i);exact Oy I e λp j g f=>⟨.ref p,_,f,rfl,q p g⟩
end L2
namespace L2.W
open PySem PySem.Spec PyProof.Rows
end L2.W
namespace L2
open PySem PySem.Spec PyProof.Rows
theorem vW(r:cb q k A):A.in1.units+64<Rq:=by
 have:=r.un;show A.units+1+64<Rq;omega
end L2
namespace L2.F
open PySem PySem.Spec PyProof.Rows L2
inductive D where
 |non|bl (b:Bool)|int (i:Int)|str (x:QD)|tup (xs:List D)|lst (xs:List D)|frl (xs:List D)|dct (es:List (aR×D))|obj (c:QD) (fs:List (QD×D))
inductive U where
 |d (x:D)|loc (n:Nat)
inductive cG where
 |lst (xs:List U)|dct (es:List (aR×U))|ins (c:QD) (fs:List (QD×U))|dead
noncomputable abbrev Ev:=List (Option U)
noncomputable abbrev aE:=List cG
inductive aJ (α:Type) where
 |ok (a:α) (S:aE)|ex (c:QD) (S:aE)|st
noncomputable def aJ.bind{b d:Type}(o:aJ b)(k:b->aE->aJ d):aJ d:=match o with
 | .ok a S=>k a S
 | .ex c S=>.ex c S
 | .st=>.st
inductive Fl where
 |nx (e:Ev) (S:aE)|rt (d:U) (S:aE)|bk (e:Ev) (S:aE)|ct (e:Ev) (S:aE)|ex (c:QD) (e:Ev) (S:aE)|st
noncomputable abbrev FE:=Ev->aE->aJ U
noncomputable abbrev FT:=Ev->aE->aJ Bool
noncomputable abbrev iu:=Ev->aE->aJ (List U)
noncomputable abbrev FS:=Ev->aE->Fl
noncomputable abbrev Fn:=List U->aE->aJ U
noncomputable def LM:Nat:=1000000
noncomputable def dA(x:QD):Prop:=x.length<=100000/\Q9 x=Qr
structure Wo where
 G:QC->Prop
 μ:List QC
 H:Hp
structure Cl where
 at_:QD->QC
 tabs:List (QC×VY×QD)
noncomputable instance:CoeFun Cl λ_=>QD->QC:=⟨Cl.at_⟩
noncomputable def lh:HO->Bool
 | .tbl _=>Qv
 | .ext _=>Qv
 |_=>Qr
noncomputable def lj:HO->Bool
 | .tbl _=>Qv
 |_=>Qr
theorem ql(h:lh o=Qr):lj o=Qr:=by cases o<;>first|rfl|cases h
theorem xY(h:lj o=Qr):∀a,o≠.tbl a:=λa e=>by subst e;cases h
theorem qY(h:lh o=Qr):∀f,o≠.ext f:=λa e=>by subst e;cases h
mutual
inductive Rp (cl:Cl) (W:Wo):V->D->Prop where
 |non:Rp cl W .non .non
 |bl (b:Bool):Rp cl W (.bl b) (.bl b)
 |int (i:Int):Rp cl W (.int i) (.int i)
 |str (x:QD) (h:dA x):Rp cl W (.str x) (.str x)
 |tup {a:QC}{vs:List V}{ds:List D}:W.G a->W.H a=Qq (.tup vs)->vs.length<=LM->RpAll cl W vs ds->Rp cl W (.ref a) (.tup ds)
 |lst {a:QC}{vs:List V}{ds:List D}:W.G a->W.H a=Qq (.lst vs)->vs.length<=LM->RpAll cl W vs ds->Rp cl W (.ref a) (.lst ds)
 |frl {a:QC}{o:Ts}{vs:List V}{ds:List D}:W.G a->W.H a=Qq (.frz o (.lst vs))->vs.length<=LM->RpAll cl W vs ds->Rp cl W (.ref a) (.frl ds)
 |dct {a:QC}{vs:List (aR×V)}{ds:List (aR×D)}:W.G a->Rd W.H a (.dK vs)->vs.length<=LM->RpK cl W vs ds->Rp cl W (.ref a) (.dct ds)
 |obj {a dx:QC}{c:QD}{fs:List (QD×V)}{gs:List (QD×D)}:W.G a->W.H a=Qq (.ins (cl c) dx fs)->RpF cl W fs gs->Rp cl W (.ref a) (.obj c gs)
inductive RpAll (cl:Cl) (W:Wo):List V->List D->Prop where
 |nil:RpAll cl W [] []
 |cons {v:V}{d:D}{vs:List V}{ds:List D}:Rp cl W v d->RpAll cl W vs ds->RpAll cl W (v::vs) (d::ds)
inductive RpK (cl:Cl) (W:Wo):List (aR×V)->List (aR×D)->Prop where
 |nil:RpK cl W [] []
 |cons {k:aR}{v:V}{d:D}{vs:List (aR×V)}{ds:List (aR×D)}:Rp cl W v d->RpK cl W vs ds->RpK cl W ((k,v)::vs) ((k,d)::ds)
inductive RpF (cl:Cl) (W:Wo):List (QD×V)->List (QD×D)->Prop where
 |nil:RpF cl W [] []
 |cons {k:QD}{v:V}{d:D}{vs:List (QD×V)}{ds:List (QD×D)}:Rp cl W v d->RpF cl W vs ds->RpF cl W ((k,v)::vs) ((k,d)::ds)
end
noncomputable def FX:HO->Bool
 | .dK _=>Qv
 |_=>Qr
structure aX(W W':Wo):Prop where
 g:∀a,W.G a->W'.G a
 k:∀a u,W.G a->FX u=Qr->W.H a=Qq u->W'.H a=Qq u
 kd:∀a kvs,W.G a->Rd W.H a (.dK kvs)->Rd W'.H a (.dK kvs)
 m:∃ ν,W'.μ=W.μ++ν
 f:∀a o,W.H a=Qq o->lj o=Qr->¬W.G a->a∉W.μ->W'.H a=Qq o
 n:∀a,a∈W'.μ->a∉W.μ->W.H a=Qs
 ng:∀a,W'.G a->W.G a\/W.H a=Qs\/a∈W.μ
 d:∀a o,W.H a=Qq o->∃o',W'.H a=Qq o'/\(lh o=Qr->lh o'=Qr)
theorem aX.refl(W:Wo):aX W W:=⟨λ_ h=>h,λ_ ω ω ω h=>h,λ_ ω ω h=>h,⟨[],(QP _).symm⟩,λ_ ω h ω ω ω=>h,λ_ h n=>absurd h n,λ_ h=>.inl h,λ_ o h=>⟨o,h,id⟩⟩
theorem aX.free(e:aX W b)(h:b.H a=Qs):W.H a=Qs:=by
 cases q:W.H a with
 |none=>rfl
 |some o =>
  obtain⟨c,z,_⟩:=e.d a o q;rw[h]at z;cases z
theorem aX.trans(a:aX W W1)(b:aX W1 W2):aX W W2:=by
 refine⟨λx h=>b.g x (a.g x h),λx u g n h=>b.k x u (a.g x g) n (a.k x u g n h),λx kvs g h=>b.kd x kvs (a.g x g) (a.kd x kvs g h),?_,λx o h nt q i=>?_,λx h n=>?_,λx h=>?_,λx o h=>?_⟩
 ·obtain⟨u,e⟩:=a.m;obtain⟨v,w⟩:=b.m
  simp_all
 ·refine b.f x o (a.f x o h nt q i) nt (λg=>?_) (λc=>?_)
  ·rcases a.ng x g with z|z|z
   all_goals simp_all
  ·have:=a.n x c i
   simp_all
 ·by_cases c:x∈W1.μ
  ·exact a.n x c n
  ·exact a.free (b.n x h c)
 ·rcases b.ng x h with z|z|z
  ·exact a.ng x z
  ·exact .inr (.inl (a.free z))
  ·by_cases c:x∈W.μ
   ·exact .inr (.inr c)
   ·exact .inr (.inl (a.n x z c))
 ·obtain⟨r,l,p⟩:=a.d x o h;obtain⟨s,m,t⟩:=b.d x r l;exact⟨s,m,λz=>t (p z)⟩
mutual
theorem Rp.mono{cl:Cl}{W W':Wo}(e:aX W W'):∀ {v:V}{d:D},Rp cl W v d->Rp cl W' v d
 |_,_,.non=>.non
 |_,_,.bl b=>.bl b
 |_,_,.int i=>.int i
 |_,_,.str x h=>.str x h
 |_,_,.tup g h l r=>.tup (e.g _ g) (e.k _ _ g rfl h) l (RpAll.mono e r)
 |_,_,.lst g h l r=>.lst (e.g _ g) (e.k _ _ g rfl h) l (RpAll.mono e r)
 |_,_,.frl g h l r=>.frl (e.g _ g) (e.k _ _ g rfl h) l (RpAll.mono e r)
 |_,_,.dct g h l r=>.dct (e.g _ g) (e.kd _ _ g h) l (RpK.mono e r)
 |_,_,.obj g h r=>.obj (e.g _ g) (e.k _ _ g rfl h) (RpF.mono e r)
theorem RpAll.mono{cl:Cl}{W W':Wo}(e:aX W W'):∀ {vs:List V}{ds:List D},RpAll cl W vs ds->RpAll cl W' vs ds
 |_,_,.nil=>.nil
 |_,_,.cons r t=>.cons (Rp.mono e r) (RpAll.mono e t)
theorem RpK.mono{cl:Cl}{W W':Wo}(e:aX W W'):∀ {vs:List (aR×V)}{ds:List (aR×D)},RpK cl W vs ds->RpK cl W' vs ds
 |_,_,.nil=>.nil
 |_,_,.cons r t=>.cons (Rp.mono e r) (RpK.mono e t)
theorem RpF.mono{cl:Cl}{W W':Wo}(e:aX W W'):∀ {vs:List (QD×V)}{ds:List (QD×D)},RpF cl W vs ds->RpF cl W' vs ds
 |_,_,.nil=>.nil
 |_,_,.cons r t=>.cons (Rp.mono e r) (RpF.mono e t)
end
inductive RU (cl:Cl) (W:Wo):V->U->Prop where
 |d {v:V}{x:D}:Rp cl W v x->RU cl W v (.d x)
 |loc {n:Nat}{a:QC}:W.μ[n]?=Qq a->RU cl W (.ref a) (.loc n)
inductive bG (cl:Cl) (W:Wo):List V->List U->Prop where
 |nil:bG cl W [] []
 |cons {v:V}{d:U}{vs:List V}{ds:List U}:RU cl W v d->bG cl W vs ds->bG cl W (v::vs) (d::ds)
inductive bT (cl:Cl) (W:Wo) {κ:Type}:List (κ×V)->List (κ×U)->Prop where
 |nil:bT cl W [] []
 |cons {k:κ}{v:V}{d:U}{vs:List (κ×V)}{ds:List (κ×U)}:RU cl W v d->bT cl W vs ds->bT cl W ((k,v)::vs) ((k,d)::ds)
theorem RU.mono(e:aX W a)(r:RU b W v u):RU b a v u:=by
 cases r with
 |d r=>exact .d (r.mono e)
 |loc h =>
  refine .loc ?_;obtain⟨c,z⟩:=e.m;rw[z,Zi (Qw.mp h).1];exact h
theorem bG.mono(e:aX W b):∀ {vs:List V}{a:List U},bG c W vs a->bG c b vs a
 |_,_,.nil=>.nil
 |_,_,.cons r t=>.cons (r.mono e) (bG.mono e t)
theorem bT.mono(e:aX W b):∀ {vs:List (d×V)}{a:List (d×U)},bT c W vs a->bT c b vs a
 |_,_,.nil=>.nil
 |_,_,.cons r t=>.cons (r.mono e) (bT.mono e t)
noncomputable def eE(d:Cl)(W:Wo)(a:QC):cG->Prop
 | .lst e=>¬W.G a/\∃b,W.H a=Qq (.lst b)/\b.length<=LM/\bG d W b e
 | .dct e=>¬W.G a/\∃b,W.H a=Qq (.dK b)/\b.length<=LM/\bT d W b e
 | .ins c h=>¬W.G a/\∃g f,W.H a=Qq (.ins (d c) g f)/\bT d W f h
 | .dead=>∃o,W.H a=Qq o/\lh o=Qr
structure WR(cl:Cl)(W:Wo)(S:aE):Prop where
 len:W.μ.length=S.length
 nd:W.μ.Nodup
 gd:∀a,W.G a->∃o,W.H a=Qq o/\lh o=Qr
 cell:∀(n:Nat) (c:cG) (a:QC),S[n]?=Qq c->W.μ[n]?=Qq a->eE cl W a c
 tb:∀t∈cl.tabs,dj W.H t.1 t.2.1 t.2.2
section
theorem eE.ex(h:eE f W a c):∃o,W.H a=Qq o/\lh o=Qr:=by
 cases c with
 |lst b=>obtain⟨_,d,e,_⟩:=h;exact⟨_,e,rfl⟩
 |dct b=>obtain⟨_,d,e,_⟩:=h;exact⟨_,e,rfl⟩
 |ins c j=>obtain⟨_,g,i,e,_⟩:=h;exact⟨_,e,rfl⟩
 |dead=>exact h
theorem WR.mem(w:WR f W S)(h:a∈W.μ):∃(n:Nat) (c:cG),S[n]?=Qq c/\W.μ[n]?=Qq a:=by
 obtain⟨n,b,e⟩:=Yf h;have d:n<S.length:=by rw[<- w.len];exact b
 exact⟨n,S[n],Z2 d,by simp_all⟩
theorem WR.ex(w:WR d W S)(h:a∈W.μ):∃o,W.H a=Qq o/\lh o=Qr:=by
 obtain⟨n,c,b,e2⟩:=w.mem h;exact(w.cell n c a b e2).ex
theorem eE.keep(h:eE m W a c)(e:aX W i)(k:i.G a->W.G a)(f:i.H a=W.H a):eE m i a c:=by
 cases c with
 |lst n=>obtain⟨g,l,b,d,j⟩:=h;exact⟨λz=>g (k z),l,by rw[f];exact b,d,j.mono e⟩
 |dct n=>obtain⟨g,l,b,d,j⟩:=h;exact⟨λz=>g (k z),l,by rw[f];exact b,d,j.mono e⟩
 |ins c s=>obtain⟨g,q,r,b,d⟩:=h;exact⟨λz=>g (k z),q,r,by rw[f];exact b,d.mono e⟩
 |dead=>obtain⟨o,h,p⟩:=h;exact⟨o,by rw[f];exact h,p⟩
noncomputable def Wo.add(W:Wo)(a:QC)(o:HO):Wo:=⟨λb=>W.G b\/b=a,W.μ,upd W.H a o⟩
theorem aX.add(h:W.H a=Qs):aX W (W.add a o):=by
 have c:∀b u,W.H b=Qq u->(upd W.H a o) b=Qq u:=λb u e=>by rw[bS (eK e h)];exact e
 refine⟨λ_ g=>.inl g,λb u ω ω e=>c b u e,λb f ω r=>?_,⟨[],(QP _).symm⟩,λb u e ω ω ω=>c b u e,λb d n=>absurd d n,λb g=>?_,λb u e=>⟨u,c b u e,id⟩⟩
 ·rcases r with r|⟨x,r⟩
  ·exact .inl (c _ _ r)
  ·exact .inr ⟨x,c _ _ r⟩
 ·rcases g with g|rfl
  ·exact .inl g
  ·exact .inr (.inl h)
theorem WR.add(w:WR cl W S)(h:W.H a=Qs)(j:autoParam (lh o=Qr) A10._auto_1):WR cl (W.add a o) S:=by
 have e:aX W (W.add a o):=aX.add h;refine⟨w.len,w.nd,λb g=>?_,λn c b i e2=>?_,λt k=>(w.tb t k).stay λb u z=>by show upd W.H a o b=Qq u;rw[bS (eK z h)];exact z⟩
 ·rcases g with g|rfl
  ·obtain⟨u,z,p⟩:=w.gd b g;obtain⟨q,r,m⟩:=e.d b u z;exact⟨q,r,m p⟩
  ·exact⟨o,dm,j⟩
 ·have f:=w.cell n c b i e2;obtain⟨u,l,_⟩:=f.ex;have d:=eK l h;exact f.keep e (λz=>z.resolve_right d) (by show upd W.H a o b=W.H b;rw[bS d])
noncomputable def Wo.new(W:Wo)(a:QC)(o:HO):Wo:=⟨W.G,W.μ++[a],upd W.H a o⟩
theorem aX.new(h:W.H a=Qs):aX W (W.new a o):=by
 have c:∀b u,W.H b=Qq u->(upd W.H a o) b=Qq u:=λb u e=>by rw[bS (eK e h)];exact e
 refine⟨λ_ g=>g,λb u ω ω e=>c b u e,λb f ω r=>?_,⟨[a],rfl⟩,λb u e ω ω ω=>c b u e,λb d n=>?_,λb g=>.inl g,λb u e=>⟨u,c b u e,id⟩⟩
 ·rcases r with r|⟨x,r⟩
  ·exact .inl (c _ _ r)
  ·exact .inr ⟨x,c _ _ r⟩
 ·rcases QO.mp d with z|z
  all_goals simp_all
theorem WR.new(w:WR j W S)(h:W.H a=Qs)(H:eE j (W.new a o) a c):WR j (W.new a o) (S++[c]):=by
 have e:aX W (W.new a o):=aX.new h;have A:a∉W.μ:=λz=>by obtain⟨u,q,_⟩:=w.ex z;rw[h]at q;cases q
 refine⟨by show(W.μ++[a]).length=_;simp[w.len],?_,λb g=>?_,λn l b f e2=>?_,λt m=>(w.tb t m).stay λb u z=>by show upd W.H a o b=Qq u;rw[bS (eK z h)];exact z⟩
 ·show(W.μ++[a]).Nodup;rw[QY];exact⟨w.nd,by simp,λx s y v=>by rw[QH.mp v];exact λz=>A (z▸s)⟩
 ·obtain⟨u,z,p⟩:=w.gd b g;obtain⟨E,G,C⟩:=e.d b u z;exact⟨E,G,C p⟩
 ·have e2:(W.μ++[a])[n]?=Qq b:=e2;by_cases k:n<S.length
  ·rw[Zi k]at f;rw[Zi (by rw[w.len];exact k)]at e2;have d:=w.cell n l b f e2;obtain⟨u,r,_⟩:=d.ex;have B:=eK r h;exact d.keep e (λz=>z) (by show upd W.H a o b=W.H b;rw[bS B])
  ·have i:n=S.length:=by
    have:=(Qw.mp f).1;simp at this;omega
   subst i;rw[Zm (Z3 _)]at f;rw[Zm (by rw[w.len];exact Z3 _),w.len]at e2
   simp_all
noncomputable def Wo.put(W:Wo)(a:QC)(o:HO):Wo:=⟨W.G,W.μ,upd W.H a o⟩
theorem aX.put(h:a∈W.μ)(f:¬W.G a)(k:∃u,W.H a=Qq u/\lh u=Qr)(i:autoParam (lh o=Qr) A10._auto_1):aX W (W.put a o):=by
 have d:∀b u,W.G b->W.H b=Qq u->(upd W.H a o) b=Qq u:=λb u g e=>by rw[bS (λz=>by rw[z]at g;exact f g)];exact e
 refine⟨λ_ g=>g,λb u g ω e=>d b u g e,λb j g r=>?_,⟨[],(QP _).symm⟩,λb u e ω ω n=>?_,λb c n=>absurd c n,λb g=>.inl g,λb u e=>?_⟩
 ·rcases r with r|⟨x,r⟩
  ·exact .inl (d _ _ g r)
  ·exact .inr ⟨x,d _ _ g r⟩
 ·show upd W.H a o b=Qq u;rw[bS (λz=>by rw[z]at n;exact n h)];exact e
 ·by_cases c:b=a
  ·exact⟨o,by rw[c];exact dm,λ_=>i⟩
  ·exact⟨u,by show upd W.H a o b=Qq u;rw[bS c];exact e,id⟩
theorem WR.put(w:WR l W S)(d:W.μ[n]?=Qq a)(s:¬W.G a)(M:eE l (W.put a o) a c)(x:autoParam (lh o=Qr) A10._auto_1):WR l (W.put a o) (S.set n c):=by
 have h:=Ze d;have e:=aX.put h s (w.ex h) x
 refine ⟨by rw [RR];exact w.len,w.nd,λb g=>?_,λj r b m e2=>?_,λt y=>by
  obtain⟨u,A,q⟩:=w.ex h
  exact(w.tb t y).but A (xY (ql q)) (qY q) λb v z i=>by show upd W.H a o b=Qq v;rw[bS i];exact z⟩
 ·obtain⟨u,z,p⟩:=w.gd b g;obtain⟨G,H,B⟩:=e.d b u z;exact⟨G,H,B p⟩
 ·have e2:W.μ[j]?=Qq b:=e2;by_cases f:j=n
  ·subst f;rw[d]at e2;cases e2;have L:j<S.length:=by rw[<- w.len];exact(Qw.mp d).1
   simp_all
  ·rw[Zy (Rf f)]at m;have k:=w.cell j r b m e2;have i:b≠a:=λz=>by
    subst z;obtain⟨I,C⟩:=Qw.mp e2;obtain⟨J,E⟩:=Qw.mp d;exact f ((VM w.nd).mp (C.trans E.symm))
   exact k.keep e (λz=>z) (by show upd W.H a o b=W.H b;rw[bS i])
theorem aX.frz(f:W.G a)(r:W.H a=Qq (.dK kvs)):aX W (W.put a (.frz x (.dK kvs))):=by
 have i:∀b u,FX u=Qr->W.H b=Qq u->b≠a:=λb u n e z=>by
  subst z;rw[r]at e;cases e;cases n
 refine⟨λ_ g=>g,λb u g n e=>?_,λb h g q=>?_,⟨[],(QP _).symm⟩,λb u e ω n ω=>?_,λb c n=>absurd c n,λb g=>.inl g,λb u e=>?_⟩
 ·show upd W.H a _ b=Qq u;rw[bS (i b u n e)];exact e
 ·by_cases c:b=a
  ·subst c;have:h=kvs:=by rcases q with q|⟨z,q⟩<;>rw[r]at q<;>cases q<;>rfl
   subst this;exact .inr ⟨x,dm⟩
  ·rcases q with q|⟨z,q⟩
   ·exact .inl (by show upd W.H a _ b=_;rw[bS c];exact q)
   ·exact .inr ⟨z,by show upd W.H a _ b=_;rw[bS c];exact q⟩
 ·show upd W.H a _ b=Qq u;rw[bS (λz=>by rw[z]at n;exact n f)];exact e
 ·by_cases c:b=a
  ·exact⟨_,by rw[c];exact dm,λ_=>rfl⟩
  ·exact⟨u,by show upd W.H a _ b=Qq u;rw[bS c];exact e,id⟩
theorem WR.frz(w:WR j W S)(f:W.G a)(r:W.H a=Qq (.dK d)):WR j (W.put a (.frz x (.dK d))) S:=by
 have e:aX W (W.put a (.frz x (.dK d))):=aX.frz f r;refine⟨w.len,w.nd,λb g=>?_,λn c b l e2=>?_,λt m=>(w.tb t m).but r (λ_ z=>nomatch z) (λ_ z=>nomatch z) λb v z o=>by show upd W.H a _ b=Qq v;rw[bS o];exact z⟩
 ·obtain⟨u,z,p⟩:=w.gd b g;obtain⟨s,y,q⟩:=e.d b u z;exact⟨s,y,q p⟩
 ·have h:=w.cell n c b l e2;by_cases i:b=a
  ·subst i;cases c with
   |lst k=>exact absurd f h.1
   |dct k=>exact absurd f h.1
   |ins c A=>exact absurd f h.1
   |dead=>exact⟨_,dm,rfl⟩
  ·exact h.keep e (λz=>z) (by show upd W.H a _ b=W.H b;rw[bS i])
theorem aX.oth(h:W.H a=Qs):aX W (W.put a o):=by
 have c:∀b u,W.H b=Qq u->(upd W.H a o) b=Qq u:=λb u e=>by rw[bS (eK e h)];exact e
 refine⟨λ_ g=>g,λb u ω ω e=>c b u e,λb f ω r=>?_,⟨[],(QP _).symm⟩,λb u e ω ω ω=>c b u e,λb d n=>absurd d n,λb g=>.inl g,λb u e=>⟨u,c b u e,id⟩⟩;rcases r with r|⟨x,r⟩
 ·exact .inl (c _ _ r)
 ·exact .inr ⟨x,c _ _ r⟩
theorem WR.oth(w:WR f W S)(h:W.H a=Qs):WR f (W.put a o) S:=by
 have e:aX W (W.put a o):=aX.oth h;refine⟨w.len,w.nd,λb g=>?_,λn c b i e2=>?_,λt j=>(w.tb t j).stay λb u z=>by show upd W.H a o b=Qq u;rw[bS (eK z h)];exact z⟩
 ·obtain⟨u,z,p⟩:=w.gd b g;obtain⟨m,q,l⟩:=e.d b u z;exact⟨m,q,l p⟩
 ·have d:=w.cell n c b i e2;obtain⟨u,k,_⟩:=d.ex;exact d.keep e (λz=>z) (by show upd W.H a o b=W.H b;rw[bS (eK k h)])
end
noncomputable abbrev TZ:=St->QC->QC->Hp->Prop
noncomputable def PO(b:Cl){e f:Type}(R:Wo->f->e->Prop)(W:Wo)(Q:f->Hp->Prop)(Z:QC->QC->Hp->Prop):aJ e->Prop
 | .ok d S=>∀a v,aX W a->WR b a S->R a v d->Q v a.H
 | .ex c S=>∀a x,aX W a->WR b a S->a.H x=Qq (XO (b c) x)->Z x (b c) a.H
 | .st=>False
noncomputable def RB(_:Wo)(a b:Bool):Prop:=a=b
structure ER(cl:Cl)(W:Wo)(σ:St)(ev:Ev):Prop where
 len:σ.length=ev.length
 get:∀(i:Nat) (d:U),ev[i]?=Qq (Qq d)->∃v,σ[i]?=Qq (Qq v)/\RU cl W v d
theorem ER.mono(r:ER b W j c)(e:aX W a):ER b a j c:=⟨r.len,λi d h=>let⟨v,f,g⟩:=r.get i d h;⟨v,f,g.mono e⟩⟩
section
variable {R:Wo->β->α->Prop}{R2:Wo->δ->γ->Prop}
theorem PO.ext(h:PO cl R W Q Z o)(e:aX W b):PO cl R b Q Z o:=by
 cases o with
 |ok d S=>exact λa v e2 w r=>h a v (e.trans e2) w r
 |ex c S=>exact λa x e2 w r=>h a x (e.trans e2) w r
 |st=>exact h
theorem PO.bind(h:PO b R2 W f Z (o.bind k))(i:∀d S a v,aX W a->WR b a S->R a v d->PO b R2 a f Z (k d S)->Q v a.H):PO b R W Q Z o:=by
 cases o with
 |ok d S=>exact λg v e w r=>i d S g v e w r (PO.ext h e)
 |ex c S=>exact h
 |st=>exact h
theorem PO.now(h:PO a R W Q Z (.ok d S))(w:WR a W S)(r:R W v d):Q v W.H:=h W v (aX.refl W) w r
end
noncomputable def tF(a:Cl){c d:Type}(R:Wo->d->c->Prop)(Z:TZ)(f:Ev->aE->aJ c):St->Hp->(d->Hp->Prop)->Prop:=λe H Q=>∃W S b,W.H=H/\WR a W S/\ER a W e b/\PO a R W Q (Z e) (f b S)
structure DE(cl:Cl)(X:Cx)(Z:TZ)(e:Rx)(f:FE):Prop where
 pe:L2.PE X e (tF cl (RU cl) Z f)
theorem DE.of(h:∃t,L2.PE X e t/\∀  W   S   a   g  (Q:VK),WR d W S->ER d W a g->PO d (RU d) W Q (Z a) (f g S)->t a W.H Q):DE d X Z e f:=by
 obtain⟨t,p,c⟩:=h;exact⟨λb s a H Q I ⟨W,S,g,e,w,r,h⟩=>p b s a H Q I (by rw[<- e];exact c W S a g Q w r h)⟩
theorem DE.ex(h:DE a X Z e f):∃t,L2.PE X e t/\∀  W   S   c   b  (Q:VK),WR a W S->ER a W c b->PO a (RU a) W Q (Z c) (f b S)->t c W.H Q:=⟨_,h.pe,λW S c b Q w r h=>⟨W,S,b,rfl,w,r,h⟩⟩
structure DT(cl:Cl)(X:Cx)(Z:TZ)(e:Rx)(f:FT):Prop where
 pe:L2.PT X e (tF cl RB Z f)
theorem DT.of(h:∃t,L2.PT X e t/\∀  W   S   a   d   Q ,WR g W S->ER g W a d->PO g RB W Q (Z a) (f d S)->t a W.H Q):DT g X Z e f:=by
 obtain⟨t,p,c⟩:=h;exact⟨λb s a H Q I ⟨W,S,d,e,w,r,h⟩=>p b s a H Q I (by rw[<- e];exact c W S a d Q w r h)⟩
theorem DT.ex(h:DT c X Z e f):∃t,L2.PT X e t/\∀  W   S   b   a   Q ,WR c W S->ER c W b a->PO c RB W Q (Z b) (f a S)->t b W.H Q:=⟨_,h.pe,λW S b a Q w r h=>⟨W,S,a,rfl,w,r,h⟩⟩
structure DW(cl:Cl)(X:Cx)(Z:TZ)(e:Rx)(f:FT):Prop where
 pe:L2.PW X e (tF cl RB Z f)
theorem DW.of(h:∃t,L2.PW X e t/\∀  W   S   a   d   Q ,WR g W S->ER g W a d->PO g RB W Q (Z a) (f d S)->t a W.H Q):DW g X Z e f:=by
 obtain⟨t,p,c⟩:=h;exact⟨λi b s a H Q I ⟨W,S,d,e,w,r,h⟩=>p i b s a H Q I (by rw[<- e];exact c W S a d Q w r h)⟩
theorem DW.ex(h:DW c X Z e f):∃t,L2.PW X e t/\∀  W   S   b   a   Q ,WR c W S->ER c W b a->PO c RB W Q (Z b) (f a S)->t b W.H Q:=⟨_,h.pe,λW S b a Q w r h=>⟨W,S,a,rfl,w,r,h⟩⟩
structure DA(cl:Cl)(X:Cx)(Z:TZ)(e:List Rx)(f:iu):Prop where
 pe:L2.PA X e (tF cl (bG cl) Z f)
theorem DA.of(h:∃t,L2.PA X e t/\∀  W   S   a   g   Q ,WR d W S->ER d W a g->PO d (bG d) W Q (Z a) (f g S)->t a W.H Q):DA d X Z e f:=by
 obtain⟨t,p,c⟩:=h;exact⟨λi b s a H Q I ⟨W,S,g,e,w,r,h⟩=>p i b s a H Q I (by rw[<- e];exact c W S a g Q w r h)⟩
theorem DA.ex(h:DA a X Z e f):∃t,L2.PA X e t/\∀  W   S   c   b   Q ,WR a W S->ER a W c b->PO a (bG a) W Q (Z c) (f b S)->t c W.H Q:=⟨_,h.pe,λW S c b Q w r h=>⟨W,S,b,rfl,w,r,h⟩⟩
noncomputable def bI(S:aE)(n:Nat):Option (List U):=match S[n]? with
 |some (.lst a)=>Qq a
 |_=>Qs
noncomputable def eR(S:aE)(n:Nat):Option (List (aR×U)):=match S[n]? with
 |some (.dct a)=>Qq a
 |_=>Qs
noncomputable def jo(S:aE)(n:Nat):Option (QD×List (QD×U)):=match S[n]? with
 |some (.ins c a)=>Qq (c,a)
 |_=>Qs
noncomputable def bz{a:Type}(es:List (a×D)):List (a×U):=es.map λe=>(e.1,.d e.2)
noncomputable def iK(S:aE):U->Option (List U)
 | .d (.lst a)=>Qq (a.map .d)
 | .loc n=>bI S n
 |_=>Qs
noncomputable def b0(S:aE):U->Option (List U)
 | .d (.frl a)=>Qq (a.map .d)
 |u=>iK S u
noncomputable def bK(S:aE):U->Option (List (aR×U))
 | .d (.dct a)=>Qq (bz a)
 | .loc n=>eR S n
 |_=>Qs
noncomputable def fW(S:aE):U->Option (QD×List (QD×U))
 | .d (.obj c a)=>Qq (c,bz a)
 | .loc n=>jo S n
 |_=>Qs
noncomputable def cj:List U->Option (List D)
 |[]=>Qq []
 | .d x::r=>(cj r).map (x::·)
 |_=>Qs
theorem mz:∀xs ,cj (xs.map .d)=Qq xs
 |[]=>rfl
 |x::r=>by rw[Z8,cj,mz r];rfl
section
theorem RpAll.up:∀ {a:List V}{ds:List D},RpAll b W a ds->bG b W a (ds.map .d)
 |_,_,.nil=>.nil
 |_,_,.cons r t=>.cons (.d r) (RpAll.up t)
theorem RpK.up:∀ {a:List (aR×V)}{ds:List (aR×D)},RpK b W a ds->bT b W a (bz ds)
 |_,_,.nil=>.nil
 |_,_,.cons r t=>.cons (.d r) (RpK.up t)
theorem RpF.up:∀ {a:List (QD×V)}{ds:List (QD×D)},RpF b W a ds->bT b W a (bz ds)
 |_,_,.nil=>.nil
 |_,_,.cons r t=>.cons (.d r) (RpF.up t)
theorem bG.pure:∀ {b:List V}{a:List U}{ds:List D},bG c W b a->cj a=Qq ds->RpAll c W b ds
 |_,_,ds,.nil,h=>by cases h;exact .nil
 |_,_,ds,.cons (ds:=a) r t,h=>by
  cases r with
  | @d _ x r =>
   obtain⟨l,e,rfl⟩:=QA.mp (h);exact .cons r (bG.pure t e)
  |loc _=>cases h
set_option tactic.hygienic true in
theorem my(w:WR b W S)(r:RU b W v (.loc n))(h:bI S n=Qq ds):∃p a,v=.ref p/\W.μ[n]?=Qq p/\¬W.G p/\W.H p=Qq (.lst a)/\a.length<=LM/\bG b W a ds:=by
 cases r with
 | @loc _ p c =>
  unfold bI at h;split at h
  ·next i e =>
   cases h;obtain⟨g,a,d,e2,f⟩:=w.cell _ _ _ e c;exact⟨p,a,rfl,c,g,d,e2,f⟩
  ·cases h
set_option tactic.hygienic true in
theorem xC(w:WR b W S)(r:RU b W v (.loc n))(h:eR S n=Qq d):∃p a,v=.ref p/\W.μ[n]?=Qq p/\¬W.G p/\W.H p=Qq (.dK a)/\a.length<=LM/\bT b W a d:=by
 cases r with
 | @loc _ p c =>
  unfold eR at h;split at h
  ·next j e =>
   cases h;obtain⟨g,a,f,e2,i⟩:=w.cell _ _ _ e c;exact⟨p,a,rfl,c,g,f,e2,i⟩
  ·cases h
set_option tactic.hygienic true in
theorem Fq(w:WR b W S)(r:RU b W v (.loc n))(h:jo S n=Qq (c,j)):∃p d a,v=.ref p/\W.μ[n]?=Qq p/\¬W.G p/\W.H p=Qq (.ins (b c) d a)/\bT b W a j:=by
 cases r with
 | @loc _ p f =>
  unfold jo at h;split at h
  ·next k l e =>
   cases h;obtain⟨g,d,a,i,e2⟩:=w.cell _ _ _ e f;exact⟨p,d,a,rfl,f,g,i,e2⟩
  ·cases h
theorem rk(w:WR c W S)(r:RU c W v u)(h:iK S u=Qq f):∃a b,v=.ref a/\W.H a=Qq (.lst b)/\b.length<=LM/\bG c W b f:=by
 cases u with
 |d x =>
  cases r with
  |d r =>
   cases r with
   |lst g e l r=>cases h;exact⟨_,_,rfl,e,l,r.up⟩
   |_=>cases h
 |loc n=>obtain⟨p,b,i,_,_,j,k,m⟩:=my w r h;exact⟨p,b,i,j,k,m⟩
theorem jj{K:aV}(w:WR c W S)(r:RU c W v u)(h:b0 S u=Qq f):∃a b,v=.ref a/\cF K W.H a b/\b.length<=LM/\bG c W b f:=by
 have i:iK S u=Qq f->∃a b,v=.ref a/\cF K W.H a b/\b.length<=LM/\bG c W b f:=λh=>let⟨a,b,j,k,m⟩:=rk w r h;⟨a,b,j,.of k,m⟩;cases u with
 |d x =>
  cases x with
  |frl o =>
   cases h;cases r with
   |d r =>
    cases r with
    |frl g e l r=>exact⟨_,_,rfl,.inl (.inr ⟨_,e⟩),l,r.up⟩
  |_=>exact i h
 |loc n=>exact i h
theorem qk{K:aV}(r:RU c W v (.d (.tup f))):∃a b,v=.ref a/\gC K W.H a b/\b.length<=LM/\RpAll c W b f:=by
 cases r with
 |d r =>
  cases r with
  |tup g e l r=>exact⟨_,_,rfl,.of e,l,r⟩
theorem kE(w:WR c W S)(r:RU c W v u)(h:bK S u=Qq f):∃a b,v=.ref a/\Rd W.H a (.dK b)/\b.length<=LM/\bT c W b f:=by
 cases u with
 |d x =>
  cases r with
  |d r =>
   cases r with
   |dct g e l r=>cases h;exact⟨_,_,rfl,e,l,r.up⟩
   |_=>cases h
 |loc n=>obtain⟨p,b,i,_,_,j,k,m⟩:=xC w r h;exact⟨p,b,i,.inl j,k,m⟩
theorem uw(w:WR f W S)(r:RU f W v u)(h:fW S u=Qq (c,j)):∃a i b,v=.ref a/\W.H a=Qq (.ins (f c) i b)/\bT f W b j:=by
 cases u with
 |d x =>
  cases r with
  |d r =>
   cases r with
   |obj g e r=>cases h;exact⟨_,_,_,rfl,e,r.up⟩
   |_=>cases h
 |loc n=>obtain⟨p,i,b,k,_,_,l,m⟩:=Fq w r h;exact⟨p,i,b,k,l,m⟩
theorem RpAll.length:∀ {vs:List V}{ds:List D},RpAll cl W vs ds->vs.length=ds.length
 |_,_,.nil=>rfl
 |_,_,.cons _ t=>by rw[Zg,Zg,RpAll.length t]
theorem RpAll.append:∀ {e d:List V}{b c:List D},RpAll a W e b->RpAll a W d c->RpAll a W (e++d) (b++c)
 |_,_,_,_,.nil,h=>h
 |_,_,_,_,.cons r t,h=>.cons r (RpAll.append t h)
theorem RpAll.get:∀ {b:List V}{a:List D}{i:Nat}{d:D},RpAll c W b a->a[i]?=Qq d->∃v,b[i]?=Qq v/\Rp c W v d
 |_,_,0,d,.cons r _,h=>by simp_all
 |_,_,i+1,d,.cons _ t,h=>RpAll.get (i:=i) t h
theorem RpAll.take:∀  n  {vs:List V}{ds:List D},RpAll cl W vs ds->RpAll cl W (vs.take n) (ds.take n)
 | 0,_,_,_=>.nil
 |_+1,_,_,.nil=>.nil
 |n+1,_,_,.cons r t=>.cons r (RpAll.take n t)
theorem RpAll.drop:∀  n  {a:List V}{ds:List D},RpAll b W a ds->RpAll b W (a.drop n) (ds.drop n)
 | 0,_,_,h=>h
 |_+1,_,_,.nil=>.nil
 |n+1,_,_,.cons _ t=>RpAll.drop n t
theorem bG.length:∀ {vs:List V}{ds:List U},bG cl W vs ds->vs.length=ds.length
 |_,_,.nil=>rfl
 |_,_,.cons _ t=>by rw[Zg,Zg,bG.length t]
theorem bG.get:∀ {b:List V}{a:List U}{i:Nat}{d:U},bG c W b a->a[i]?=Qq d->∃v,b[i]?=Qq v/\RU c W v d
 |_,_,0,d,.cons r _,h=>by simp_all
 |_,_,i+1,d,.cons _ t,h=>bG.get (i:=i) t h
theorem bG.append:∀ {e d:List V}{b c:List U},bG a W e b->bG a W d c->bG a W (e++d) (b++c)
 |_,_,_,_,.nil,h=>h
 |_,_,_,_,.cons r t,h=>.cons r (bG.append t h)
theorem bG.take:∀  n  {vs:List V}{ds:List U},bG cl W vs ds->bG cl W (vs.take n) (ds.take n)
 | 0,_,_,_=>.nil
 |_+1,_,_,.nil=>.nil
 |n+1,_,_,.cons r t=>.cons r (bG.take n t)
theorem bG.drop:∀  n  {a:List V}{ds:List U},bG b W a ds->bG b W (a.drop n) (ds.drop n)
 | 0,_,_,h=>h
 |_+1,_,_,.nil=>.nil
 |n+1,_,_,.cons _ t=>bG.drop n t
theorem bT.look:∀ {a:List (QD×V)}{b:List (QD×U)},bT c W a b->b.lookup f=Qq x->∃v,a.lookup f=Qq v/\RU c W v x
 |_,_,.cons (k:=k) r t,h=>by
  rw[Zq]at h ⊢;cases e:(f==k)with
  |true=>simp_all
  |false=>rw[e]at h;exact bT.look t h
theorem bT.lookN:∀ {a:List (QD×V)}{b:List (QD×U)},bT c W a b->b.lookup f=Qs->a.lookup f=Qs
 |_,_,.nil,_=>rfl
 |_,_,.cons (k:=k) r t,h=>by
  rw[Zq]at h ⊢;cases e:(f==k)with
  |true=>rw[e]at h;cases h
  |false=>rw[e]at h;exact bT.lookN t h
theorem bT.length:∀ {fs:List (b×V)}{a:List (b×U)},bT cl W fs a->fs.length=a.length
 |_,_,.nil=>rfl
 |_,_,.cons _ t=>by rw[Zg,Zg,bT.length t]
theorem bT.keys:∀ {a:List (c×V)}{b:List (c×U)},bT d W a b->a.map (·.1)=b.map (·.1)
 |_,_,.nil=>rfl
 |_,_,.cons _ t=>by rw[Z8,Z8,bT.keys t]
noncomputable def jn(f:QD)(v:U):List (QD×U)->List (QD×U)
 |[]=>[(f,v)]
 |(g,x)::r=>if g=f then(g,v)::r else(g,x)::jn f v r
theorem bT.putF(a:RU b W v x):∀ {fs:List (QD×V)}{c:List (QD×U)},bT b W fs c->bT b W (putF f v fs) (jn f x c)
 |_,_,.nil=>.cons a .nil
 |_,_,.cons (k:=k) r t=>by
  unfold L2.putF jn;by_cases e:k=f
  ·rw[if_pos e,if_pos e];exact .cons a t
  ·rw[if_neg e,if_neg e];exact .cons r (bT.putF a t)
noncomputable def b6(es:List (aR×U))(k:aR):Option U:=(es.find? λa=>decide (a.1=k)).map (·.2)
theorem bT.val:∀ {vs:List (aR×V)}{es:List (aR×U)},bT cl W vs es->match b6 es k with|some x=>∃v,du vs k=Qq v/\RU cl W v x|none=>du vs k=Qs
 |_,_,.nil=>rfl
 |_,_,.cons (k:=a) r t=>by
  unfold b6 du;by_cases e:a=k
  ·simp_all
  ·rw[WO (by simp[e]),WO (by simp[e])];exact bT.val t
end
noncomputable def dZ(x:QD):Bool:=decide (x.length<=100000)&&Q9 x
theorem mv(h:dZ x=Qr):dA x:=by
 unfold dZ at h;rw[Zl,decide_eq_true_eq]at h;exact h
noncomputable def dC(d:D):FE:=λ_ S=>.ok (.d d) S
noncomputable def dV(i:Nat):FE:=λa S=>match a[i]? with
 |some (Qq d)=>.ok d S
 |_=>.st
noncomputable def d1(g:U->aE->aJ U)(b:FE):FE:=λa S=>(b a S).bind g
noncomputable def d2(g:U->U->aE->aJ U)(b c:FE):FE:=λa S=>(b a S).bind λx S=>(c a S).bind λy S=>g x y S
structure c9(cl:Cl)(X:Cx)(f:Qz->Qz->ZT Qz)(g:U->U->aE->aJ U):Prop where
 ex:∃r,dS X f r/\∀W S x y a b (Q:VK) Z,WR cl W S->RU cl W x a->RU cl W y b->PO cl (RU cl) W Q Z (g a b S)->r x y W.H Q
section
theorem dS.or(h:dS X f r)(e:dS X f g):dS X f (λx y H Q=>r x y H Q\/g x y H Q):=λa s d H x y v u Q I b c q=>q.elim (h a s d H x y v u Q I b c) (e a s d H x y v u Q I b c)
theorem aZ:DE b X Z (.Constant (.int i) j a) (dC (.int i)):=.of ⟨_,L2.zF8,λW S e c Q w r h=>h.now w (.d (.int i))⟩
theorem ig:DE b X Z (.Constant (.bool i) j a) (dC (.bl i)):=.of ⟨_,L2.pe_bl,λW S e c Q w r h=>h.now w (.d (.bl i))⟩
theorem jE:DE b X Z (.Constant .none j a) (dC .non):=.of ⟨_,L2.zY4,λW S e c Q w r h=>h.now w (.d .non)⟩
theorem gF(a:autoParam (dZ x=Qr) A12._auto_1):DE c X Z (.Constant (.str x) j b) (dC (.str x)):=.of ⟨_,L2.zY3,λW S f e Q w r h=>h.now w (.d (.str x (mv a)))⟩
set_option tactic.hygienic true in
theorem av(i:Nat)(c:autoParam (X.N[i]?=Qq x) A10._auto_1)(g:autoParam (vp X.env.scope x) A21._auto_1)(f:autoParam ((x==("__debug__"))=Qv) A11._auto_1)
 (a:autoParam ((x == ("__classdict__"))=Qv) A11._auto_1):DE k X Z (.Name x j) (dV i):=.of ⟨_,L2.zY2 c g f a,λW S m l Q w r h=>by
 unfold dV at h;split at h
 ·next d e =>
  obtain⟨v,b,e2⟩:=r.get i d e;exact⟨v,b,h.now w e2⟩
 ·exact h.elim⟩
theorem qq(a:∃t,X.mg x=Qq (.int i t))(c:autoParam (Gl X x) A10._auto_1)(b:autoParam ((x==("__debug__"))=Qv) A11._auto_1):DE f X Z (.Name x e) (dC (.int i)):=by
 obtain⟨t,a⟩:=a;exact .of ⟨_,L2.zMs (v:=.int i) c a ⟨t,rfl⟩ b,λW S j g Q w r h=>h.now w (.d (.int i))⟩
theorem B3(a:∃t,X.mg x=Qq (.str y t))(e:autoParam (dZ y=Qr) A12._auto_1)(c:autoParam (Gl X x) A10._auto_1)(b:autoParam ((x==("__debug__"))=Qv) A11._auto_1):DE g X Z (.Name x f) (dC (.str y)):=by
 obtain⟨t,a⟩:=a;exact .of ⟨_,L2.zMs (v:=.str y) c a ⟨t,rfl⟩ b,λW S j i Q w r h=>h.now w (.d (.str y (mv e)))⟩
theorem c0(o:c9 c X (Ru E) g)(z:DE c X Z a p)(A:DE c X Z b q):DE c X Z (.BinOp a E b I) (d2 g p q):=by
 obtain⟨r,C,B⟩:=o.ex;obtain⟨O,G,l⟩:=z.ex;obtain⟨P,H,m⟩:=A.ex;exact .of ⟨_,L2.zZy C G H,λW S e d Q w r h=>l W S e d _ w r (PO.bind h λx f j v n M J s=>m j f e d _ M (r.mono n) (PO.bind s λy i k u e2 N L t=>B k i v u x y Q _ N (J.mono e2) L t))⟩
theorem pV(o:c9 c X (QK e) g)(A:DE c X Z a q)(B:DE c X Z b s)(E:autoParam (T4 e b=Qv) A10._auto_1):DE c X Z (.Compare a [e] [b] J) (d2 g q s):=by
 obtain⟨r,G,C⟩:=o.ex;obtain⟨P,H,m⟩:=A.ex;obtain⟨R,I,n⟩:=B.ex;exact .of ⟨_,L2.yA3 G H I E,λW S f d Q w r h=>m W S f d _ w r (PO.bind h λx i k v p N L t=>n k i f d _ N (r.mono p) (PO.bind t λy j l u e2 O M z=>C l j v u x y Q _ O (L.mono e2) M z))⟩
noncomputable def kj(d:U)(S:aE):aJ Bool:=match d with
 | .d (.bl b)=>.ok b S
 |_=>.st
noncomputable def cW(b:FE):FT:=λa S=>(b a S).bind kj
theorem GW{Z:QC->QC->Hp->Prop}(w:WR a W S)(r:RU a W v d)(h:PO a RB W Q Z (kj d S)):∃k,v=.bl k/\Q k W.H:=by
 cases r with
 |d r =>
  cases r with
  |bl b=>exact⟨b,rfl,h.now w rfl⟩
  |_=>exact h.elim
 |loc _=>exact h.elim
theorem dt(o:c9 c X (QK t) g)(H:DE c X Z a q)(I:DE c X Z b s)(L:autoParam (T4 t b=Qv) A10._auto_1):DT c X Z (.Compare a [t] [b] P) (cW (d2 g q s)):=by
 obtain⟨r,M,J⟩:=o.ex;obtain⟨Y,N,C⟩:=H.ex;obtain⟨tb,O,E⟩:=I.ex;refine .of ⟨_,L2.zRi M N O L,λW S l e Q w r h=>?_⟩;have h:PO c (RU c) W (λx z=>∃k,x=.bl k/\Q k z) (Z l) (d2 g q s e S):=PO.bind h λd m n v p j i f=>GW j i f;exact C W S l e _ w r (PO.bind h λx m n v p j i f=>E n m l e _ j (r.mono p) (PO.bind f λy A B u e2 T R G=>J B A v u x y _ _ T (i.mono e2) R G))
noncomputable def d3(g g':U->U->aE->aJ U)(fa fb fc:FE):FE:=λev S=>(fa ev S).bind λx S=>(fb ev S).bind λy S=>(g x y S).bind λz S=>match z with
 | .d (.bl Qr)=>(fc ev S).bind λu S=>g' y u S
 | .d (.bl Qv)=>.ok (.d (.bl Qv)) S
 |_=>.st
noncomputable def uh(S:aE):U->Option Bool
 | .d .non=>Qq Qv
 | .d (.bl b)=>Qq b
 | .d (.int i)=>Qq (i != 0)
 | .d (.str x)=>Qq ((x.length:Int) != 0)
 | .d (.tup a)=>Qq (!a.isEmpty)
 | .d (.dct _)=>Qs
 |d=>match b0 S d with
  |some a=>Qq (!a.isEmpty)
  |none=>match bK S d with
   |some c=>Qq (!c.isEmpty)
   |none=>Qs
noncomputable def lI(d:U)(S:aE):aJ Bool:=match uh S d with
 |some b=>.ok b S
 |none=>.st
noncomputable def nu(b:FE):FT:=λa S=>(b a S).bind lI
theorem yX(r:bG c W b a):(!b.isEmpty)=!a.isEmpty:=by cases r<;>rfl
theorem JL(r:RpAll c W b a):(!b.isEmpty)=!a.isEmpty:=by cases r<;>rfl
theorem MK{a:List (aR×U)}(r:bT c W b a):(!b.isEmpty)=!a.isEmpty:=by cases r<;>rfl
theorem HE{K:aV}{b:Bool}(w:WR s W S)(r:RU s W v d)(h:uh S d=Qq b):oO K v W.H b:=by
 cases r with
 |d r =>
  cases r with
  |non=>cases h;rfl
  |bl b=>cases h;rfl
  |int i=>cases h;rfl
  |str x u=>cases h;exact⟨Z9 u.1 (by decide),rfl⟩
  |tup g e l r=>cases h;exact .inr (.inl ⟨_,.of e,(JL r).symm⟩)
  | @lst _ c t g e l r=>cases h;exact .inl ⟨_,.of e,(yX r.up).symm⟩
  | @frl _ _ c t g e l r=>cases h;exact .inl ⟨_,.inl (.inr ⟨_,e⟩),(yX r.up).symm⟩
  |dct g e l r=>cases h
  |obj g e r=>cases h
 | @loc n p o =>
  have h:(match bI S n with|some q=>Qq (!q.isEmpty)|none=>match eR S n with|some m=>Qq (!m.isEmpty)|none=>Qs)=Qq b:=h;split at h
  ·next q e =>
   cases h;obtain⟨a,c,f,_,_,j,e2,k⟩:=my w (.loc o) e;cases f;exact .inl ⟨_,.of j,(yX k).symm⟩
  ·split at h
   ·next m e =>
    cases h;obtain⟨a,c,f,_,_,j,e2,k⟩:=xC w (.loc o) e;cases f;exact .inr (.inr ⟨c,j,(MK k).symm⟩)
   ·cases h
set_option tactic.hygienic true in
theorem gB(m:DE j X Z a l)(n:autoParam (∀c,isTrue a X.env c=(do let v<-c;UB a.pos;holding [v] (truthy v))) A19._auto_1):DT j X Z a (nu l):=by
 obtain⟨x,o,i⟩:=m.ex;refine .of ⟨_,L2.zV8 o n,λW S q k Q w r h=>i W S q k _ w r (PO.bind h λd s t v u g p f=>?_)⟩;unfold lI at f;split at f
 ·next b e=>exact⟨b,HE g p e,f.now g rfl⟩
 ·exact f.elim
noncomputable def jb(t:FT):FT:=λa S=>(t a S).bind λb S=>.ok (!b) S
theorem gm(h:DT c X Z a t):DT c X Z (.UnaryOp .Not a i) (jb t):=by
 obtain⟨p,g,b⟩:=h.ex;exact .of ⟨_,L2.yDf g,λW S l e Q w r h=>b W S l e _ w r (PO.bind h λd m n v o k j f=>by cases j;exact f.now k rfl)⟩
noncomputable def eJ(t u:FT):FT:=λa S=>(t a S).bind λb S=>match b with
 |true=>u a S
 |false=>.ok Qv S
noncomputable def iG(t u:FT):FT:=λa S=>(t a S).bind λb S=>match b with
 |true=>.ok Qr S
 |false=>u a S
theorem dH(h:DT e X Z a t)(f:c=.And\/c=.Or:=by first|exact .inl rfl|exact .inr rfl):DW e X Z (.BoolOp c [a] g) t:=by
 obtain⟨i,d,b⟩:=h.ex;rcases f with rfl|rfl
 ·exact .of ⟨_,L2.zZj d,b⟩
 ·exact .of ⟨_,L2.yDa d,b⟩
theorem oH{rest:List Rx}(h:DT e X Z a t)(p:DW e X Z (.BoolOp .And (b::rest) c) u):DW e X Z (.BoolOp .And (a::b::rest) c) (eJ t u):=by
 obtain⟨y,q,m⟩:=h.ex;obtain⟨z,s,n⟩:=p.ex;refine .of ⟨_,L2.yDb q s,λW S j f Q w r h=>m W S j f _ w r (PO.bind h λd k l v o i x g=>?_)⟩;cases x;cases d with
 |true=>rw[if_pos rfl];exact n l k j f _ i (r.mono o) g
 |false=>rw[if_neg Zb];exact g.now i rfl
theorem kn{rest:List Rx}(h:DT e X Z a t)(p:DW e X Z (.BoolOp .Or (b::rest) c) u):DW e X Z (.BoolOp .Or (a::b::rest) c) (iG t u):=by
 obtain⟨y,q,m⟩:=h.ex;obtain⟨z,s,n⟩:=p.ex;refine .of ⟨_,L2.pw_or q s,λW S j f Q w r h=>m W S j f _ w r (PO.bind h λd k l v o i x g=>?_)⟩;cases x;cases d with
 |true=>rw[if_pos rfl];exact g.now i rfl
 |false=>rw[if_neg Zb];exact n l k j f _ i (r.mono o) g
theorem dG(h:DW c X Z a t):DT c X Z a t:=by
 obtain⟨e,d,b⟩:=h.ex;exact .of ⟨_,L2.PW.pt d,b⟩
noncomputable def ug(c:FE):FE:=λa S=>(c a S).bind λd S=>(kj d S).bind λb S=>.ok (.d (.bl (!b))) S
theorem Gs{Z:QC->QC->Hp->Prop}(r:RU a W v d)(h:PO a (RU a) W Q Z ((kj d S).bind k)):∃b,v=.bl b/\PO a (RU a) W Q Z (k b S):=by
 cases r with
 |d r =>
  cases r with
  |bl b=>exact⟨b,rfl,h⟩
  |_=>exact h.elim
 |loc _=>exact h.elim
theorem LH(h:DE e X Z a g):DE e X Z (.UnaryOp .Not a l) (ug g):=by
 obtain⟨t,k,c⟩:=h.ex;refine .of ⟨_,L2.yDu k,λW S o f Q w r h=>c W S o f _ w r (PO.bind h λd p q v s n m i=>?_)⟩;obtain⟨b,rfl,j⟩:=Gs m i;exact⟨b,rfl,j.now n (.d (.bl _))⟩
noncomputable def sG(c e:FE):FE:=λa S=>(c a S).bind λd S=>(kj d S).bind λb S=>match b with
 |true=>e a S
 |false=>.ok (.d (.bl Qv)) S
noncomputable def Pr(fa fb:FE):FE:=λev S=>(fa ev S).bind λd S=>(kj d S).bind λb S=>match b with
 |true=>.ok (.d (.bl Qr)) S
 |false=>fb ev S
theorem jQ(h:DE c X Z a d):DE c X Z (.BoolOp g [a] f) d:=by
 obtain⟨i,e,b⟩:=h.ex;exact .of ⟨_,L2.yDs e,b⟩
theorem mY{rest:List Rx}(h:DE e X Z a q)(t:DE e X Z (.BoolOp .And (b::rest) c) s):DE e X Z (.BoolOp .And (a::b::rest) c) (sG q s):=by
 obtain⟨A,x,n⟩:=h.ex;obtain⟨B,y,o⟩:=t.ex;refine .of ⟨_,L2.yDw x y,λW S j f Q w r h=>n W S j f _ w r (PO.bind h λd l m v p i z u=>?_)⟩;obtain⟨k,rfl,g⟩:=Gs z u;refine⟨k,rfl,?_⟩;cases k with
 |true=>rw[if_pos rfl];exact o m l j f _ i (r.mono p) g
 |false=>rw[if_neg Zb];exact g.now i (.d (.bl _))
noncomputable def pD(t:FT)(c d:FE):FE:=λa S=>(t a S).bind λb S=>match b with
 |true=>c a S
 |false=>d a S
theorem u1(h:DT f X Z c t)(e:DE f X Z a q)(u:DE f X Z b s):DE f X Z (.IfExp c a b A) (pD t q s):=by
 obtain⟨G,z,p⟩:=h.ex;obtain⟨C,x,n⟩:=e.ex;obtain⟨E,y,o⟩:=u.ex;refine .of ⟨_,L2.zVi z x y,λW S i g Q w r h=>p W S i g _ w r (PO.bind h λd j k v l m B e=>?_)⟩;cases B;cases d with
 |true=>rw[if_pos rfl];exact n k j i g _ m (r.mono l) e
 |false=>rw[if_neg Zb];exact o k j i g _ m (r.mono l) e
noncomputable def aw:iu:=λ_ S=>.ok [] S
noncomputable def au(f:FE)(g:iu):iu:=λa S=>(f a S).bind λx S=>(g a S).bind λb S=>.ok (x::b) S
theorem jt:DA a X Z [] aw:=.of ⟨_,L2.zEl,λW S c b Q w r h=>h.now w .nil⟩
theorem eD(h:DE c X Z a n)(o:DA c X Z b g)(s:autoParam (Qy (a::b) X.env=(Qv,eval a X.env)::Qy b X.env) A10._auto_1):DA c X Z (a::b) (au n g):=by
 obtain⟨G,t,k⟩:=h.ex;obtain⟨H,u,l⟩:=o.ex;exact .of ⟨_,L2.zCc t u s,λW S f e Q w r h=>k W S f e _ w r (PO.bind h λd i j v m z x p=>l j i f e _ z (r.mono m) (PO.bind p λE B C I e2 A y q=>q.now A (.cons (x.mono e2) y)))⟩
noncomputable def iV(b:List U)(S:aE):aJ U:=match cj b with
 |some a=>if a.length<=LM then .ok (.d (.tup a)) S else .st
 |none=>.st
noncomputable def eU(b:List U)(S:aE):aJ U:=match cj b with
 |some a=>if a.length<=LM then .ok (.d (.lst a)) S else .st
 |none=>.st
theorem nU(h:n<=LM):n<=QG:=Z9 h (by decide)
noncomputable def dW(g:iu):FE:=λa S=>(g a S).bind iV
noncomputable def b9(g:iu):FE:=λa S=>(g a S).bind eU
noncomputable def eB(g:iu):FE:=λb S=>(g b S).bind λa S=>if a.length<=LM then .ok (.loc S.length) (S++[.lst a])else .st
set_option tactic.hygienic true in
theorem DB{Z:QC->QC->Hp->Prop}(w:WR a W S)(r:bG a W c ds)(h:PO a (RU a) W Q Z (iV ds S)):c.length<=LM/\∀p,W.H p=Qs->Q (.ref p) (upd W.H p (.tup c)):=by
 unfold iV at h;split at h
 ·next f e =>
  have r:=r.pure e;split at h
  ·next l =>
   rw[<- r.length]at l;exact⟨l,λp b=>h (W.add p (.tup c)) (.ref p) (aX.add b) (w.add b) (.d (.tup (.inr rfl) dm l (r.mono (aX.add b))))⟩
  ·exact h.elim
 ·exact h.elim
set_option tactic.hygienic true in
theorem ni{Z:QC->QC->Hp->Prop}(w:WR a W S)(r:bG a W c e)(h:PO a (RU a) W Q Z (eU e S)):c.length<=LM/\∀p,W.H p=Qs->Q (.ref p) (upd W.H p (.lst c)):=by
 unfold eU at h;split at h
 ·next g f =>
  have r:=r.pure f;split at h
  ·next l =>
   rw[<- r.length]at l;exact⟨l,λp b=>h (W.add p (.lst c)) (.ref p) (aX.add b) (w.add b) (.d (.lst (.inr rfl) dm l (r.mono (aX.add b))))⟩
  ·exact h.elim
 ·exact h.elim
theorem mP(w:WR a W S)(h:W.H p=Qs):¬W.G p:=λg=>by
 obtain⟨o,e,_⟩:=w.gd p g;rw[h]at e;cases e
theorem F4{Z:QC->QC->Hp->Prop}(w:WR c W S)(l:b.length<=LM)(r:bG c W b d)(h:PO c (RU c) W Q Z (.ok (.loc S.length) (S++[.lst d]))):∀p,W.H p=Qs->Q (.ref p) (upd W.H p (.lst b)):=λp a =>
 h (W.new p (.lst b)) (.ref p) (aX.new a) (w.new a ⟨(mP w a:¬W.G p),b,dm,l,r.mono (aX.new a)⟩) (.loc (by show(W.μ++[p])[S.length]?=Qq p;rw[<- w.len,Zm (Z3 _)];simp))
theorem me(h:DA b X Z c g):DE b X Z (.Tuple c u j) (dW g):=by
 obtain⟨t,i,a⟩:=h.ex;exact .of ⟨_,L2.yDq i,λW S n e Q w r h=>a W S n e _ w r (PO.bind h λd o p v s m k f=>let⟨l,q⟩:=DB m k f;⟨nU l,q⟩)⟩
theorem gy(h:DA b X Z c g):DE b X Z (.List c j) (b9 g):=by
 obtain⟨t,i,a⟩:=h.ex;exact .of ⟨_,L2.zY5 i,λW S n e Q w r h=>a W S n e _ w r (PO.bind h λd o p v s m k f=>let⟨l,q⟩:=ni m k f;⟨nU l,q⟩)⟩
theorem nh(h:DA e X Z f g):DE e X Z (.List f k) (eB g):=by
 obtain⟨s,j,c⟩:=h.ex;refine .of ⟨_,L2.zY5 j,λW S n i Q w r h=>c W S n i _ w r (PO.bind h λd o p v q m b a=>?_)⟩;split at a
 ·next l =>
  rw[<- b.length]at l;exact⟨nU l,F4 m l b a⟩
 ·exact a.elim
noncomputable def iQ:FE:=λ_ S=>.ok (.loc S.length) (S++[.dct []])
noncomputable def BD:FE:=λ_ S=>.ok (.d (.dct [])) S
theorem xf:DE c X Z (.Dict [] [] b) iQ:=.of ⟨_,L2.zVj,λW S e d Q w r h p a =>
 h (W.new p (.dK [])) (.ref p) (aX.new a) (w.new a ⟨(mP w a:¬W.G p),[],dm,Y1 _,.nil⟩) (.loc (by show(W.μ++[p])[S.length]?=Qq p;rw[<- w.len,Zm (Z3 _)];simp))⟩
end
noncomputable def aJ.or{a:Type}(o b:aJ a):aJ a:=match o with
 | .st=>b
 |o=>o
theorem PO.or{Q:f->Hp->Prop}{o b:aJ e}(h:PO a R W Q Z (o.or b)):PO a R W Q Z o\/PO a R W Q Z b:=by
 cases o with
 |ok d S=>exact .inl h
 |ex c S=>exact .inl h
 |st=>exact .inr h
theorem kH(z:QD):Q9 z=Qr ↔ ∀c∈z.cps.toList,c<0x110000:=by
 unfold Q9;rw[<- Array.all_toList,Zp]
 simp_all
theorem G5{x y:QD}:(x++y).cps.toList=x.cps.toList++y.cps.toList:=by
 show(Str.append x y).cps.toList=_;unfold Str.append;simp
theorem O2{x y:QD}:(x++y).length=x.length+y.length:=by
 have:∀z:QD,z.length=z.cps.toList.length:=λz=>by rfl
 rw[this,this x,this y,G5,Zh]
theorem Jl(e:dA x)(f:dA y)(h:x.length+y.length<=100000):dA (x++y):=by
 refine⟨by rw[O2];exact h,?_⟩;have b:=(kH x).mp e.2;have d:=(kH y).mp f.2;rw[kH];intro c a;rw[G5]at a;rcases QO.mp a with a|a
 ·exact b c a
 ·exact d c a
section
theorem c9.or(h:c9 e X f g)(l:c9 e X f k):c9 e X f (λa b S=>(g a b S).or (k a b S)):=by
 obtain⟨r,n,m⟩:=h.ex;obtain⟨o,d,c⟩:=l.ex;exact⟨_,dS.or n d,λW S x y a b Q Z w i j h=>h.or.elim (λh=>.inl (m W S x y a b Q Z w i j h)) λh=>.inr (c W S x y a b Q Z w i j h)⟩
noncomputable def j4(C:Int->Int->Bool)(g:Int->Int->D)(a b:U)(S:aE):aJ U:=match a,b with
 | .d (.int i),.d (.int j)=>if C i j=Qr then .ok (.d (g i j)) S else .st
 |_,_=>.st
theorem ou(w:WR e W S)(f:RU e W x a)(k:RU e W y b)(h:PO e (RU e) W Q Z (j4 C g a b S)):∃i j,x=.int i/\y=.int j/\C i j=Qr/\∀v,RU e W v (.d (g i j))->Q v W.H:=by
 cases f with
 |d f =>
  cases f with
  |int i =>
   cases k with
   |d k =>
    cases k with
    |int j =>
     have h:PO e (RU e) W Q Z (if C i j=Qr then .ok (.d (g i j)) S else .st):=h;split at h
     ·next c=>exact⟨i,j,rfl,rfl,c,λv r=>h.now w r⟩
     ·exact h.elim
    |_=>exact h.elim
   |loc _=>exact h.elim
  |_=>exact h.elim
 |loc _=>exact h.elim
noncomputable def T2(_ _:Int):Bool:=Qr
noncomputable def pH:=j4 T2 λi j=>.int (i+j)
noncomputable def i0:=j4 T2 λi j=>.int (i-j)
noncomputable def bJ(i:Int):Bool:=decide (-(2^64)<i)&&decide (i<2^64)
noncomputable def ly:=j4 (λi j=>bJ i||bJ j) λi j=>.int (i*j)
noncomputable def ie:=j4 (λ_ j=>decide (0<j)) λi j=>.int (i%j)
noncomputable def jT:=j4 (λ_ j=>decide (0<j)&&decide (j<2^64)) λi j=>.int (i/j)
theorem KS:c9 g X (Ru .Add) pH:=⟨_,I0,λW S x y a b Q Z w e f h=>let⟨i,j,c,e2,_,q⟩:=ou w e f h;⟨i,j,c,e2,q _ (.d (.int _))⟩⟩
theorem wI:c9 g X (Ru .Sub) i0:=⟨_,zY6,λW S x y a b Q Z w e f h=>let⟨i,j,c,e2,_,q⟩:=ou w e f h;⟨i,j,c,e2,q _ (.d (.int _))⟩⟩
theorem Im:c9 k X (Ru .Mult) ly:=⟨_,zY7,λW S x y a b Q Z w f g h=>by
 obtain⟨i,j,e,e2,c,q⟩:=ou w f g h;refine⟨i,j,e,e2,?_,q _ (.d (.int _))⟩;simp only[bJ,YL,Zl,decide_eq_true_eq]at c
 exact c⟩
theorem lR:c9 k X (Ru .Mod) ie:=⟨_,Jm,λW S x y a b Q Z w f g h=>let⟨i,j,e,e2,c,q⟩:=ou w f g h;⟨i,j,e,e2,of_decide_eq_true c,q _ (.d (.int _))⟩⟩
theorem uG:c9 k X (Ru .FloorDiv) jT:=⟨_,IX,λW S x y a b Q Z w f g h=>by
 obtain⟨i,j,e,e2,c,q⟩:=ou w f g h;simp at c
 exact⟨i,j,e,e2,c,q _ (.d (.int _))⟩⟩
noncomputable def GD:=j4 T2 λi j=>.bl (decide (i<j))
noncomputable def Ew:=j4 T2 λi j=>.bl (decide (i<=j))
noncomputable def k7:=j4 T2 λi j=>.bl (decide (j<i))
noncomputable def Nf:=j4 T2 λi j=>.bl (decide (j<=i))
theorem OV:c9 g X (QK .Lt) GD:=⟨_,sy,λW S x y a b Q Z w e f h=>let⟨i,j,c,e2,_,q⟩:=ou w e f h;⟨i,j,c,e2,q _ (.d (.bl _))⟩⟩
theorem oy:c9 g X (QK .LtE) Ew:=⟨_,si,λW S x y a b Q Z w e f h=>let⟨i,j,c,e2,_,q⟩:=ou w e f h;⟨i,j,c,e2,q _ (.d (.bl _))⟩⟩
theorem lP:c9 g X (QK .Gt) k7:=⟨_,uj,λW S x y a b Q Z w e f h=>let⟨i,j,c,e2,_,q⟩:=ou w e f h;⟨i,j,c,e2,q _ (.d (.bl _))⟩⟩
noncomputable def kS(a b:U)(S:aE):aJ U:=match a,b with
 | .d (.str x),.d (.str y)=>if x.length+y.length<=100000 then .ok (.d (.str (x++y))) S else .st
 |_,_=>.st
set_option tactic.hygienic true in
theorem JQ:c9 l X (Ru .Add) kS:=⟨_,PR,λW S x y a b Q Z w e f h=>by
 unfold kS at h;split at h
 ·next i j =>
  cases e with
  |d e =>
   cases e with
   |str _ g =>
    cases f with
    |d f =>
     cases f with
     |str _ k =>
      split at h
      ·next c=>exact⟨i,j,rfl,rfl,Z9 c (by decide),h.now w (.d (.str _ (Jl g k c)))⟩
      ·exact h.elim
 ·exact h.elim⟩
noncomputable def jH(a b:U)(S:aE):aJ U:=match a,b with
 | .d (.tup x),.d (.tup y)=>if x.length+y.length<=LM then .ok (.d (.tup (x++y))) S else .st
 |_,_=>.st
theorem Nm:c9 v X (Ru .Add) jH:=⟨_,Pu rfl,λW S x y a b Q Z w j k h=>by
 unfold jH at h;split at h
 ·cases j with
  |d j =>
   cases j with
   | @tup p u _ g e l r =>
    cases k with
    |d k =>
     cases k with
     | @tup t m _ o n s i =>
      split at h
      ·next c =>
       rw[<- r.length,<- i.length]at c;refine⟨p,t,u,m,rfl,rfl,.of e,.of n,nU c,λz=>?_,λ_ z=>?_,λ_ ω q f=>?_⟩
       ·subst z;cases r;exact h.now w (.d (.tup o n s i))
       ·subst z;cases i;rw[QP]at h;exact h.now w (.d (.tup g e l r))
       ·exact h (W.add q _) _ (aX.add f) (w.add f) (.d (.tup (.inr rfl) dm (by simp_all) ((r.mono (aX.add f)).append (i.mono (aX.add f)))))
      ·exact h.elim
 ·exact h.elim⟩
noncomputable def m9(a b:U)(S:aE):aJ U:=match iK S a with
 |some x=>match iK S b with
  |some y=>eU (x++y) S
  |none=>.st
 |none=>.st
set_option tactic.hygienic true in
theorem IZ:c9 r X (Ru .Add) m9:=⟨_,Pp,λW S x y a b Q Z w m n h=>by
 unfold m9 at h;split at h
 ·next t f =>
  split at h
  ·next u e2 =>
   obtain⟨p,o,rfl,g,s,j⟩:=rk w m f;obtain⟨k,e,rfl,c,i,d⟩:=rk w n e2;obtain⟨l,q⟩:=ni w (j.append d) h;exact⟨p,k,o,e,rfl,rfl,g,c,nU (by simp_all),q⟩
  ·exact h.elim
 ·exact h.elim⟩
noncomputable def cN:=λa b S=>(pH a b S).or ((kS a b S).or ((jH a b S).or (m9 a b S)))
theorem ip:c9 a X (Ru .Add) cN:=.or KS (.or JQ (.or Nm IZ))
noncomputable def lG(a b:U)(S:aE):aJ U:=match iK S a,b with
 |some x,.d (.int k)=>if -(2^63)<=k/\k<2^63/\x.length*k.toNat<=LM then eU (QE k.toNat x).flatten S else .st
 |_,_=>.st
theorem bG.rep(r:bG a W c b):∀k ,bG a W (QE k c).flatten (QE k b).flatten
 | 0=>.nil
 |k+1=>by
  rw[Y6,Y6,Yl,Yl];exact r.append (r.rep k)
set_option tactic.hygienic true in
theorem Hq:c9 n X (Ru .Mult) lG:=⟨_,OO,λW S x y a b Q Z w j e h=>by
 unfold lG at h;split at h
 ·next r k g =>
  cases e with
  |d e =>
   cases e;split at h
   ·next c =>
    obtain⟨p,m,rfl,i,o,f⟩:=rk w j g;obtain⟨l,q⟩:=ni w (f.rep k.toNat) h;exact⟨p,k,m,rfl,rfl,i,c.1,c.2.1,by rw[f.length];exact nU c.2.2,q⟩
   ·exact h.elim
 ·exact h.elim⟩
noncomputable def dI:=λa b S=>(ly a b S).or (lG a b S)
theorem l7:c9 a X (Ru .Mult) dI:=.or Im Hq
noncomputable def sN:D->D->Option Bool
 | .non,.non=>Qq Qr|.non,.int _=>Qq Qv|.int _,.non=>Qq Qv|.non,.bl _=>Qq Qv|.bl _,.non=>Qq Qv|.non,.str _=>Qq Qv|.str _,.non=>Qq Qv
 | .int i,.int j=>Qq (decide (i=j))|.bl a,.bl b=>Qq (decide (a=b))|.str x,.str y=>Qq (decide (x=y))
 | .int _,.str _=>Qq Qv|.str _,.int _=>Qq Qv|.bl _,.str _=>Qq Qv|.str _,.bl _=>Qq Qv
 |_,_=>Qs
noncomputable def nZ:U->U->Option Bool
 | .d a,.d b=>sN a b
 |_,_=>Qs
theorem DQ(c:RU f W x a)(e:RU f W y b)(h:nZ a b=Qq k):pG x y=Qr/\decide (x=y)=k:=by
 cases c with
 |d c =>
  cases e with
  |d e=>cases c<;>cases e<;>first|(cases h;done)|(cases h;exact⟨rfl,by simp⟩)
  |loc _=>cases h
 |loc _=>cases h
noncomputable def lH(o:Option Bool)(a:Bool)(S:aE):aJ U:=match o with
 |some b=>.ok (.d (.bl (XJ a b))) S
 |none=>.st
set_option tactic.hygienic true in
theorem Ep(w:WR c W S)(h:PO c (RU c) W Q Z (lH o a S)):∃b,o=Qq b/\Q (.bl (XJ a b)) W.H:=by
 unfold lH at h;split at h
 ·next b=>exact⟨b,rfl,h.now w (.d (.bl _))⟩
 ·exact h.elim
noncomputable def p5(a b:U)(S:aE):aJ U:=lH (nZ a b) Qv S
noncomputable def n6(a b:U)(S:aE):aJ U:=lH (nZ a b) Qr S
theorem Jh:c9 i X (QK .Eq) p5:=⟨_,yEh,λW S x y a b Q Z w f g h=>by
 obtain⟨k,e,q⟩:=Ep w h;obtain⟨c,d⟩:=DQ f g e;refine⟨c,?_⟩;rw[d]
 simpa using q⟩
theorem Qg:c9 i X (QK .NotEq) n6:=⟨_,uC,λW S x y a b Q Z w f g h=>by
 obtain⟨k,e,q⟩:=Ep w h;obtain⟨c,d⟩:=DQ f g e;refine⟨c,?_⟩;rw[d]
 simpa using q⟩
noncomputable def h9:U->Bool
 | .d .non=>Qr
 |_=>Qv
theorem Qk(b:RU c W x a):decide (x=.non)=h9 a:=by
 cases b with
 |d b=>cases b<;>simp[h9]
 |loc _=>simp[h9]
noncomputable def fj(c:Bool)(a b:U)(S:aE):aJ U:=match b with
 | .d .non=>.ok (.d (.bl (XJ c (h9 a)))) S
 |_=>.st
theorem FD(w:WR c W S)(g:RU c W x a)(f:RU c W y b)(h:PO c (RU c) W Q Z (fj e a b S)):y=.non/\Q (.bl (XJ e (decide (x=.non)))) W.H:=by
 unfold fj at h;split at h
 ·cases f with
  |d f=>cases f;exact⟨rfl,by rw[Qk g];exact h.now w (.d (.bl _))⟩
 ·exact h.elim
theorem qi:c9 f X (QK .Is) (fj Qv):=⟨_,Ql,λW S x y a b Q Z w c d h=>let⟨e,q⟩:=FD w c d h;⟨e,by simpa using q⟩⟩
theorem wL:c9 f X (QK .IsNot) (fj Qr):=⟨_,IC,λW S x y a b Q Z w c d h=>let⟨e,q⟩:=FD w c d h;⟨e,by simpa using q⟩⟩
end
mutual
noncomputable def gX:D->Option SR
 | .non=>Qq .none
 | .bl b=>Qq (.bool b)
 | .int i=>Qq (.int i)
 | .str x=>Qq (.str x)
 | .tup xs=>(toPs xs).map .tuple
 | .lst xs=>(toPs xs).map .list
 | .frl xs=>(toPs xs).map .list
 | .dct _=>Qs
 | .obj _ _=>Qs
noncomputable def toPs:List D->Option (List SR)
 |[]=>Qq []
 |x::xs=>match gX x with
  |some p=>(toPs xs).map (p::·)
  |none=>Qs
end
noncomputable def f5(S:aE):U->Option SR
 | .loc n=>match bI S n with
  |some b=>match cj b with
   |some a=>(toPs a).map .list
   |none=>Qs
  |none=>Qs
 | .d x=>gX x
section
mutual
theorem Rp.reads(I:aD X pins σ W.H s):∀ {v:V}{d:D}{p:SR}{u:Qz},Rp cl W v d->gX d=Qq p->aM v u->(∃as,Reads s.heap u p as)/\p.canLay0=Qr
 |_,_,p,u,.non,h,r=>by cases h;cases (show u=R6 from r);exact⟨⟨_,.none⟩,rfl⟩
 |_,_,p,u,.bl b,h,r=>by cases h;cases (show u=V7 b from r);exact⟨⟨_,.bool b⟩,rfl⟩
 |_,_,p,u,.int i,h,r=>by cases h;obtain⟨t,rfl⟩:=(show ∃t,u=T5 i t from r);exact⟨⟨_,.int i t⟩,rfl⟩
 |_,_,p,u,.str x hx,h,r=>by cases h;obtain⟨t,rfl⟩:=(show ∃t,u=Rl x t from r);exact⟨⟨_,.str x t⟩,hx.2⟩
 |_,_,p,u,.tup (a:=a) (ds:=ds) g e l q,h,r=>by
  cases (show u=QV a from r);obtain⟨ps,e1,rfl⟩:=QA.mp (show(toPs ds).map SB=Qq p from h);obtain⟨_,its,rv,⟨o,eo,c,n,d⟩⟩:=I.hok a _ e;obtain⟨⟨as,ra⟩,lay⟩:=RpAll.reads I q e1 rv;exact⟨⟨_,.tuple eo c d (by simpa using ra)⟩,lay⟩
 |_,_,p,u,.lst (a:=a) (ds:=ds) g e l q,h,r=>by
  cases (show u=QV a from r);obtain⟨ps,e1,rfl⟩:=QA.mp (show(toPs ds).map RV=Qq p from h);obtain⟨_,its,n,rv,eo⟩:=I.hok a _ e;obtain⟨⟨as,ra⟩,lay⟩:=RpAll.reads I q e1 rv;exact⟨⟨_,.list eo rfl rfl (by simpa using ra)⟩,lay⟩
 |_,_,p,u,.frl (a:=a) (ds:=ds) (vs:=vs) g e l q,h,r=>by
  cases (show u=QV a from r);obtain⟨ps,e1,rfl⟩:=QA.mp (show(toPs ds).map RV=Qq p from h);obtain⟨_,its,n,rv,eo⟩:=(show Rd W.H a (.lst vs)from .inr ⟨_,e⟩).ok I.hok;obtain⟨⟨as,ra⟩,lay⟩:=RpAll.reads I q e1 rv;exact⟨⟨_,.list eo rfl rfl (by simpa using ra)⟩,lay⟩
 |_,_,p,u,.dct _ _ _ _,h,r=>by cases h
 |_,_,p,u,.obj _ _ _,h,r=>by cases h
theorem RpAll.reads(I:aD X pins σ W.H s):∀ {vs:List V}{ds:List D}{ps:List SR}{us:List Qz},RpAll cl W vs ds->toPs ds=Qq ps->aG vs us->(∃as,ReadsAll s.heap us ps as)/\Xq ps=Qr
 |_,_,ps,us,.nil,h,r=>by
  cases h;cases r;exact⟨⟨_,.nil⟩,rfl⟩
 |_,_,ps,us,.cons (d:=d) (ds:=ds) q t,h,r=>by
  have h:(match gX d with|some p=>(toPs ds).map (p::·)|none=>Qs)=Qq ps:=h;split at h
  ·next p ep =>
   obtain⟨qs,e1,rfl⟩:=QA.mp h;cases r with
   |cons r1 r2 =>
    obtain⟨⟨as,ra⟩,l1⟩:=Rp.reads I q ep r1;obtain⟨⟨bs,rb⟩,l2⟩:=RpAll.reads I t e1 r2;refine⟨⟨_,.cons ra rb⟩,?_⟩;show(PyData.canLay0 _&&Xq _)=Qr;rw[l1,l2];rfl
  ·cases h
end
set_option tactic.hygienic true in
theorem dM(I:aD X g G W.H s)(w:WR j W S)(h:RU j W v d)(e:f5 S d=Qq p)(r:aM v u):(∃c,Reads s.heap u p c)/\p.canLay0=Qr:=by
 cases d with
 |loc n =>
  have e:(match bI S n with|some i=>(match cj i with|some f=>(toPs f).map RV|none=>Qs)|none=>Qs)=Qq p:=e;split at e
  ·next i o =>
   split at e
   ·next f m =>
    obtain⟨a,E,rfl,_,_,q,B,t⟩:=my w h o;obtain⟨C,k,rfl⟩:=QA.mp e;cases (r);obtain⟨_,y,n,A,l⟩:=I.hok a _ q;obtain⟨⟨c,z⟩,b⟩:=RpAll.reads I (t.pure m) k A;exact⟨⟨_,.list l rfl rfl (by simpa using z)⟩,b⟩
   ·cases e
  ·cases e
 |d x =>
  cases h with
  |d h=>exact Rp.reads I h e r
noncomputable def lb(c:Bool)(a b:U)(S:aE):aJ U:=match f5 S a,f5 S b with
 |some p,Qq q=>if p.depth<=60/\q.depth<=60 then .ok (.d (.bl (XJ c (Q5 p q)))) S else .st
 |_,_=>.st
set_option tactic.hygienic true in
theorem GC{x y:V}(w:WR f W S)(h:PO f (RU f) W Q Z (lb e a b S)):∃p q,f5 S a=Qq p/\f5 S b=Qq q/\p.depth<=60/\q.depth<=60/\Q (.bl (XJ e (Q5 p q))) W.H:=by
 unfold lb at h;split at h
 ·next p q g e2 =>
  split at h
  ·next c=>exact⟨p,q,g,e2,c.1,c.2,h.now w (.d (.bl _))⟩
  ·exact h.elim
 ·exact h.elim
noncomputable def rP(c:Cl)(g:SR->SR->Bool):L2.R2:=λx y H Q=>∃W S a b p q,W.H=H/\WR c W S/\RU c W x a/\RU c W y b/\f5 S a=Qq p/\f5 S b=Qq q/\p.depth<=60/\q.depth<=60/\Q (.bl (g p q)) H
theorem qo(l:p.canLay0=Qr)(h:p.depth<=60):ZC p=Qr:=by
 unfold ZC;rw[l,decide_eq_true (Z9 h (by decide))];rfl
theorem KO(g:X.A.units+64<Rq):dS X (QK .Eq) (rP z λp q=>Q5 p q):=by
 intro c s A H x y u v Q I n o h;obtain⟨W,S,a,b,p,q,rfl,w,l,m,d,e2,d1,d2,k⟩:=h;obtain⟨⟨r,e⟩,i⟩:=dM I w l d n;obtain⟨⟨t,f⟩,j⟩:=dM I w m e2 o;exact eq_dataH e f (qo i d1) (qo j d2) g ⟨.bl _,_,I,rfl,k⟩
theorem O3(g:X.A.units+64<Rq):dS X (QK .NotEq) (rP z λp q=>!PyData.eqv p q):=by
 intro c s A H x y u v Q I n o h;obtain⟨W,S,a,b,p,q,rfl,w,l,m,d,e2,d1,d2,k⟩:=h;obtain⟨⟨r,e⟩,i⟩:=dM I w l d n;obtain⟨⟨t,f⟩,j⟩:=dM I w m e2 o;exact ne_dataH e f (qo i d1) (qo j d2) g ⟨.bl _,_,I,rfl,k⟩
theorem IR(d:X.A.units+64<Rq):c9 i X (QK .Eq) (lb Qv):=⟨_,KO d,λW S x y a b Q Z w f g h=>by
 obtain⟨p,q,c,e2,d1,d2,e⟩:=GC (x:=x) (y:=y) w h
 exact⟨W,S,a,b,p,q,rfl,w,f,g,c,e2,d1,d2,by simpa using e⟩⟩
theorem LL(d:X.A.units+64<Rq):c9 i X (QK .NotEq) (lb Qr):=⟨_,O3 d,λW S x y a b Q Z w f g h=>by
 obtain⟨p,q,c,e2,d1,d2,e⟩:=GC (x:=x) (y:=y) w h
 exact⟨W,S,a,b,p,q,rfl,w,f,g,c,e2,d1,d2,by simpa using e⟩⟩
noncomputable def uu:=λa b S=>(p5 a b S).or (lb Qv a b S)
noncomputable def pd:=λa b S=>(n6 a b S).or (lb Qr a b S)
theorem N1(a:X.A.units+64<Rq):c9 b X (QK .Eq) uu:=.or Jh (IR a)
theorem L6(a:X.A.units+64<Rq):c9 b X (QK .NotEq) pd:=.or Qg (LL a)
noncomputable def jX:SR->Option (List SR)
 | .list a=>Qq a
 | .tuple a=>Qq a
 |_=>Qs
noncomputable def kq(c:Bool)(a b:U)(S:aE):aJ U:=match f5 S a,f5 S b with
 |some p,Qq q=>match jX q with
  |some e=>if p.depth<=60/\q.depth<=60 then .ok (.d (.bl (XJ c (e.any λy=>Q5 y p)))) S else .st
  |none=>.st
 |_,_=>.st
theorem Qo(n:X.A.in1.units+64<Rq):dS X (QK .In) (λx y H Q=>∃W S a b p q c,W.H=H/\WR e W S/\RU e W x a/\RU e W y b/\f5 S a=Qq p/\f5 S b=Qq q/\p.depth<=60/\jX q=Qq c/\Q (.bl (c.any λy=>Q5 y p)) H):=by
 intro k s G H x y u v Q I z A h;obtain⟨W,S,a,b,p,q,c,rfl,w,r,t,m,e2,d1,d,l⟩:=h;obtain⟨⟨C,f⟩,i⟩:=dM I w r m z;obtain⟨⟨E,g⟩,j⟩:=dM I w t e2 A;have o:X.A.units+1+64<Rq:=n;cases q with
 |list B =>
  cases d;exact SeqAt.in_list_reads g f j i (by have:=Tw (Q4 c) p.depth;omega) ⟨.bl _,_,I,rfl,l⟩
 |tuple B =>
  cases d;exact SeqAt.in_tuple_reads g f j i (by have:=Tw (Q4 c) p.depth;omega) ⟨.bl _,_,I,rfl,l⟩
 |_=>cases d
theorem J1(n:X.A.in1.units+64<Rq):dS X (QK .NotIn) (λx y H Q=>∃W S a b p q c,W.H=H/\WR e W S/\RU e W x a/\RU e W y b/\f5 S a=Qq p/\f5 S b=Qq q/\p.depth<=60/\jX q=Qq c/\Q (.bl (!c.any λy=>Q5 y p)) H):=by
 intro k s G H x y u v Q I z A h;obtain⟨W,S,a,b,p,q,c,rfl,w,r,t,m,e2,d1,d,l⟩:=h;obtain⟨⟨C,f⟩,i⟩:=dM I w r m z;obtain⟨⟨E,g⟩,j⟩:=dM I w t e2 A;have o:X.A.units+1+64<Rq:=n;cases q with
 |list B =>
  cases d;exact SeqAt.notIn_list_reads g f j i (by have:=Tw (Q4 c) p.depth;omega) ⟨.bl _,_,I,rfl,l⟩
 |tuple B =>
  cases d;exact SeqAt.notIn_tuple_reads g f j i (by have:=Tw (Q4 c) p.depth;omega) ⟨.bl _,_,I,rfl,l⟩
 |_=>cases d
set_option tactic.hygienic true in
theorem FY(w:WR g W S)(h:PO g (RU g) W Q Z (kq f a b S)):∃p q e,f5 S a=Qq p/\f5 S b=Qq q/\p.depth<=60/\jX q=Qq e/\Q (.bl (XJ f (e.any λy=>Q5 y p))) W.H:=by
 unfold kq at h;split at h
 ·next p q i e2 =>
  split at h
  ·next e j =>
   split at h
   ·next c=>exact⟨p,q,e,i,e2,c.1,j,h.now w (.d (.bl _))⟩
   ·exact h.elim
  ·exact h.elim
 ·exact h.elim
theorem Mj(e:X.A.in1.units+64<Rq):c9 k X (QK .In) (kq Qv):=⟨_,Qo e,λW S x y a b Q Z w i j h=>by
 obtain⟨p,q,g,c,e2,d1,d,f⟩:=FY w h
 exact⟨W,S,a,b,p,q,g,rfl,w,i,j,c,e2,d1,d,by simpa using f⟩⟩
theorem Jq(e:X.A.in1.units+64<Rq):c9 k X (QK .NotIn) (kq Qr):=⟨_,J1 e,λW S x y a b Q Z w i j h=>by
 obtain⟨p,q,g,c,e2,d1,d,f⟩:=FY w h
 exact⟨W,S,a,b,p,q,g,rfl,w,i,j,c,e2,d1,d,by simpa using f⟩⟩
noncomputable def l0(c:Bool)(a b:U)(S:aE):aJ U:=match a,b with
 | .d (.str i),.d (.str j)=>.ok (.d (.bl (XJ c (!(QR j i 0 j.length 1).isEmpty)))) S
 |_,_=>.st
theorem Cd(w:WR c W S)(f:RU c W x a)(g:RU c W y b)(h:PO c (RU c) W Q Z (l0 e a b S)):∃i j,x=.str i/\y=.str j/\Q (.bl (XJ e (!(QR j i 0 j.length 1).isEmpty))) W.H:=by
 unfold l0 at h;split at h
 ·cases f with
  |d f =>
   cases f;cases g with
   |d g =>
    cases g;exact⟨_,_,rfl,rfl,h.now w (.d (.bl _))⟩
 ·exact h.elim
theorem Mz:c9 f X (QK .In) (l0 Qv):=⟨_,JU,λW S x y a b Q Z w d e h=>let⟨i,j,c,e2,q⟩:=Cd w d e h;⟨i,j,c,e2,by simpa using q⟩⟩
theorem Ih:c9 f X (QK .NotIn) (l0 Qr):=⟨_,Pi,λW S x y a b Q Z w d e h=>let⟨i,j,c,e2,q⟩:=Cd w d e h;⟨i,j,c,e2,by simpa using q⟩⟩
noncomputable def fU:U->Option aR
 | .d (.int i)=>Qq (.inl i)
 | .d (.str x)=>Qq (.inr x)
 |_=>Qs
theorem kY(r:RU a W v d)(h:fU d=Qq k):v=kV k:=by
 cases r with
 |d r=>cases r<;>first|(cases h;done)|(cases h;rfl)
 |loc _=>cases h
noncomputable def lg(c:Bool)(a b:U)(S:aE):aJ U:=match fU a,bK S b with
 |some k,Qq e=>.ok (.d (.bl (XJ c (b6 e k).isSome))) S
 |_,_=>.st
theorem AD(r:Rd W.H a (.dK b))(q:bT c W b d):∃o,fE W.H a (kV k) o/\(match b6 d k with|some x=>∃v,o=Qq v/\RU c W v x|none=>o=Qs):=⟨du b k,.inl ⟨b,k,r,rfl,rfl⟩,q.val⟩
theorem Oz(d:X.A.units+1<Rq):dS X (QK .In) (λy x H Q=>∃a o,x=.ref a/\fE H a y o/\Q (.bl o.isSome) H):=by
 intro b s k H y x i u Q I f e h;obtain⟨a,o,rfl,g,q⟩:=h;obtain rfl:u=QV a:=e;exact Bp d I g f λj c=>⟨.bl o.isSome,H,c,rfl,q⟩
theorem HM(d:X.A.units+1<Rq):dS X (QK .NotIn) (λy x H Q=>∃a o,x=.ref a/\fE H a y o/\Q (.bl (!o.isSome)) H):=by
 intro b s k H y x i u Q I f e h;obtain⟨a,o,rfl,g,q⟩:=h;obtain rfl:u=QV a:=e;exact LQ d I g f λj c=>⟨.bl (!o.isSome),H,c,rfl,q⟩
set_option tactic.hygienic true in
theorem F5(w:WR c W S)(q:RU c W x a)(r:RU c W y b)(h:PO c (RU c) W Q Z (lg f a b S)):∃p o,y=.ref p/\fE W.H p x o/\Q (.bl (XJ f o.isSome)) W.H:=by
 unfold lg at h;split at h
 ·next k j i e2 =>
  obtain⟨p,t,rfl,l,s,n⟩:=kE w r e2;obtain⟨o,g,m⟩:=AD l n;refine⟨p,o,rfl,by rw[kY q i];exact g,?_⟩;have:o.isSome=(b6 j k).isSome:=by
   split at m
   ·next x e=>obtain⟨v,rfl,_⟩:=m;rw[e];rfl
   ·simp_all
  rw[this];exact h.now w (.d (.bl _))
 ·exact h.elim
theorem LW(c:X.A.units+1<Rq):c9 i X (QK .In) (lg Qv):=⟨_,Oz c,λW S x y a b Q Z w d f h=>let⟨p,o,e,g,q⟩:=F5 w d f h;⟨p,o,e,g,by simpa using q⟩⟩
theorem Kg(c:X.A.units+1<Rq):c9 i X (QK .NotIn) (lg Qr):=⟨_,HM c,λW S x y a b Q Z w d f h=>let⟨p,o,e,g,q⟩:=F5 w d f h;⟨p,o,e,g,by simpa using q⟩⟩
noncomputable def jx:=λa b S=>(l0 Qv a b S).or ((lg Qv a b S).or (kq Qv a b S))
noncomputable def kC:=λa b S=>(l0 Qr a b S).or ((lg Qr a b S).or (kq Qr a b S))
theorem NU(a:X.A.in1.units+64<Rq):c9 b X (QK .In) jx:=.or Mz (.or (LW (by have:X.A.units+1+64<Rq:=a;omega)) (Mj a))
theorem IJ(a:X.A.in1.units+64<Rq):c9 b X (QK .NotIn) kC:=.or Ih (.or (Kg (by have:X.A.units+1+64<Rq:=a;omega)) (Jq a))
end
noncomputable abbrev kI:=List (QD×List QD)
noncomputable def lC(a:kI)(c f:QD):Bool:=match a.lookup c with
 |some b=>b.contains f
 |none=>Qv
structure kM(K:aV)(cl:Cl)(ct:kI):Prop where
 fl:∀c f,lC ct c f=Qr->jB K (cl c)/\dO K (cl c) f
noncomputable def bR(a:kI)(f:QD)(d:U)(S:aE):aJ U:=match fW S d with
 |some (c,b)=>if lC a c f=Qr then match b.lookup f with
  |some x=>.ok x S
  |none=>.st
  else .st
 |none=>.st
section
set_option tactic.hygienic true in
theorem Nl(T:kM X.K g k)(y:DE g X Z a fa)(z:autoParam (Q6 a f X.env (eval a X.env)=eval a X.env) A10._auto_1):DE g X Z (.Attribute a f G) (d1 (bR k f) fa):=by
 obtain⟨O,E,j⟩:=y.ex;refine .of ⟨_,L2.yDv E z,λW S I m Q w r h=>j W S I m _ w r (PO.bind h λd J L v M i H b=>?_)⟩;unfold bR at b;split at b
 ·next c N e =>
  obtain⟨p,l,o,rfl,q,s⟩:=uw i H e;split at b
  ·next A =>
   split at b
   ·next x n =>
    obtain⟨v,t,u⟩:=s.look n;obtain⟨B,C⟩:=T.fl c f A;exact⟨p,_,l,o,v,rfl,q,B,C,t,b.now i u⟩
   ·exact b.elim
  ·exact b.elim
 ·exact b.elim
theorem yZ:100000<=QG:=by decide
theorem jN.or(h:jN X r)(g:jN X i):jN X (λx y H Q=>r x y H Q\/i x y H Q):=λb a c s f H x y v u Q I d e q=>q.elim (h b a c s f H x y v u Q I d e) (g b a c s f H x y v u Q I d e)
theorem KJ(i:X.A.units+1<Rq):jN X (λx y H Q=>∃p v,x=.ref p/\fE H p y (Qq v)/\Q v H):=by
 intro c b d s n H x y v u Q I j k h f;obtain⟨p,z,rfl,g,q⟩:=h;obtain rfl:v=QV p:=j;exact V4 (Mb I g) V1.lookup (LD i I g k λm l e a=>⟨z,H,e,a,q⟩) f
noncomputable def bF(a b:U)(S:aE):aJ U:=match bK S a with
 |some e=>match fU b with
  |some k=>match b6 e k with
   |some x=>.ok x S
   |none=>.st
  |none=>.st
 |none=>match b with
  | .d (.int i)=>match a with
   | .d (.tup c)=>match fM c i with
    |some x=>.ok (.d x) S
    |none=>.st
   | .d (.str z)=>match fM z.cps.toList i with
    |some k=>.ok (.d (.str ⟨#[k]⟩)) S
    |none=>.st
   |a=>match b0 S a with
    |some c=>match fM c i with
     |some x=>.ok x S
     |none=>.st
    |none=>.st
  |_=>.st
theorem LV(r:RpAll b W c a)(h:fM a i=Qq x):∃v,fM c i=Qq v/\Rp b W v x:=by
 unfold fM at h ⊢;rw[r.length];cases e:iS a.length i with
 |none=>rw[e]at h;cases h
 |some j=>rw[e]at h;exact r.get h
theorem tw(r:bG b W c a)(h:fM a i=Qq x):∃v,fM c i=Qq v/\RU b W v x:=by
 unfold fM at h ⊢;rw[r.length];cases e:iS a.length i with
 |none=>rw[e]at h;cases h
 |some j=>rw[e]at h;exact r.get h
theorem LJ(b:dA z)(h:fM z.cps.toList i=Qq k):dA ⟨#[k]⟩:=by
 refine⟨by show 1<=100000;decide,?_⟩;rw[kH];intro c a;have a:c=k:=by simpa using a
 rw[a];unfold fM at h;cases e:iS z.cps.toList.length i with
 |none=>rw[e]at h;cases h
 |some j=>rw[e]at h;exact(kH z).mp b.2 k (Ze h)
set_option tactic.hygienic true in
theorem cP(hu:X.A.units+1<Rq)(ha:DE t X Z a fa)(hb:DE t X Z b fb)(hs:kh b:=by exact λ_ ω=>rfl):DE t X Z (.Subscript a b aa) (d2 bF fa fb):=by
 obtain⟨ta,pa,T⟩:=ha.ex;obtain⟨tb,pb,Y⟩:=hb.ex;refine .of ⟨_,L2.yA1 (jN.or (KJ hu) Pz) pa pb hs,λW S I M Q w r h=>T W S I M _ w r (PO.bind h λx P R v e1 w1 e h1=>Y R P I M _ w1 (r.mono e1) (PO.bind h1 λy J L u e2 f B c=>?_))⟩;have e:=e.mono e2;unfold bF at c;split at c
 ·next es ed =>
  split at c
  ·next k A =>
   split at c
   ·next z l =>
    obtain⟨p,C,rfl,n,N,s⟩:=kE f e ed;obtain⟨o,g,m⟩:=AD n s;rw[l]at m;obtain⟨q,rfl,rq⟩:=m;rw[<- kY B A]at g;exact .inl ⟨p,q,rfl,g,c.now f rq⟩
   ·exact c.elim
  ·exact c.elim
 ·split at c
  ·next i =>
   cases B with
   |d B =>
   cases B;have go:∀j,b0 J x=Qq j->PO t (RU t) L Q (Z I) (match fM j i with|some x=>.ok x J|none=>.st)->Es X.K v (.int i) L.H Q:=λj E h=>by
    obtain⟨p,C,rfl,n,N,s⟩:=jj f e E;split at h
    ·next z l =>
     obtain⟨q,G,H⟩:=tw s l;exact .inl ⟨p,C,i,q,rfl,rfl,n,G,h.now f H⟩
    ·exact h.elim
   refine .inr ?_;split at c
   ·next xs =>
    obtain⟨p,C,rfl,n,N,s⟩:=qk (K:=X.K) e;split at c
    ·next z l =>
     obtain⟨q,G,H⟩:=LV s l;exact .inr (.inl ⟨p,C,i,q,rfl,rfl,n,G,c.now f (.d H)⟩)
    ·exact c.elim
   ·cases e with
    |d e =>
    cases e with
    |str _ O =>
     split at c
     ·next k A=>exact .inr (.inr ⟨_,i,k,rfl,rfl,Z9 O.1 yZ,A,c.now f (.d (.str _ (LJ O A)))⟩)
     ·exact c.elim
   ·split at c
    ·next j E=>exact go j E c
    ·exact c.elim
  ·exact c.elim
noncomputable abbrev FO:=Ev->aE->aJ (Option Int)
noncomputable def RO(_:Wo)(a b:Option Int):Prop:=a=b
structure DO(cl:Cl)(X:Cx)(Z:TZ)(e:Option Rx)(f:FO):Prop where
 pe:L2.PO X e (tF cl RO Z f)
theorem DO.of(h:∃t,L2.PO X e t/\∀  W   S   a   d   Q ,WR g W S->ER g W a d->PO g RO W Q (Z a) (f d S)->t a W.H Q):DO g X Z e f:=by
 obtain⟨t,p,c⟩:=h;exact⟨λb s a H Q I ⟨W,S,d,e,w,r,h⟩=>p b s a H Q I (by rw[<- e];exact c W S a d Q w r h)⟩
theorem DO.ex(h:DO c X Z e f):∃t,L2.PO X e t/\∀  W   S   b   a   Q ,WR c W S->ER c W b a->PO c RO W Q (Z b) (f a S)->t b W.H Q:=⟨_,h.pe,λW S b a Q w r h=>⟨W,S,a,rfl,w,r,h⟩⟩
noncomputable def jy:FO:=λ_ S=>.ok Qs S
noncomputable def jz(fa:FE):FO:=λa S=>(fa a S).bind λd S=>match d with
 | .d (.int i)=>.ok (Qq i) S
 |_=>.st
theorem pL:DO a X Z Qs jy:=.of ⟨_,L2.zZt,λW S c b Q w r h=>h.now w rfl⟩
theorem pz(k:DE f X Z a j):DO f X Z (Qq a) (jz j):=by
 obtain⟨s,l,e⟩:=k.ex;refine .of ⟨_,L2.zZs l,λW S n g Q w r h=>e W S n g _ w r (PO.bind h λd o p v q m c b=>?_)⟩;split at b
 ·next i =>
  cases c with
  |d c=>cases c;exact⟨i,rfl,b.now m rfl⟩
 ·exact b.elim
noncomputable def eN{b:Type}(a:List b)(lo c:Option Int):List b:=(a.drop (HT.sIx a.length 0 lo)).take (HT.sIx a.length a.length c-HT.sIx a.length 0 lo)
noncomputable def ot(n:Nat)(lo a:Option Int):Bool:=decide (HT.sIx n 0 lo=0)&&decide (HT.sIx n n a=n)
noncomputable def o6(a:U)(lo b:Option Int)(S:aE):aJ U:=match a with
 | .d (.tup c)=>if ot c.length lo b=Qr then .st else .ok (.d (.tup (eN c lo b))) S
 | .d (.str z)=>.ok (.d (.str (Sf z lo b))) S
 |a=>match b0 S a with
  |some c=>eU (eN c lo b) S
  |none=>.st
theorem K8{lo a:Option Int}(r:RpAll b W d c):RpAll b W (je d lo a) (eN c lo a):=by
 unfold je eN;rw[r.length];exact(r.drop _).take _
theorem vZ{lo a:Option Int}(r:bG b W d c):bG b W (je d lo a) (eN c lo a):=by
 unfold je eN;rw[r.length];exact(r.drop _).take _
theorem Ir{lo hi:Option Int}:(Sf z lo hi).length<=z.length/\∀c∈(Sf z lo hi).cps.toList,c∈z.cps.toList:=by
 unfold Sf;split
 ·exact⟨Z3 _,λc h=>h⟩
 ·constructor
  ·show(((Builtin.Str.strSliceIndices lo hi 1 z.length).filterMap (z.cps[·]?)).toArray).size<=z.length;rw[Zn];exact Z9 (List.length_filterMap_le _ _) (sliceIndices_le lo hi z.length)
  ·intro c a;obtain⟨i,_,e⟩:=Vn.mp a;exact Xd.mpr (Array.mem_of_getElem? e)
theorem PQ{lo hi:Option Int}(h:dA z):dA (Sf z lo hi):=by
 obtain⟨a,b⟩:=Ir (hi:=hi);exact⟨Z9 a h.1,(kH _).mpr λc d=>(kH z).mp h.2 c (b c d)⟩
noncomputable def ju(fa:FE)(c b:FO):FE:=λa S=>(fa a S).bind λx S=>(c a S).bind λl S=>(b a S).bind λu S=>o6 x l u S
theorem pM{lo y:Option Rx}(ha:DE g X Z a O)(hl:DO g X Z lo R)(hh:DO g X Z y P):DE g X Z (.Subscript a (.Slice lo y Qs p2) aa) (ju O R P):=by
 obtain⟨ta,pa,L⟩:=ha.ex;obtain⟨tl,pl,I⟩:=hl.ex;obtain⟨th,ph,J⟩:=hh.ex;refine .of ⟨_,L2.zVe (md.or LA (md.or Qb Ng)) pa pl ph,λW S o i Q w r h=>L W S o i _ w r (PO.bind h λx B E v s w1 c T=>I E B o i _ w1 (r.mono s) (PO.bind T λl C G l' e2 w2 r2 Y=>J G C o i _ w2 ((r.mono s).mono e2) (PO.bind Y λu S3 H u' M f m b=>?_)))⟩;have m:=m;subst r2 m;have c:=(c.mono e2).mono M;unfold o6 at b;split at b
 ·next xs =>
  obtain⟨p,n,rfl,j,t,e⟩:=qk c;split at b
  ·exact b.elim
  ·next hw =>
   refine .inl ⟨p,n,rfl,j,λz=>hw ?_,λq k=>b (H.add q _) _ (aX.add k) (f.add k) (.d (.tup (.inr rfl) dm (Z9 (Bc _ _ _) t) ((K8 e).mono (aX.add k))))⟩;rw[e.length]at z;unfold ot
   simp_all
 ·cases c with
  |d c =>
  cases c with
  |str _ A=>exact .inr (.inr ⟨_,rfl,Z9 A.1 yZ,b.now f (.d (.str _ (PQ A)))⟩)
 ·split at b
  ·next xs N =>
   obtain⟨p,n,rfl,j,t,e⟩:=jj f c N;exact .inr (.inl ⟨p,n,rfl,j,(ni f (vZ e) b).2⟩)
  ·exact b.elim
structure bV(cl:Cl)(X:Cx)(f:Qz)(g:List U->aE->aJ U):Prop where
 ex:∃r,bL X f r/\∀W S xs ds (Q:VK) Z,WR cl W S->bG cl W xs ds->PO cl (RU cl) W Q Z (g ds S)->r xs W.H Q
theorem bL.or(h:bL X f r)(g:bL X f i):bL X f (λb H Q=>r b H Q\/i b H Q):=λa s e H b d Q I c q=>q.elim (h a s e H b d Q I c) (g a s e H b d Q I c)
theorem bV.or(h:bV d X f g)(l:bV d X f k):bV d X f (λa S=>(g a S).or (k a S)):=by
 obtain⟨r,n,m⟩:=h.ex;obtain⟨o,c,b⟩:=l.ex;exact⟨_,bL.or n c,λW S j e Q Z w i h=>h.or.elim (λh=>.inl (m W S j e Q Z w i h)) λh=>.inr (b W S j e Q Z w i h)⟩
noncomputable def bQ(g:List U->aE->aJ U)(b:iu):FE:=λa S=>(b a S).bind g
theorem Ob{id:String}(o:bV j X (.builtin id) g)(v:X.mg x=Qs)(A:RN x=Qq (.builtin id))(h:DA j X Z (e::a) f)(u:autoParam (Gl X x) A10._auto_1)(y:autoParam (x≠"__name__") A11._auto_1)(b:autoParam ((x==("__debug__"))=Qv) A11._auto_1)
 (t:autoParam (Qy (e::a) X.env=(Qv,eval e X.env)::Qy a X.env) A10._auto_1) (d:autoParam ((Rc i (Qy a X.env)).any (·.1)=Qv) A10._auto_1):DE j X Z (.Call (.Name x p) (e::a) [] i) (bQ g f):=by
 obtain⟨r,z,c⟩:=o.ex;obtain⟨J,B,m⟩:=h.ex;exact .of ⟨_,L2.zCp z u v A B y b t d,λW S H q Q w r h=>m W S H q _ w r (PO.bind h λn k l E I G C s=>c l k E n Q _ G C s)⟩
theorem Io(o:bV j X (.type T) g)(v:X.mg x=Qs)(A:RN x=Qq (.type T))(h:DA j X Z (e::a) f)(u:autoParam (Gl X x) A10._auto_1)(y:autoParam (x≠"__name__") A11._auto_1)(b:autoParam ((x==("__debug__"))=Qv) A11._auto_1)
 (t:autoParam (Qy (e::a) X.env=(Qv,eval e X.env)::Qy a X.env) A10._auto_1) (d:autoParam ((Rc i (Qy a X.env)).any (·.1)=Qv) A10._auto_1):DE j X Z (.Call (.Name x p) (e::a) [] i) (bQ g f):=by
 obtain⟨r,z,c⟩:=o.ex;obtain⟨J,B,m⟩:=h.ex;exact .of ⟨_,L2.zHb z u v A B y b t d,λW S H q Q w r h=>m W S H q _ w r (PO.bind h λn k l E I G C s=>c l k E n Q _ G C s)⟩
theorem bG.one(r:bG a W b [d]):∃v,b=[v]/\RU a W v d:=by
 cases r with
 |cons r t=>cases t;exact⟨_,rfl,r⟩
noncomputable def mV:List U->aE->aJ U
 |[.d (.str x)],S=>.ok (.d (.int x.length)) S
 |_,_=>.st
noncomputable def lN:List U->aE->aJ U
 |[.d (.tup a)],S=>.ok (.d (.int a.length)) S
 |[d],S=>match b0 S d with
  |some a=>.ok (.d (.int a.length)) S
  |none=>.st
 |_,_=>.st
noncomputable def nM:List U->aE->aJ U
 |[d],S=>match bK S d with
  |some a=>.ok (.d (.int a.length)) S
  |none=>.st
 |_,_=>.st
set_option tactic.hygienic true in
theorem ME:bV c X (.builtin "len") mV:=⟨_,MZ,λW S f e Q Z w r h=>by
 unfold mV at h;split at h
 ·next x =>
  obtain⟨v,rfl,a⟩:=r.one;cases a with
  |d a =>
  cases a with
  |str _ b=>exact⟨_,rfl,Z9 b.1 yZ,h.now w (.d (.int _))⟩
 ·exact h.elim⟩
set_option tactic.hygienic true in
theorem KH:bV j X (.builtin "len") lN:=⟨_,Nh,λW S i k Q Z w r h=>by
 unfold lN at h;split at h
 ·next i =>
  obtain⟨v,rfl,c⟩:=r.one;obtain⟨p,f,rfl,a,g,b⟩:=qk (K:=X.K) c;exact⟨p,f,rfl,.inr a,by rw[b.length];exact h.now w (.d (.int _))⟩
 ·next d _ =>
  obtain⟨v,rfl,c⟩:=r.one;split at h
  ·next l e =>
   obtain⟨p,f,rfl,a,g,b⟩:=jj (K:=X.K) w c e;exact⟨p,f,rfl,.inl a,by rw[b.length];exact h.now w (.d (.int _))⟩
  ·exact h.elim
 ·exact h.elim⟩
end
noncomputable def lX:List U->Option (List Bool)
 |[]=>Qq []
 | .d (.bl b)::r=>(lX r).map (b::·)
 |_=>Qs
noncomputable def gx:List U->Option (List Int)
 |[]=>Qq []
 | .d (.int b)::r=>(gx r).map (b::·)
 |_=>Qs
noncomputable def dw:List U->Option (List QD)
 |[]=>Qq []
 | .d (.str b)::r=>(dw r).map (b::·)
 |_=>Qs
section
theorem D6:∀ {c:List V}{ds:List U}{a:List Bool},bG f W c ds->lX ds=Qq a->c=a.map V.bl
 |_,_,a,.nil,h=>by cases h;rfl
 |_,_,a,.cons (ds:=ds) r t,h=>by
  cases r with
  |d r =>
   cases r with
   |bl b =>
    obtain⟨l,e,rfl⟩:=QA.mp (h);rw[D6 t e];rfl
   |_=>cases h
  |loc _=>cases h
theorem GH:∀ {c:List V}{ds:List U}{a:List Int},bG f W c ds->gx ds=Qq a->c=a.map V.int
 |_,_,a,.nil,h=>by cases h;rfl
 |_,_,a,.cons (ds:=ds) r t,h=>by
  cases r with
  |d r =>
   cases r with
   |int b =>
    obtain⟨l,e,rfl⟩:=QA.mp (h);rw[GH t e];rfl
   |_=>cases h
  |loc _=>cases h
theorem qp:∀ {c:List V}{ds:List U}{a:List QD},bG f W c ds->dw ds=Qq a->c=a.map V.str/\∀x∈a,dA x
 |_,_,a,.nil,h=>by cases h;simp_all
 |_,_,a,.cons (ds:=ds) r t,h=>by
  cases r with
  |d r =>
   cases r with
   |str b j =>
    obtain⟨l,e,rfl⟩:=QA.mp (h);obtain⟨g,i⟩:=qp t e
    simp_all
   |_=>cases h
  |loc _=>cases h
theorem C9:∀ {a:List QD},(∀x∈a,dA x)->RpAll d W (a.map V.str) (a.map D.str)
 |[],_=>.nil
 |b::r,h=>.cons (.str b (h b (.head _))) (C9 λx c=>h x (.tail _ c))
end
theorem vS(x:¬fI a b)(y:¬fI b a):a=b:=by
 have e:=List.le_antisymm y x;obtain⟨⟨a⟩⟩:=a
 simp_all
noncomputable def jC(x:QD):List QD->List QD
 |[]=>[x]
 |y::r=>if fI y x then y::jC x r else x::y::r
noncomputable def bE:List QD->List QD
 |[]=>[]
 |x::r=>jC x (bE r)
theorem zb(x:QD):∀l,(jC x l).Perm (x::l)
 |[]=>VE _
 |y::r=>by
  unfold jC;split
  ·exact((zb x r).cons y).trans (Xt x y r)
  ·exact VE _
theorem gw:∀l,(bE l).Perm l
 |[]=>VE _
 |x::r=>(zb x _).trans ((gw r).cons x)
theorem Fv(x:QD):∀l ,l.Pairwise (λa b=>¬fI b a)->(jC x l).Pairwise (λa b=>¬fI b a)
 |[],_=>by simp[jC]
 |y::r,h=>by
  unfold jC;obtain⟨e,f⟩:=Uc.mp h;split
  ·next c =>
   refine Uc.mpr ⟨λz d=>?_,Fv x r f⟩;rcases QL.mp ((zb x r).mem_iff.mp d)with rfl|d
   ·exact λz=>Ta _ (w9 z c)
   ·exact e z d
  ·next c =>
   refine Uc.mpr ⟨λz d=>?_,h⟩;rcases QL.mp d with rfl|d
   ·exact c
   ·exact GN c (e z d)
theorem BK:∀l,(bE l).Pairwise (λa b=>¬fI b a)
 |[]=>.nil
 |x::r=>Fv x _ (BK r)
theorem yS(p:a.Perm b)(h:a.Pairwise λx y=>¬fI y x):a=bE b:=List.Perm.eq_of_pairwise (λx y ω ω h c=>vS c h) h (BK b) (p.trans (gw b).symm)
section
theorem Km:bL X (.builtin "len") (λc H Q=>∃d a,c=[.ref d]/\Rd H d (.dK a)/\Q (.int  a.length ) H):=by
 intro b s l H c k Q I i h;obtain⟨d,a,rfl,f,q⟩:=h;obtain⟨u,rfl,g⟩:=v1 i;cases (g);exact um I f λt j e=>⟨.int _,H,e,⟨t,rfl⟩,q⟩
set_option tactic.hygienic true in
theorem Oi:bV g X (.builtin "len") nM:=⟨_,Km,λW S k i Q Z w r h=>by
 unfold nM at h;split at h
 ·obtain⟨v,rfl,c⟩:=r.one;split at h
  ·next l e =>
   obtain⟨p,f,rfl,a,j,b⟩:=kE w c e;exact⟨p,f,rfl,a,by rw[b.length];exact h.now w (.d (.int _))⟩
  ·exact h.elim
 ·exact h.elim⟩
noncomputable def bZ:=λa S=>(mV a S).or ((lN a S).or (nM a S))
theorem hX:bV a X (.builtin "len") bZ:=.or ME (.or KH Oi)
noncomputable def i4(k:List U->aE->aJ U):List U->aE->aJ U
 |[d],S=>match b0 S d with
  |some a=>k a S
  |none=>.st
 |_,_=>.st
set_option tactic.hygienic true in
theorem Bu{K:aV}{Z:QC->QC->Hp->Prop}(w:WR a W S)(r:bG a W l d)(h:PO a (RU a) W Q Z (i4 k d S)):∃p b c,l=[.ref p]/\cF K W.H p b/\b.length<=LM/\bG a W b c/\PO a (RU a) W Q Z (k c S):=by
 unfold i4 at h;split at h
 ·obtain⟨v,rfl,j⟩:=r.one;split at h
  ·next m e =>
   obtain⟨p,b,rfl,f,g,i⟩:=jj (K:=K) w j e;exact⟨p,b,m,rfl,f,g,i,h⟩
  ·exact h.elim
 ·exact h.elim
noncomputable def lA(b:List U)(S:aE):aJ U:=match lX b with
 |some a=>.ok (.d (.bl (a.all id))) S
 |none=>.st
noncomputable def l4(xs:List U)(S:aE):aJ U:=match gx xs with
 |some a=>.ok (.d (.int a.sum)) S
 |none=>.st
set_option tactic.hygienic true in
theorem nI(f:X.calm=Qr):bV g X (.builtin "all") (i4 lA):=⟨_,HI f,λW S m i Q Z w r h=>by
 obtain⟨p,l,j,rfl,a,k,c,h⟩:=Bu (K:=X.K) w r h;unfold lA at h;split at h
 ·next b e =>
  rw[D6 c e]at a;exact⟨p,b,rfl,a,h.now w (.d (.bl _))⟩
 ·exact h.elim⟩
set_option tactic.hygienic true in
theorem PN(f:X.calm=Qr):bV g X (.builtin "sum") (i4 l4):=⟨_,zFp rfl,λW S m i Q Z w r h=>by
 obtain⟨p,l,j,rfl,a,k,c,h⟩:=Bu (K:=X.K) w r h;unfold l4 at h;split at h
 ·next b e =>
  rw[GH c e]at a;exact⟨p,b,rfl,a,f,h.now w (.d (.int _))⟩
 ·exact h.elim⟩
noncomputable def lu(b:List U)(S:aE):aJ U:=match dw b with
 |some a=>if a.length<64 then .ok (.d (.lst ((bE a).map D.str))) S else .st
 |none=>.st
theorem vT{a:List QD}{Z:QC->QC->Hp->Prop}(w:WR b W S)(e:∀x∈a,dA x)(f:a.length<=LM)(h:PO b (RU b) W Q Z (.ok (.d (.lst (a.map D.str))) S)):∀p,W.H p=Qs->Q (.ref p) (upd W.H p (.lst (a.map V.str))):=λp c =>
 h (W.add p _) _ (aX.add c) (w.add c) (.d (.lst (.inr rfl) dm (by simp_all) (C9 e)))
set_option tactic.hygienic true in
theorem Hw:bV m X (.builtin "sorted") (i4 lu):=⟨_,KA rfl,λW S u n Q Z w r h=>by
 obtain⟨p,t,o,rfl,b,s,d,h⟩:=Bu (K:=X.K) w r h;unfold lu at h;split at h
 ·next a e =>
  obtain⟨rfl,f⟩:=qp d e;split at h
  ·next c =>
   refine⟨p,a,rfl,b,c,λq j g k l=>?_⟩;rw[yS k l];exact vT w (λx i=>f x ((gw a).mem_iff.mp i)) (by rw[(gw a).length_eq];simp_all) h q g
  ·exact h.elim
 ·exact h.elim⟩
noncomputable def iC:List (aR×U)->Option (List QD)
 |[]=>Qq []
 |(.inr x,_)::r=>(iC r).map (x::·)
 |_=>Qs
theorem Cu:∀ {b:List (aR×U)}{a:List QD},iC b=Qq a->b.map (·.1)=a.map Ua
 |[],a,h=>by cases h;rfl
 |(.inr x,d)::r,a,h=>by
  obtain⟨l,e,rfl⟩:=QA.mp (h);rw[Z8,Cu e];rfl
 |(.inl _,_)::_,a,h=>by cases h
noncomputable def gY(a:List QD):Bool:=a.all dZ
noncomputable def j3:List U->aE->aJ U
 |[d],S=>match bK S d with
  |some b=>match iC b with
   |some a=>if a.length<64/\gY a=Qr then .ok (.d (.lst ((bE a).map D.str))) S else .st
   |none=>.st
  |none=>.st
 |_,_=>.st
set_option tactic.hygienic true in
theorem NH(i:X.calm=Qr):bV t X (.builtin "sorted") j3:=⟨_,Js,λW S A u Q Z w r h=>by
 unfold j3 at h;split at h
 ·obtain⟨v,rfl,o⟩:=r.one;split at h
  ·next y e =>
   obtain⟨p,s,rfl,f,z,g⟩:=kE w o e;split at h
   ·next b d =>
    split at h
    ·next c =>
     have j:=λx a=>mv (QM.mp c.2 x a);refine⟨p,s,b,rfl,f,by rw[g.keys];exact Cu d,c.1,i,λq l k m n=>?_⟩;rw[yS m n];exact vT w (λx a=>j x ((gw b).mem_iff.mp a)) (by rw[(gw b).length_eq];exact Z9 (Ys c.1) (by decide)) h q k
    ·exact h.elim
   ·exact h.elim
  ·exact h.elim
 ·exact h.elim⟩
noncomputable def lJ:=λa S=>(i4 lu a S).or (j3 a S)
theorem O7(a:X.calm=Qr):bV b X (.builtin "sorted") lJ:=.or Hw (NH a)
noncomputable def qS(S:aE):U->Option (List U)
 | .d (.tup a)=>Qq (a.map .d)
 |d=>b0 S d
theorem NK{K:aV}(w:WR b W S)(r:RU b W v d)(h:qS S d=Qq c):∃p a,v=.ref p/\(cF K W.H p a\/gC K W.H p a)/\a.length<=LM/\bG b W a c:=by
 have j:b0 S d=Qq c->∃p a,v=.ref p/\(cF K W.H p a\/gC K W.H p a)/\a.length<=LM/\bG b W a c:=λh=>let⟨p,a,e,f,g,i⟩:=jj w r h;⟨p,a,e,.inl f,g,i⟩;cases d with
 |d x =>
  cases x with
  |tup k =>
   cases h;obtain⟨p,a,e,f,g,i⟩:=qk r;exact⟨p,a,e,.inr f,g,i.up⟩
  |_=>exact j h
 |loc n=>exact j h
noncomputable def iD:List U->aE->aJ U
 |[d],S=>match qS S d with
  |some a=>eU a S
  |none=>.st
 |_,_=>.st
set_option tactic.hygienic true in
theorem Oj:bV f X (.type "list") iD:=⟨_,Ms,λW S j g Q Z w r h=>by
 unfold iD at h;split at h
 ·obtain⟨v,rfl,c⟩:=r.one;split at h
  ·next k e =>
   obtain⟨p,d,rfl,a,i,b⟩:=NK (K:=X.K) w c e;exact⟨p,d,rfl,a,(ni w b h).2⟩
  ·exact h.elim
 ·exact h.elim⟩
noncomputable def jY:aR->D
 | .inl i=>.int i
 | .inr x=>.str x
noncomputable def kL(k:aR):U:=.d (jY k)
noncomputable def dD:aR->Bool
 | .inl _=>Qr
 | .inr x=>dZ x
theorem lW:∀ {a:List (aR×U)}{c:List (aR×V)},bT d W c a->(a.all λe=>dD e.1)=Qr->RpAll d W (c.map λb=>kV b.1) (a.map λb=>jY b.1)
 |_,_,.nil,_=>.nil
 |_,_,.cons (k:=k) r t,h=>by
  rw[Yp,Zl]at h;refine .cons ?_ (lW t h.2);cases k with
  |inl i=>exact .int i
  |inr x=>exact .str x (mv h.1)
noncomputable def jd(c:Bool):List U->aE->aJ U
 |[d],S=>match bK S d with
  |some a=>if(a.all λe=>dD e.1)=Qr then(if c=Qr then .ok (.loc S.length) (S++[.lst (a.map λb=>kL b.1)])else .ok (.d (.lst (a.map λb=>jY b.1))) S)else .st
  |none=>.st
 |_,_=>.st
set_option tactic.hygienic true in
theorem Lj(j:X.calm=Qr):bV m X (.type "list") (jd t):=⟨_,O4,λW S u n Q Z w r h=>by
 unfold jd at h;split at h
 ·obtain⟨v,rfl,k⟩:=r.one;split at h
  ·next o e =>
   obtain⟨p,l,rfl,g,s,i⟩:=kE w k e;split at h
   ·next c =>
    have b:=lW i c;refine⟨p,l,rfl,g,j,?_⟩;split at h
    ·have f:=b.up;rw[Z7]at f;exact F4 w (by simp_all) f h
    ·exact λq a=>h (W.add q _) _ (aX.add a) (w.add a) (.d (.lst (.inr rfl) dm (by simp_all) (b.mono (aX.add a))))
   ·exact h.elim
  ·exact h.elim
 ·exact h.elim⟩
noncomputable def cB:=λa S=>(iD a S).or (jd Qv a S)
theorem pX(a:X.calm=Qr):bV b X (.type "list") cB:=.or Oj (Lj a)
noncomputable def nv:List U->aE->aJ U
 |[.d (.tup a)],S=>.ok (.d (.tup a)) S
 |[d],S=>match b0 S d with
  |some a=>iV a S
  |none=>.st
 |_,_=>.st
set_option tactic.hygienic true in
theorem Ho:bV g X (.type "tuple") nv:=⟨_,Md,λW S j i Q Z w r h=>by
 unfold nv at h;split at h
 ·obtain⟨v,rfl,a⟩:=r.one;obtain⟨p,c,rfl,b,f,d⟩:=qk a;exact⟨p,c,rfl,.inr ⟨b,h.now w a⟩⟩
 ·obtain⟨v,rfl,a⟩:=r.one;split at h
  ·next k e =>
   obtain⟨p,c,rfl,b,f,d⟩:=jj w a e;exact⟨p,c,rfl,.inl ⟨b,(DB w d h).2⟩⟩
  ·exact h.elim
 ·exact h.elim⟩
noncomputable def iy:List (aR×U)->Option (List (aR×D))
 |[]=>Qq []
 |(k,.d x)::r=>(iy r).map ((k,x)::·)
 |_=>Qs
theorem Ec:∀es:List (aR×D),iy (bz es)=Qq es
 |[]=>rfl
 |(k,x)::r=>by
  show(iy (bz r)).map ((k,x)::·)=_;rw[Ec r];rfl
theorem bT.pure:∀ {b:List (aR×V)}{a:List (aR×U)}{ds:List (aR×D)},bT c W b a->iy a=Qq ds->RpK c W b ds
 |_,_,ds,.nil,h=>by cases h;exact .nil
 |_,_,ds,.cons (k:=k) (ds:=a) r t,h=>by
  cases r with
  | @d _ x r =>
   obtain⟨l,e,rfl⟩:=QA.mp (h);exact .cons r (bT.pure t e)
  |loc _=>cases h
noncomputable def tM(b:List (aR×U))(S:aE):aJ U:=match iy b with
 |some a=>if a.length<=LM then .ok (.d (.dct a)) S else .st
 |none=>.st
theorem RpK.length:∀ {fs:List (aR×V)}{a:List (aR×D)},RpK cl W fs a->fs.length=a.length
 |_,_,.nil=>rfl
 |_,_,.cons _ t=>by rw[Zg,Zg,RpK.length t]
set_option tactic.hygienic true in
theorem Lv{Z:QC->QC->Hp->Prop}(w:WR a W S)(r:bT a W c e)(h:PO a (RU a) W Q Z (tM e S)):c.length<=LM/\∀p,W.H p=Qs->Q (.ref p) (upd W.H p (.dK c)):=by
 unfold tM at h;split at h
 ·next g f =>
  have r:=r.pure f;split at h
  ·next l =>
   rw[<- r.length]at l;exact⟨l,λp b=>h (W.add p (.dK c)) (.ref p) (aX.add b) (w.add b) (.d (.dct (.inr rfl) (.inl dm) l (r.mono (aX.add b))))⟩
  ·exact h.elim
 ·exact h.elim
noncomputable def jf(b:Bool):List U->aE->aJ U
 |[d],S=>match bK S d with
  |some a=>if b=Qr then .ok (.loc S.length) (S++[.dct a])else tM a S
  |none=>.st
 |_,_=>.st
theorem GB{Z:QC->QC->Hp->Prop}(w:WR c W S)(l:b.length<=LM)(r:bT c W b d)(h:PO c (RU c) W Q Z (.ok (.loc S.length) (S++[.dct d]))):∀p,W.H p=Qs->Q (.ref p) (upd W.H p (.dK b)):=λp a =>
 h (W.new p (.dK b)) (.ref p) (aX.new a) (w.new a ⟨(mP w a:¬W.G p),b,dm,l,r.mono (aX.new a)⟩) (.loc (by show(W.μ++[p])[S.length]?=Qq p;rw[<- w.len,Zm (Z3 _)];simp))
theorem Oe:bV g X (.type "dict") (jf k):=⟨_,Me,λW S l i Q Z w r h=>by
 unfold jf at h;split at h
 ·obtain⟨v,rfl,d⟩:=r.one;split at h
  ·next j e =>
   obtain⟨p,f,rfl,b,c,a⟩:=kE w d e;refine⟨p,f,rfl,b,?_⟩;split at h
   ·exact GB w c a h
   ·exact(Lv w a h).2
  ·exact h.elim
 ·exact h.elim⟩
end
structure ml(cl:Cl)(X:Cx)(T id:String)(chk:U->aE->Bool)(g:U->List U->aE->aJ U):Prop where
 ex:∃r,oG X id r/\(∀W S x d,WR cl W S->RU cl W x d->chk d S=Qr->qZ X.K T x W.H)/\∀W S x xs d ds (Q:VK) Z,WR cl W S->RU cl W x d->bG cl W xs ds->PO cl (RU cl) W Q Z (g d ds S)->r x xs W.H Q
noncomputable def iE(d:U)(_:aE):Bool:=match d with
 | .d (.str _)=>Qr
 |_=>Qv
noncomputable def gJ(d:U)(S:aE):Bool:=(b0 S d).isSome
noncomputable def fG(a:U->aE->Bool)(g:U->List U->aE->aJ U)(f:FE)(e:iu):FE:=λb S=>(f b S).bind λd S=>if a d S=Qr then(e b S).bind λc S=>g d c S else .st
section
variable {X:Cx}
theorem xb(w:WR a W S)(r:RU a W x d)(h:iE d S=Qr):qZ X.K "str" x W.H:=by
 cases r with
 |d r =>
  cases r with
  |str x b=>rfl
  |_=>cases h
 |loc _=>cases h
theorem vk(w:WR a W S)(r:RU a W x d)(h:gJ d S=Qr):qZ X.K "list" x W.H:=by
 obtain⟨f,e⟩:=RH.mp h;obtain⟨p,c,rfl,b,_⟩:=jj (K:=X.K) w r e;exact .inl ⟨rfl,c,b⟩
theorem uq{T id:String}(pa:ZD T)(q:Slot T i id)(y:typeOf (.builtin id)=pure (.type "method_descriptor"))(m:ml t X T id s g)(ho:DE t X Z o P)(ha:DA t X Z (e::l) f)
 (j:autoParam (Q6 o i X.env (eval o X.env)=eval o X.env) A10._auto_1)
 (p:autoParam (((Rc b (Qy (e :: l) X.env)).all (λx=>!x.1) && (T8 b (Sq [] X.env)).all (λx=>x.1.isSome)
  && decide ((e::l).length+([]:List VA).length+(if([]:List VA).isEmpty then 0 else 1)<30))=Qr) A10._auto_1)
 (k:autoParam ((n.endLine==b.line)=Qr) A10._auto_1) (hs:autoParam (Qy (e::l) X.env=(Qv,eval e X.env)::Qy l X.env) A10._auto_1) (a:autoParam ((Rc b (Qy l X.env)).any (·.1)=Qv) A10._auto_1):DE t X Z (.Call (.Attribute o i n) (e::l) [] b) (fG s g P f):=by
 obtain⟨r,hm,R,Y⟩:=m.ex;obtain⟨to,po,M⟩:=ho.ex;obtain⟨ta,z,L⟩:=ha.ex;refine .of ⟨_,L2.pe_bm pa q y hm po z j p k hs a,λW S H C Q w r h=>M W S H C _ w r (PO.bind h λd A B v O G E u=>?_)⟩;split at u
 ·next c=>exact⟨R B A v d G E c,L B A H C _ G (r.mono O) (PO.bind u λN I J vs e2 w2 r2 h4=>Y J I v vs d N Q _ w2 (E.mono e2) r2 h4)⟩
 ·exact u.elim
theorem AC{Z:QC->QC->Hp->Prop}(w:WR b W S)(f:W.μ[n]?=Qq p)(c:¬W.G p)(l:a.length<=LM)(r:bG b W a g)(i:RU b W v d)(h:PO b (RU b) W Q Z (.ok d (S.set n (.lst g)))):Q v (upd W.H p (.lst a)):=by
 have e:aX W (W.put p (.lst a)):=aX.put (Ze f) c (w.ex (Ze f));exact h (W.put p (.lst a)) v e (w.put f c ⟨c,a,dm,l,r.mono e⟩) (i.mono e)
noncomputable def fS:U->List U->aE->aJ U
 | .loc n,[x],S=>match bI S n with
  |some a=>if a.length<LM then .ok (.d .non) (S.set n (.lst (a++[x])))else .st
  |none=>.st
 |_,_,_=>.st
set_option tactic.hygienic true in
theorem Pc:ml l X "list" "list.append" gJ fS:=⟨_,I9,λW S x d w r h=>vk w r h,λW S x q d m Q Z w r i h=>by
 unfold fS at h;split at h
 ·split at h
  ·next n x s e =>
   obtain⟨p,k,rfl,g,f,b,o,a⟩:=my w r e;obtain⟨v,rfl,j⟩:=i.one;split at h
   ·next c =>
    rw[<- a.length]at c;exact⟨p,k,v,rfl,rfl,b,Zd c (by decide),AC w g f (by rw[Zh];exact c) (a.append (.cons j .nil)) (.d .non) h⟩
   ·exact h.elim
  ·exact h.elim
 ·exact h.elim⟩
noncomputable def kO:U->List U->aE->aJ U
 | .loc n,[x],S=>match bI S n,iK S x with
  |some a,Qq b=>if a.length+b.length<=LM then .ok (.d .non) (S.set n (.lst (a++b)))else .st
  |_,_=>.st
 |_,_,_=>.st
set_option tactic.hygienic true in
theorem Mu:ml t X "list" "list.extend" gJ kO:=⟨_,IS,λW S x d w r h=>vk w r h,λW S x s d u Q Z w r m h=>by
 unfold kO at h;split at h
 ·split at h
  ·next n x s A f e2 =>
   obtain⟨p,q,rfl,j,i,g,y,b⟩:=my w r f;obtain⟨v,rfl,o⟩:=m.one;obtain⟨l,a,rfl,k,z,e⟩:=rk w o e2;split at h
   ·next c =>
    rw[<- b.length,<- e.length]at c;exact⟨p,l,q,a,rfl,rfl,g,k,nU c,AC w j i (by simp_all) (b.append e) (.d .non) h⟩
   ·exact h.elim
  ·exact h.elim
 ·exact h.elim⟩
noncomputable def fu:U->List U->aE->aJ U
 | .d (.str z),[x],S=>match b0 S x with
  |some b=>match dw b with
   |some a=>if SE z a=Qr/\dZ (Ug z a)=Qr then .ok (.d (.str (Ug z a))) S else .st
   |none=>.st
  |none=>.st
 |_,_,_=>.st
set_option tactic.hygienic true in
theorem Pm:ml k X "str" "str.join" iE fu:=⟨_,Kl rfl,λW S x d w r h=>xb w r h,λW S x s d l Q Z w r i h=>by
 unfold fu at h;split at h
 ·split at h
  ·next z x t e =>
   obtain⟨v,rfl,j⟩:=i.one;obtain⟨p,q,rfl,b,m,f⟩:=jj (K:=X.K) w j e;split at h
   ·next g a =>
    obtain⟨rfl,n⟩:=qp f a;split at h
    ·next c =>
     cases r with
     |d r =>
     cases r with
     |str _ o=>exact⟨_,p,g,rfl,rfl,b,c.1,h.now w (.d (.str _ (mv c.2)))⟩
    ·exact h.elim
   ·exact h.elim
  ·exact h.elim
 ·exact h.elim⟩
noncomputable def g8:U->List U->aE->aJ U
 | .d (.str z),[.d (.str y)],S=>if(y.length==0)=Qv/\gY (R4 z y)=Qr/\(R4 z y).length<=LM then .ok (.d (.lst ((R4 z y).map D.str))) S else .st
 |_,_,_=>.st
theorem MW:ml g X "str" "str.split" iE g8:=⟨_,Hv,λW S x d w r h=>xb w r h,λW S x k d i Q Z w r f h=>by
 unfold g8 at h;split at h
 ·obtain⟨v,rfl,a⟩:=f.one;cases r with
  |d r =>
  cases r with
  |str z e =>
   cases a with
   |d a =>
   cases a with
   |str y j =>
    split at h
    ·next c=>exact⟨_,_,rfl,rfl,c.1,e.1,vT w (λx b=>mv (QM.mp c.2.1 x b)) c.2.2 h⟩
    ·exact h.elim
 ·exact h.elim⟩
noncomputable def iF:U->List U->aE->aJ U
 | .d (.str z),[.d (.str y)],S=>.ok (.d (.bl (U2 z y))) S
 |_,_,_=>.st
theorem Ha:ml c X "str" "str.startswith" iE iF:=⟨_,Mx,λW S x d w r h=>xb w r h,λW S x i d e Q Z w r b h=>by
 unfold iF at h;split at h
 ·obtain⟨v,rfl,a⟩:=b.one;cases r with
  |d r =>
  cases r with
  |str z g =>
   cases a with
   |d a =>
   cases a with
   |str y f=>exact⟨_,_,rfl,rfl,h.now w (.d (.bl _))⟩
 ·exact h.elim⟩
noncomputable def df(n:QD):List QD->Option Nat
 |[]=>Qs
 |k::r=>if k=n then Qq 0 else(df n r).map (·+1)
theorem uJ:∀ {ks:List QD}{j:Nat},df n ks=Qq j->ks[j]?=Qq n/\∀m,m<j->ks[m]?≠Qq n
 |k::r,j,h=>by
  unfold df at h;split at h
  ·next e=>cases h;exact⟨by rw[e];rfl,λm a=>absurd a (Wb _)⟩
  ·next e =>
   obtain⟨i,b,rfl⟩:=QA.mp h;obtain⟨c,d⟩:=uJ b;refine⟨c,λm a=>?_⟩;cases m<;>simp_all
noncomputable def iL:U->List U->aE->aJ U
 |x,[.d (.str n)],S=>match b0 S x with
  |some b=>match dw b with
   |some a=>match df n a with
    |some j=>.ok (.d (.int j)) S
    |none=>.st
   |none=>.st
  |none=>.st
 |_,_,_=>.st
set_option tactic.hygienic true in
theorem Mh:ml o X "list" "list.index" gJ iL:=⟨_,NB rfl,λW S x d w r h=>vk w r h,λW S x z d q Q Z w r m h=>by
 unfold iL at h;split at h
 ·split at h
  ·next A e =>
   obtain⟨v,rfl,a⟩:=m.one;obtain⟨p,y,rfl,f,s,g⟩:=jj (K:=X.K) w r e;split at h
   ·next l c =>
    obtain⟨rfl,t⟩:=qp g c;split at h
    ·next j b =>
     cases a with
     |d a =>
     cases a with
     |str n u =>
      obtain⟨i,k⟩:=uJ b;exact⟨p,l,_,j,rfl,rfl,f,i,k,h.now w (.d (.int _))⟩
    ·exact h.elim
   ·exact h.elim
  ·exact h.elim
 ·exact h.elim⟩
end
section
noncomputable def eV(e c:FE):FE:=λa S=>(e a S).bind λd S=>if(bK S d).isSome=Qr then(c a S).bind λk S=>match bK S d,fU k with
 |some b,Qq k=>.ok ((b6 b k).getD (.d .non)) S
 |_,_=>.st
 else .st
theorem J6(w:WR a W S)(r:RU a W v d)(h:(bK S d).isSome=Qr):∃p,v=.ref p/\yV W.H p:=by
 obtain⟨f,e⟩:=RH.mp h;obtain⟨p,c,rfl,b,_⟩:=kE w r e;exact⟨p,rfl,.inl ⟨c,b⟩⟩
theorem vg(Y:X.A.units+1<Rq)(T:DE s X Z o M)(P:DE s X Z a L)(m:M1 X o "get" e a l:=by exact⟨rfl,rfl,rfl,rfl⟩):DE s X Z (.Call (.Attribute o "get" e) [a] [] l) (eV M L):=by
 obtain⟨to,po,E⟩:=T.ex;obtain⟨ta,pa,C⟩:=P.ex;refine .of ⟨_,L2.zVk Y po pa m,λW S z t Q w r h=>E W S z t _ w r (PO.bind h λd A B v H y f j=>?_)⟩;split at j
 ·next c =>
  obtain⟨p,rfl,R⟩:=J6 y f c;refine⟨p,rfl,R,C B A z t _ y (r.mono H) (PO.bind j λk S2 W2 u e2 n r2 b=>?_)⟩;have f:=f.mono e2;split at b
  ·next es k' I J =>
   obtain⟨p',vs,G,N,g2,O⟩:=kE n f I;cases G;obtain⟨o,g,m⟩:=AD N O;rw[<- kY r2 J]at g;refine⟨o,g,?_⟩;split at m
   ·next x i =>
    obtain⟨q,rfl,rq⟩:=m;rw[i]at b;exact b.now n rq
   ·next i =>
    rw[m];rw[i]at b;exact b.now n (.d .non)
  ·exact b.elim
 ·exact j.elim
noncomputable def nV(es:List (aR×U))(k:aR):List (aR×U):=es.filter λkv=>decide (kv.1≠k)
noncomputable def g7(b:List (aR×U))(k:aR)(v:U):List (aR×U):=if(b.any λa=>decide (a.1=k))=Qr then b.map (λa=>if a.1=k then(a.1,v)else a)else b++[(k,v)]
theorem bT.drop:∀ {c:List (aR×V)}{a:List (aR×U)},bT d W c a->bT d W (nS c k) (nV a k)
 |_,_,.nil=>.nil
 |_,_,.cons (k:=f) r t=>by
  have b:=bT.drop (k:=k) t;unfold nS nV at b ⊢;by_cases e:f=k
  ·simp_all
  ·rw[WL (by simp[e]),WL (by simp[e])];exact .cons r b
theorem bT.any:∀ {c:List (aR×V)}{b:List (aR×U)},bT d W c b->(c.any λa=>decide (a.1=k))=b.any λa=>decide (a.1=k)
 |_,_,.nil=>rfl
 |_,_,.cons r t=>by rw[Vj,Vj,bT.any t]
theorem bT.mapP(b:RU c W v d):∀ {g:List (aR×V)}{f:List (aR×U)},bT c W g f->bT c W (g.map λa=>if a.1=k then(a.1,v)else a) (f.map λa=>if a.1=k then(a.1,d)else a)
 |_,_,.nil=>.nil
 |_,_,.cons (k:=h) r t=>by
  rw[Z8,Z8];by_cases e:h=k
  ·rw[if_pos e,if_pos e];exact .cons b (bT.mapP b t)
  ·rw[if_neg e,if_neg e];exact .cons r (bT.mapP b t)
theorem bT.snoc(c:RU a W v d):∀ {e:List (aR×V)}{b:List (aR×U)},bT a W e b->bT a W (e++[(k,v)]) (b++[(k,d)])
 |_,_,.nil=>.cons c .nil
 |_,_,.cons r t=>.cons r (bT.snoc c t)
theorem bT.put(b:RU a W v d)(r:bT a W e c):bT a W (dg e k v) (g7 c k d):=by
 unfold dg g7;rw[r.any];split
 ·exact bT.mapP b r
 ·exact bT.snoc b r
theorem Hh(w:WR d W S)(c:W.μ[n]?=Qq p)(b:¬W.G p)(l:a.length<=LM)(r:bT d W a f):aX W (W.put p (.dK a))/\WR d (W.put p (.dK a)) (S.set n (.dct f)):=by
 have e:aX W (W.put p (.dK a)):=aX.put (Ze c) b (w.ex (Ze c));exact⟨e,w.put c b ⟨b,a,dm,l,r.mono e⟩⟩
theorem Di:∀ {c:List (aR×V)}{a:List (aR×U)}{b:List Int},bT f W c a->gx (a.map (·.2))=Qq b->c=(a.map (·.1)).zip (b.map V.int)/\a.length=b.length
 |_,_,b,.nil,h=>by cases h;exact⟨rfl,rfl⟩
 |_,_,b,.cons (ds:=a) r t,h=>by
  cases r with
  |d r =>
   cases r with
   |int i =>
    obtain⟨l,e,rfl⟩:=QA.mp (h);obtain⟨g,j⟩:=Di t e
    simp_all
   |_=>cases h
  |loc _=>cases h
noncomputable def km(c:FE):FE:=λb S=>(c b S).bind λd S=>match bK S d with
 |some a=>match gx (a.map (·.2))with
  |some e=>.ok (.d (.int e.sum)) S
  |none=>.st
 |none=>.st
set_option tactic.hygienic true in
theorem Mf(L:X.mg "sum" = Qs)(I:X.calm=Qr)(M:DE z X Z o G)(J:autoParam (Gl X "sum") A10._auto_1)(a:autoParam (Q6 o "values" X.env (eval o X.env)=eval o X.env) A10._auto_1)(b:autoParam ((i.endLine==m.line)=Qr) A10._auto_1)(s:autoParam (Qy [.Call (.Attribute o "values" i) [] [] m] X.env=(Qv,eval (.Call (.Attribute o "values" i) [] [] m) X.env)::Qy [] X.env) A10._auto_1)(k:autoParam ((Rc l (Qy [] X.env)).any (·.1)=Qv) A10._auto_1):DE z X Z (.Call (.Name "sum" sp) [.Call (.Attribute o "values" i) [] [] m] [] l) (km G):=by
 obtain⟨to,N,A⟩:=M.ex;refine .of ⟨_,L2.zCp HU J L SY (L2.zCc (L2.zRt N a b) L2.zEl s) (by decide) (by decide) s k,λW S P E Q w r h=>A W S P E _ w r (PO.bind h λd R f v T u O c=>?_)⟩;split at c
 ·next n B =>
  split at c
  ·next t C =>
   obtain⟨p,vs,rfl,q,Y,H⟩:=kE u O B;obtain⟨rfl,hl⟩:=Di H C;refine⟨p,_,rfl,q,λx e=>?_⟩;have e2:aX f (f.put x (fY x p)):=aX.oth e;have j:Rd (upd f.H x (fY x p)) p (.dK ((n.map (·.1)).zip (t.map V.int))):=by
    rcases q with g|⟨y,g⟩
    ·exact .inl (by rw[bS (eK g e)];exact g)
    ·exact .inr ⟨y,by rw[bS (eK g e)];exact g⟩
   exact⟨x,p,n.map (·.1),t,rfl,dm,j,by simp_all,I,c _ _ e2 (u.oth e) (.d (.int _))⟩
  ·exact c.elim
 ·exact c.elim
noncomputable def gS(c:FE):FE:=λb S=>(c b S).bind λd S=>match b0 S d with
 |some e=>match dw e with
  |some a=>if a.length<=4000 then .ok (.d (.int (dl a).length)) S else .st
  |none=>.st
 |none=>.st
set_option tactic.hygienic true in
theorem Jv(H:X.mg "len" = Qs)(g:X.mg "set" = Qs)(E:X.calm=Qr)(I:DE s X Z o A)(G:autoParam (Gl X "len") A10._auto_1)(f:autoParam (Gl X "set") A10._auto_1)(j:autoParam (Qy [o] X.env=(Qv,eval o X.env)::Qy [] X.env) A10._auto_1)(b:autoParam (Qy [.Call (.Name "set" m) [o] [] i] X.env=(Qv,eval (.Call (.Name "set" m) [o] [] i) X.env)::Qy [] X.env) A10._auto_1)(e:autoParam (∀q ,(Rc q (Qy [] X.env)).any (·.1)=Qv) A19._auto_1):DE s X Z (.Call (.Name "len" lp) [.Call (.Name "set" m) [o] [] i] [] L) (gS A):=by
 obtain⟨to,J,t⟩:=I.ex;refine .of ⟨_,L2.zCp Nv G H QU (L2.zCc (L2.zHb (Hj E) f g VW (L2.zCc J L2.zEl j) (by decide) (by decide) j (e _)) L2.zEl b) (by decide) (by decide) b (e _),λW S N y Q w r h=>t W S N y _ w r (PO.bind h λd O P v R n M a=>?_)⟩;split at a
 ·next xs z =>
  split at a
  ·next l u =>
   split at a
   ·next c =>
    obtain⟨p,vs,rfl,B,T,C⟩:=jj (K:=X.K) n M z;obtain⟨rfl,Y⟩:=qp C u;exact⟨p,l,rfl,B,c,λx k=>⟨x,l,rfl,dm,c,a _ _ (aX.oth k) (n.oth k) (.d (.int _))⟩⟩
   ·exact a.elim
  ·exact a.elim
 ·exact a.elim
structure Py(K:aV)(C:QC):Prop where
 cl:jB K C
 ha:QX K (.ref C) "__class__" = Qq (Qq (.builtin "object.__class__"))
 hn:R0 K (.builtin "object.__class__") "__get__" = Qq (Qq (.builtin "getset_descriptor.__get__"))
 htk:Tv K (.builtin "object.__class__")=Qq Qr
 hm:UT K C (.type "object")=Qq Qr
structure lr(K:aV)(cl:Cl)(is cs:List QD)(kt:List (QD×QD)):Prop where
 ki:∀c,is.contains c=Qr->Py K (cl c)
 kk:∀c c',is.contains c=Qr->cs.contains c'=Qr->Ro K (.ref (cl c)) (.ref (cl c'))=Qq (kt.contains (c,c'))
 kb:∀t c',t∈(["NoneType", "bool", "int", "str", "list", "tuple", "dict"]:List String)->cs.contains c'=Qr->Ro K (.type t) (.ref (cl c'))=Qq Qv
 kc:∀c t,is.contains c=Qr->t∈(["bool", "int", "str", "list", "tuple", "dict"]:List String)->Ro K (.ref (cl c)) (.type t)=Qq Qv
noncomputable def oE(S:aE):U->Option String
 | .d .non=>Qq "NoneType"
 | .d (.bl _)=>Qq "bool"
 | .d (.int _)=>Qq "int"
 | .d (.str _)=>Qq "str"
 | .d (.tup _)=>Qq "tuple"
 | .d (.dct _)=>Qs
 | .d (.obj _ _)=>Qs
 | .loc n=>match S[n]? with
  |some (.lst _)=>Qq "list"
  |some (.dct _)=>Qq "dict"
  |_=>Qs
 |_=>Qq "list"
theorem Cy{K:aV}(w:WR f W S)(r:RU f W v d)(h:oE S d=Qq t):fz K W.H v (.type t)/\t∈(["NoneType", "bool", "int", "str", "list", "tuple", "dict"]):=by
 cases r with
 |d r =>
  cases r with
  |non=>cases h;exact⟨.non,by simp⟩
  |bl b=>cases h;exact⟨.bl b,by simp⟩
  |int b=>cases h;exact⟨.int b,by simp⟩
  |str b j=>cases h;exact⟨.str b,by simp⟩
  |tup g e l r=>cases h;exact⟨.tup e,by simp⟩
  |lst g e l r=>cases h;exact⟨.lst e,by simp⟩
  |frl g e l r=>cases h;exact⟨.frz e,by simp⟩
  |dct g e l r=>cases h
  |obj g e r=>cases h
 | @loc n p c =>
  have h:(match S[n]? with|some (.lst _)=>Qq "list" |some (.dct _)=>Qq "dict" |_=>Qs)=Qq t:=h;split at h
  ·next e=>cases h;obtain⟨_,i,a,_⟩:=w.cell _ _ _ e c;exact⟨.lst a,by simp⟩
  ·next e=>cases h;obtain⟨_,i,a,_⟩:=w.cell _ _ _ e c;exact⟨.dK a,by simp⟩
  ·cases h
noncomputable def kK(t T:String):Bool:=t==T||(t == "bool" && T == "int")
theorem MO{K:aV}(h:t∈(["NoneType", "bool", "int", "str", "list", "tuple", "dict"]))(a:T∈(["bool", "int", "str", "list", "tuple", "dict"])):Ro K (.type t) (.type T)=Qq (kK t T):=by
 simp at h a;rcases h with rfl|rfl|rfl|rfl|rfl|rfl|rfl<;>rcases a with rfl|rfl|rfl|rfl|rfl|rfl<;>rfl
noncomputable def fA(a:List QD)(T:String)(d:U)(S:aE):aJ U:=match oE S d with
 |some t=>.ok (.d (.bl (kK t T))) S
 |none=>match fW S d with
  |some (c,_)=>if a.contains c=Qr then .ok (.d (.bl Qv)) S else .st
  |none=>.st
noncomputable def kP(b:List QD)(e:List (QD×QD))(a:QD)(d:U)(S:aE):aJ U:=match oE S d with
 |some t=>.ok (.d (.bl Qv)) S
 |none=>match fW S d with
  |some (c,_)=>if b.contains c=Qr then .ok (.d (.bl (e.contains (c,a)))) S else .st
  |none=>.st
theorem Ej{K:aV}{c:QD}(T:lr K a f g m)(w:WR a W S)(r:RU a W v d)(h:fW S d=Qq (c,l))(b:f.contains c=Qr):fz K W.H v (.ref (a c)):=by
 obtain⟨p,i,j,rfl,e,_⟩:=uw w r h;have k:=T.ki c b;exact .ins e k.cl k.ha k.hn k.htk k.hm
set_option tactic.hygienic true in
theorem M9(n:lr X.K o M cs kt)(I:X.mg "isinstance" = Qs)(k:X.mg x=Qs)(q:T∈(["bool", "int", "str", "list", "tuple", "dict"]))(L:RN x=Qq (.type T))(G:DE o X Z a E)(H:autoParam (Gl X "isinstance") A10._auto_1)(j:autoParam (Gl X x) A10._auto_1)(J:autoParam (x≠"__name__") A11._auto_1)(g:autoParam ((x==("__debug__"))=Qv) A11._auto_1)
 (u:autoParam (Qy [a,.Name x e] X.env=(Qv,eval a X.env)::Qy [.Name x e] X.env) A10._auto_1) (i:autoParam (Qy [.Name x e] X.env=(Qv,eval (.Name x e) X.env)::Qy [] X.env) A10._auto_1) (l:autoParam ((Rc m (Qy [.Name x e] X.env)).any (·.1)=Qv) A10._auto_1):DE o X Z (.Call (.Name "isinstance" p) [a,.Name x e] [] m) (d1 (fA M T) E):=by
 obtain⟨ta,P,z⟩:=G.ex;refine .of ⟨_,L2.zCp GA H I Vc (L2.zCc P (L2.zCc (L2.yA5 (v:=.ty T) j k L rfl J g) L2.zEl i) u) (by decide) (by decide) u l,λW S R C Q w r h=>z W S R C _ w r (PO.bind h λd Y W1 v e1 f y b=>?_)⟩;unfold fA at b;split at b
 ·next t B =>
  obtain⟨N,O⟩:=Cy f y B;exact⟨v,.ty T,_,.type T,_,rfl,N,rfl,MO O q,b.now f (.d (.bl _))⟩
 ·split at b
  ·next c gs A =>
   split at b
   ·next s=>exact⟨v,.ty T,_,.type T,_,rfl,Ej n f y A s,rfl,n.kc c T s q,b.now f (.d (.bl _))⟩
   ·exact b.elim
  ·exact b.elim
set_option tactic.hygienic true in
theorem JW(j:lr X.K e M B P)(L:X.mg "isinstance" = Qs)(n:X.mg x=Qq (.ref (e b)))(s:B.contains b=Qr)(I:DE e X Z a H)(J:autoParam (Gl X "isinstance") A10._auto_1)(m:autoParam (Gl X x) A10._auto_1)(k:autoParam ((x==("__debug__" : QD))=Qv) A11._auto_1)
 (y:autoParam (Qy [a,.Name x g] X.env=(Qv,eval a X.env)::Qy [.Name x g] X.env) A10._auto_1) (l:autoParam (Qy [.Name x g] X.env=(Qv,eval (.Name x g) X.env)::Qy [] X.env) A10._auto_1) (o:autoParam ((Rc q (Qy [.Name x g] X.env)).any (·.1)=Qv) A10._auto_1):DE e X Z (.Call (.Name "isinstance" p) [a,.Name x g] [] q) (d1 (kP M P b) H):=by
 obtain⟨ta,R,A⟩:=I.ex;refine .of ⟨_,L2.zCp GA J L Vc (L2.zCc R (L2.zCc (L2.zMs (v:=.ref (e b)) m n rfl k) L2.zEl l) y) (by decide) (by decide) y o,λW S T G Q w r h=>A W S T G _ w r (PO.bind h λd Y W1 v e1 i z f=>?_)⟩;unfold kP at f;split at f
 ·next t E =>
  obtain⟨N,O⟩:=Cy i z E;exact⟨v,.ref (e b),_,.ref (e b),_,rfl,N,rfl,j.kb t b O s,f.now i (.d (.bl _))⟩
 ·split at f
  ·next c gs C =>
   split at f
   ·next u=>exact⟨v,.ref (e b),_,.ref (e b),_,rfl,Ej j i z C u,rfl,j.kk c b u s,f.now i (.d (.bl _))⟩
   ·exact f.elim
  ·exact f.elim
end
noncomputable abbrev GT:=U->Ev->Option Ev
noncomputable abbrev t4:=List U->Ev->Option Ev
noncomputable def tG(c:Cl){f h:Type}(R:Wo->h->f->Prop)(g:f->Ev->Option Ev):h->St->Hp->(St->Hp->Prop)->Prop:=λv i H Q=>∃W d e a,W.H=H/\ER c W i e/\R W v d/\g d e=Qq a/\∀b,ER c W b a->Q b H
structure DG(cl:Cl)(X:Cx)(e:Rx)(g:GT):Prop where
 pe:L2.PG X e (tG cl (RU cl) g)
structure vc(cl:Cl)(X:Cx)(e:List Rx)(g:t4):Prop where
 pe:L2.PGs X e (tG cl (bG cl) g)
section
theorem ER.set(r:ER cl W g a)(f:RU cl W v d)(i:Nat):ER cl W (g.set i (Qq v)) (a.set i (Qq d)):=by
 refine⟨by rw[RR,RR];exact r.len,λj c h=>?_⟩;by_cases e:i=j
 ·subst e;have b:i<a.length:=by have:=(Qw.mp h).1;simp_all
  rw[Q3 b]at h;cases h;exact⟨v,by rw[Q3 (by rw[r.len];exact b)],f⟩
 ·rw[Zy e]at h;obtain⟨u,k,l⟩:=r.get j c h
  simp_all
theorem ER.ext(r:ER cl W f a):ER cl W (f++QE k Qs) (a++QE k Qs):=by
 refine⟨by simp[r.len],λj d h=>?_⟩;by_cases b:j<a.length
 ·rw[Zi b]at h;obtain⟨u,c,e⟩:=r.get j d h;exact⟨u,by rw[Zi (by rw[r.len];exact b)];exact c,e⟩
 ·rw[Zm (by omega),Sa]at h;split at h<;>cases h
noncomputable def gN(i:Nat):GT:=λd a=>Qq (a.set i (Qq d))
theorem eO(i:Nat)(f:X.N.Nodup)(j:autoParam (X.N[i]?=Qq x) A10._auto_1)(k:autoParam (qb X.env.scope x) A22._auto_1)(g:autoParam (X.fn x=Qr\/X.env.scope.names.lookup x=Qq .local) A15._auto_1):DG o X (.Name x l) (gN i):=⟨λa s n H v u Q I m ⟨W,d,p,c,e,b,r,h,q⟩=>L2.zHa f j k g a s n H v u Q I m (by cases h;exact q _ (b.set r i))⟩
noncomputable def f6:t4:=λa b=>match a with
 |[]=>Qq b
 |_=>Qs
noncomputable def cu(g:GT)(e:t4):t4:=λb c=>match b with
 |d::r=>match g d c with
  |some a=>e r a
  |none=>Qs
 |[]=>Qs
theorem mh:vc j X [] f6:=⟨λa s i H g f Q I d ⟨W,k,l,c,e,b,r,h,q⟩=>L2.zRs a s i H g f Q I d (by
 cases r with
 |nil=>cases h;exact⟨rfl,q _ b⟩
 |cons _ _=>cases h)⟩
set_option tactic.hygienic true in
theorem gE(p:DG k X e g)(t:vc k X i n)(w:autoParam ((Se (e::i) X.env).map (·.2)=VR e X.env::(Se i X.env).map (·.2)) A10._auto_1):vc k X (e::i) (cu g n):=⟨λb s B H j A Q I z ⟨W,c,m,a,e,o,r,h,q⟩=>L2.zGx p.pe t.pe w b s B H j A Q I z (by
 cases r with
 |nil=>cases h
 | @cons v d j c x y =>
  have h:(match g d m with|some a=>n c a|none=>Qs)=Qq a:=h;split at h
  ·next l u=>exact⟨v,j,rfl,W,d,m,l,e,o,x,u,λC f=>⟨W,c,l,a,e,f,y,h,q⟩⟩
  ·cases h)⟩
noncomputable def f7(c:t4):GT:=λd b=>match d with
 | .d (.tup a)=>c (a.map .d) b
 |_=>Qs
theorem mx(x:X.calm=Qr)(h:vc o X g m)(y:∀f i a,m f i=Qq a->f.length=n)(z:autoParam ((Se g X.env).length=n) A10._auto_1)(j:autoParam ((Se g X.env).findIdx? (·.1)=Qs) A10._auto_1):DG o X (.Tuple g k A) (f7 m):=⟨λc s E H v u Q I B ⟨W,d,i,a,e,t,r,b,q⟩=>L2.zY0 x h.pe z j c s E H v u Q I B (by
 unfold f7 at b;split at b
 ·next f =>
  obtain⟨p,C,rfl,w,G,l⟩:=qk (K:=X.K) r;exact⟨p,C,rfl,by rw[<- e];exact w,by rw[l.up.length];exact y _ _ _ b,W,_,i,a,e,t,l.up,b,q⟩
 ·cases b)⟩
theorem mD:∀b  c a ,f6 b c=Qq a->b.length=0:=λb c a h=>by
 cases b with
 |nil=>rfl
 |cons _ _=>cases h
theorem gH(f:∀b c a,e b c=Qq a->b.length=n):∀b  c a ,cu g e b c=Qq a->b.length=n+1:=λb c a h=>by
 cases b with
 |nil=>cases h
 |cons d r =>
  have h:(match g d c with|some a=>e r a|none=>Qs)=Qq a:=h;split at h
  ·rw[Zg,f _ _ _ h]
  ·cases h
end
inductive mr where
 |items (ds:List U)|cel (n:Nat)
noncomputable def i5:mr->aE->Nat->Option (Option U)
 | .items a,_,k=>Qq a[k]?
 | .cel n,S,k=>match bI S n with
  |some b=>Qq b[k]?
  |none=>Qs
noncomputable def dY:mr->aE->Nat
 | .items a,_=>a.length
 | .cel n,S=>match bI S n with
  |some b=>b.length
  |none=>0
noncomputable def RI(e:Cl)(W:Wo)(J:It)(i:mr):Prop:=∀b c,aX W b->WR e b c->∀k,match i5 i c k with
 |some (Qq d)=>J.go k b.H/\∀x f,J.yld k b.H x f->∃a,aX b a/\WR e a c/\a.H=f/\RU e a x d
 |some Qs=>J.stop k b.H
 |none=>True
noncomputable abbrev FI:=Ev->aE->aJ mr
structure DI(cl:Cl)(X:Cx)(Z:TZ)(tg e:Rx)(f:FI):Prop where
 pe:L2.PI X tg e (tF cl (RI cl) Z f)
theorem DI.of(h:∃t,L2.PI X i e t/\∀  W   S   a   g   Q ,WR d W S->ER d W a g->PO d (RI d) W Q (Z a) (f g S)->t a W.H Q):DI d X Z i e f:=by
 obtain⟨t,p,c⟩:=h;exact⟨λb s a H Q I ⟨W,S,g,e,w,r,h⟩=>p b s a H Q I (by rw[<- e];exact c W S a g Q w r h)⟩
theorem DI.ex(h:DI a X Z d e f):∃t,L2.PI X d e t/\∀  W   S   c   b   Q ,WR a W S->ER a W c b->PO a (RI a) W Q (Z c) (f b S)->t c W.H Q:=⟨_,h.pe,λW S c b Q w r h=>⟨W,S,b,rfl,w,r,h⟩⟩
section
theorem PI.or(h:L2.PI X c e t)(d:L2.PI X c e u):L2.PI X c e (λb H R=>t b H R\/u b H R):=λa s b H R I q=>q.elim (h a s b H R I) (d a s b H R I)
noncomputable def k9(d:U)(S:aE):aJ mr:=match d with
 | .d (.tup a)=>.ok (.items (a.map .d)) S
 | .d (.lst a)=>.ok (.items (a.map .d)) S
 | .d (.frl a)=>.ok (.items (a.map .d)) S
 | .d (.dct b)=>if((bz b).all λe=>dD e.1)=Qr then .ok (.items ((bz b).map λc=>kL c.1)) S else .st
 | .loc n=>match bI S n with
  |some _=>.ok (.cel n) S
  |none=>.st
 |_=>.st
noncomputable def aL(b:FE):FI:=λa S=>(b a S).bind k9
theorem DF{K:aV}(f:∀a,aX W a->cF K a.H p b)(r:bG h W b c):RI h W (nY K p) (.items c):=λa m e w k=>by
 show match (Qq c[k]?)with|some (Qq d)=>_|some Qs=>_|none=>True
 cases i:c[k]? with
 |some d =>
  obtain⟨v,g,j⟩:=r.get i;refine⟨⟨b,v,f a e,g⟩,λx l y=>?_⟩;obtain⟨rfl,y⟩:=y;have:=y b (f a e);rw[g]at this;cases this;exact⟨a,aX.refl _,w,rfl,j.mono e⟩
 |none=>exact⟨b,f a e,by rw[r.length];simp_all⟩
theorem Qe{K:aV}(f:∀a,aX W a->gC K a.H p b)(r:bG h W b c):RI h W (Ak K p) (.items c):=λa m e w k=>by
 show match (Qq c[k]?)with|some (Qq d)=>_|some Qs=>_|none=>True
 cases i:c[k]? with
 |some d =>
  obtain⟨v,g,j⟩:=r.get i;refine⟨⟨b,v,f a e,g⟩,λx l y=>?_⟩;obtain⟨rfl,y⟩:=y;have:=y b (f a e);rw[g]at this;cases this;exact⟨a,aX.refl _,w,rfl,j.mono e⟩
 |none=>exact⟨b,f a e,by rw[r.length];simp_all⟩
theorem MU{K:aV}(j:W.μ[n]?=Qq p):RI t W (nY K p) (.cel n):=λh g e w k=>by
 have c:h.μ[n]?=Qq p:=by
  obtain⟨B,z⟩:=e.m;rw[z,Zi (Qw.mp j).1];exact j
 show match (match bI g n with|some a=>Qq a[k]?|none=>Qs)with|some (Qq d)=>_|some Qs=>_|none=>True
 cases o:bI g n with
 |none=>trivial
 |some a =>
  obtain⟨A,f,m,_,_,b,u,i⟩:=my w (.loc c) o;cases m;show match (Qq a[k]?)with|some (Qq d)=>_|some Qs=>_|none=>True
  cases q:a[k]? with
  |some d =>
   obtain⟨v,l,r⟩:=i.get q;refine⟨⟨f,v,.of b,l⟩,λx s y=>?_⟩;obtain⟨rfl,y⟩:=y;have:=y f (.of b);rw[l]at this;cases this;exact⟨h,aX.refl _,w,rfl,r⟩
  |none=>exact⟨f,.of b,by rw[i.length];simp_all⟩
theorem D8(u:W.G p)(A:W.H p=Qq (.frz o (.dK m)))(r:bT s W m c)(f:(c.all λe=>dD e.1)=Qr):RI s W (tV p m o) (.items (c.map λa=>kL a.1)):=λn C e w k=>by
 have b:=e.k p _ u rfl A;have j:=(lW r f).up;rw[Z7]at j;show match (Qq (c.map λa=>kL a.1)[k]?)with|some (Qq d)=>_|some Qs=>_|none=>True
 cases f:(c.map λa=>kL a.1)[k]? with
 |some d =>
  obtain⟨v,h,l⟩:=j.get f;rw[Zk]at h;obtain⟨a,g,t⟩:=QA.mp h;refine⟨⟨b,(Qw.mp g).1⟩,λx B y=>?_⟩;obtain⟨rfl,q,z,i,rfl⟩:=y;rw[g]at i;cases i;rw[<- t]at l;exact⟨n,aX.refl _,w,rfl,l.mono e⟩
 |none =>
  refine⟨b,?_⟩;have:=Q2.mp f;rw[Z0]at this;rw[r.length];exact this
theorem PO.bindE{R2:Wo->n->j->Prop}{Q:m->Hp->Prop}{Z:QC->QC->Hp->Prop}{k:l->aE->aJ j}(h:PO b R2 W f Z (o.bind k))(i:∀d S a v,o=.ok d S->aX W a->WR b a S->R a v d->PO b R2 a f Z (k d S)->Q v a.H):PO b R W Q Z o:=by
 cases o with
 |ok d S=>exact λg v e w r=>i d S g v rfl e w r (PO.ext h e)
 |ex c S=>exact h
 |st=>exact h
noncomputable def o8(c:TE):TI:=λe H R=>c e H λx b=>∃d a,x=.ref d/\((b d=Qq (.dK a)/\∀o,R (tV d a o) (upd b d (.frz o (.dK a))))\/∃o,b d=Qq (.frz o (.dK a))/\R (tV d a o) b)
theorem OL(E:L2.PE X l P):L2.PI X O l (o8 P):=by
 intro a s w H R I h;refine bt (E a s w H _ I h) λv i ⟨x,S,t,N,M⟩=>?_;obtain⟨d,p,rfl,q⟩:=M;obtain rfl:v=QV d:=N;have m:∀  o   j   f   r ,o.data=.dict j f->aD X a w r i->r d=Qq (.frz o (.dK p))->R (tV d p o) r->QI (QJ X.prog X.w) X.A (UF (.ref d)) (sQ X a w O R) X.xe i:=λo j f r k J n q=>by
  obtain⟨Q,G,z,lo⟩:=J.dictAt n k;refine wpAny_pyIter_dict lo z ?_;have y:=J.kept (t':=i.toks) (h':=i.heap.push {cls:=.type "dict_keyiterator",data:=.fields #[.ref d,.int 0 0,.int Q.length 0,.int f 0]}) λb u e=>Z1 _ e;refine⟨i.heap.objs.size,[i.heap.objs.size],_,_,_,rfl,y,N6 k,⟨_,Z5 _ rfl,rfl,by rw[G.len];rfl⟩,λc B=>?_,q⟩;have:c=i.heap.objs.size:=by simpa using B
  subst this;exact J.fpOk (Z3 _) (J.hok.fresh (Z3 _))
 rcases q with⟨C,q⟩|⟨L,n,q⟩
 ·obtain⟨o,j,f,k,g,J⟩:=t.freeze (.inl C);exact m o j f _ k J dm (q o)
 ·obtain⟨o,j,f,k,g,J⟩:=t.freeze (.inr ⟨L,n⟩);obtain⟨A,_⟩:=t.hok d _ n;rw[A]at g;cases g;exact m _ j f _ k t n q
theorem eQ(P:DE u X Z a G):DI u X Z tg a (aL G):=by
 obtain⟨ta,H,N⟩:=P.ex;refine .of ⟨_,PI.or (L2.zMr H) (PI.or (L2.yDl H) (OL H)),λW S C E Q w r h=>?_⟩;have m:∀  t ,(∀d j k v,G E S=.ok d j->aX W k->WR u k j->RU u k v d->PO u (RI u) k Q (Z C) (k9 d j)->t v k.H)->ta C W.H t:=λt T=>N W S C E _ w r (PO.bindE h λd j k v f y q i b=>T d j k v f y q i b);cases z:G E S with
 |ok d j =>
  cases d with
  |d x =>
   cases x with
   |tup I =>
    refine .inr (.inl (m _ λd j k v f y q i b=>?_));rw[z]at f;cases f;cases i with
    |d i =>
    cases i with
    | @tup p s _ g e l A=>exact⟨p,rfl,⟨s,.of e⟩,b.now q (Qe (λJ B=>.of (B.k _ _ g rfl e)) A.up)⟩
   |lst I =>
    refine .inl (m _ λd j k v f y q i b=>?_);rw[z]at f;cases f;cases i with
    |d i =>
    cases i with
    | @lst p s _ g e l A=>exact⟨p,rfl,⟨s,.of e⟩,b.now q (DF (λJ B=>.of (B.k _ _ g rfl e)) A.up)⟩
   |frl I =>
    refine .inl (m _ λd j k v f y q i b=>?_);rw[z]at f;cases f;cases i with
    |d i =>
    cases i with
    | @frl p o s _ g e l A=>exact⟨p,rfl,⟨s,.inl (.inr ⟨o,e⟩)⟩,b.now q (DF (λJ B=>.inl (.inr ⟨o,B.k _ _ g rfl e⟩)) A.up)⟩
   |dct L =>
    refine .inr (.inr (m _ λd j k v f y q i b=>?_));rw[z]at f;cases f;have b:PO u (RI u) k Q (Z C) (if((bz L).all λe=>dD e.1)=Qr then .ok (.items ((bz L).map λY=>kL Y.1)) j else .st):=b;split at b
    ·next M =>
     cases i with
     |d i =>
     cases i with
     | @dct p s _ g e l A =>
      refine⟨p,s,rfl,?_⟩;rcases e with e|⟨o,e⟩
      ·exact .inl ⟨e,λo=>b (k.put p (.frz o (.dK s))) _ (aX.frz g e) (q.frz g e) (D8 g dm (A.mono (aX.frz g e)).up M)⟩
      ·exact .inr ⟨o,e,b.now q (D8 g e A.up M)⟩
    ·exact b.elim
   |_=>rw[aL,z]at h;exact h.elim
  |loc n =>
   refine .inl (m _ λd j k v f y q i b=>?_);rw[z]at f;cases f;have b:PO u (RI u) k Q (Z C) (match bI j n with|some _=>.ok (.cel n) j|none=>.st):=b;split at b
   ·next I O =>
    obtain⟨p,s,rfl,R,hg,y,e2,e3⟩:=my q i O;exact⟨p,rfl,⟨s,.of y⟩,b.now q (MU R)⟩
   ·exact b.elim
 |ex c j=>exact .inl (m _ λd j k v f=>by rw[z]at f;cases f)
 |st=>rw[aL,z]at h;exact h.elim
end
noncomputable def tq{a:Type}:aJ a->aJ a
 | .ex _ _=>.st
 |o=>o
noncomputable def ZN:TZ:=λ_ ω ω ω=>False
noncomputable def fv(e:mr)(g:GT)(t:FT)(f:FE)(h:Ev):Nat->Nat->List U->aE->aJ (List U)
 | 0,k,a,S=>match i5 e S k with
  |some Qs=>.ok a S
  |_=>.st
 |r+1,k,a,S=>match i5 e S k with
  |some Qs=>.ok a S
  |some (Qq d)=>match g d h with
   |some c=>(t c S).bind λb S=>match b with
    |true=>(f c S).bind λy S=>fv e g t f h r (k+1) (a++[y]) S
    |false=>fv e g t f h r (k+1) a S
   |none=>.st
  |none=>.st
noncomputable def aK(T:Nat)(fi:FI)(g:GT)(t:FT)(f:FE):FE:=λb S=>(fi b S).bind λa S=>if dY a S<=LM then(tq (fv a g t f (b++QE T Qs) (dY a S) 0 [] S)).bind eU else .st
structure n9(cl:Cl)(X:Cx)(Z:TZ)(e:List Rx)(f:FT):Prop where
 pe:L2.PFs X e (tF cl RB Z f)
noncomputable def dE:FT:=λ_ S=>.ok Qr S
section
variable {Z:TZ}{T:List QD}
theorem hG:n9 c X Z [] dE:=⟨λa s b H Q I ⟨W,S,d,e,w,r,h⟩=>L2.yDo a s b H Q I (by rw[<- e];exact h.now w rfl)⟩
theorem rL(h:DT a X Z c t):n9 a X Z [c] t:=⟨L2.zY1 h.pe⟩
theorem PO.bindN{R2:Wo->q->p->Prop}{Q:n->Hp->Prop}{Z i:QC->QC->Hp->Prop}{k:l->aE->aJ s}(h:PO b R2 W f Z ((tq (o.bind k)).bind m))(j:∀d S a v,aX W a->WR b a S->R a v d->PO b R2 a f Z ((tq (k d S)).bind m)->Q v a.H):PO b R W Q i o:=by
 cases o with
 |ok d S=>exact λg v e w r=>j d S g v e w r (PO.ext h e)
 |ex c S=>exact(h).elim
 |st=>exact(h).elim
theorem E6(ri:RI a w J C)(er:ER a w G I)(w1:WR a w N)(hl:n<=LM)
 (h:PO a (RU a) w Q (Z G) ((tq (fv C g t f (I++QE T.length Qs) n 0 [] N)).bind eU)):fO J T.length G w.H (tG a (RU a) g) (tF a RB ZN t) (tF a (RU a) ZN f) Q:=by
 refine⟨λi m z H=>∃e l c,e.H=H/\aX w e/\WR a e l/\bG a e z c/\z.length<=i/\i+m<=LM/\PO a (RU a) e Q (Z G) ((tq (fv C g t f (I++QE T.length Qs) m i c l)).bind eU),⟨n,w,N,[],rfl,aX.refl _,w1,.nil,Z3 _,by omega,h⟩,?_⟩;rintro i m z H ⟨e,l,c,rfl,e2,X,M,l1,l2,h⟩;have q:=ri e l e2 X i;have k:z.length<=QG:=nU (by omega);have s:i5 C l i=Qq Qs->PO a (RU a) e Q (Z G) (eU c l)->(J.stop i e.H/\z.length<=QG/\∀p,e.H p=Qs->Q (.ref p) (upd e.H p (.lst z))):=λj h=>by
  rw[j]at q;exact⟨q,k,(ni X M h).2⟩
 cases m with
 |zero =>
  unfold fv at h;cases j:i5 C l i with
  |none=>rw[j]at h;exact(h).elim
  |some o =>
   cases o with
   |none=>rw[j]at h;exact .inl (s j h)
   |some d=>rw[j]at h;exact(h).elim
 |succ m =>
  unfold fv at h;cases j:i5 C l i with
  |none=>rw[j]at h;exact(h).elim
  |some o =>
   cases o with
   |none=>rw[j]at h;exact .inl (s j h)
   |some d =>
    rw[j]at h q;refine .inr ⟨q.1,k,λx H' y=>?_⟩;obtain⟨P,A,w3,rfl,rx⟩:=q.2 x H' y;have h:=PO.ext h A;cases L:g d (I++QE T.length Qs)with
    |none=>simp[L]at h;exact(h).elim
    |some u =>
     simp only[L]at h;refine⟨P,d,_,u,rfl,((er.mono e2).mono A).ext,rx,L,λaa B=>⟨P,l,u,rfl,w3,B,PO.bindN h λb O R b' E Y rb W=>?_⟩⟩;subst rb;have r:=(e2.trans A).trans E;cases b' with
     |true =>
      rw[if_pos rfl];refine⟨R,O,u,rfl,Y,B.mono E,PO.bindN W λy S5 W5 v S w5 ry h5=>?_⟩;exact⟨m,Y0 _,W5,S5,c++[y],rfl,r.trans S,w5,(((M.mono A).mono E).mono S).append (.cons ry .nil),by simp_all,by omega,h5⟩
     |false =>
      rw[if_neg Zb];exact⟨m,Y0 _,R,O,c,rfl,r,Y,(M.mono A).mono E,by omega,by omega,W⟩
theorem FQ(q:X.calm=Qr)(S:dh X d e T)(z:DI c X Z l b p)(y:∀C s H a,DG c (br X d e T C s H a) l g)(v:∀C s H a,n9 c (br X d e T C s H a) ZN k t)(u:∀C s H a,DE c (br X d e T C s H a) ZN i f)(B:autoParam (∀x,Rt b X.env x=pure x) A13._auto_1):DE c X Z (.ListComp i [⟨l,b,k,0⟩] d G) (aK T.length p g t f):=by
 obtain⟨R,E,m⟩:=z.ex;refine .of ⟨_,L2.zRx q S E (λC s H a=>(y C s H a).pe) (λC s H a=>(v C s H a).pe) (λC s H a=>(u C s H a).pe) B,λW S M o Q w r h=>m W S M o _ w r (PO.bind h λP N O J n L I j=>?_)⟩;split at j
 ·next A=>exact E6 I (r.mono n) L A j
 ·exact j.elim
end
noncomputable def PF(f:Cl)(W:Wo)(D:gM)(Z:TZ):Fl->Prop
 | .nx e S=>∀a b,aX W a->WR f a S->ER f a b e->D.nx b a.H
 | .rt d S=>∀a v,aX W a->WR f a S->RU f a v d->D.rt v a.H
 | .bk e S=>∀a b,aX W a->WR f a S->ER f a b e->D.bk b a.H
 | .ct e S=>∀a b,aX W a->WR f a S->ER f a b e->D.ct b a.H
 | .ex c e S=>∀a b x,aX W a->WR f a S->ER f a b e->a.H x=Qq (XO (f c) x)->Z b x (f c) a.H
 | .st=>False
theorem PF.ext{D:gM}(h:PF cl W D Z f)(e:aX W i):PF cl i D Z f:=by
 cases f with
 |nx g S=>exact λa b e2 w r=>h a b (e.trans e2) w r
 |rt d S=>exact λa v e2 w r=>h a v (e.trans e2) w r
 |bk g S=>exact λa b e2 w r=>h a b (e.trans e2) w r
 |ct g S=>exact λa b e2 w r=>h a b (e.trans e2) w r
 |ex c g S=>exact λa b x e2 w r j=>h a b x (e.trans e2) w r j
 |st=>exact h
noncomputable def bW{a:Type}(o:aJ a)(b:Ev)(k:a->aE->Fl):Fl:=match o with
 | .ok d S=>k d S
 | .ex c S=>.ex c b S
 | .st=>.st
theorem PF.bind{D:gM}{k:n->aE->Fl}{Q:p->Hp->Prop}(h:PF b W D Z (bW o j k))(i:ER b W g j)(l:∀d S a v,aX W a->WR b a S->R a v d->PF b a D Z (k d S)->Q v a.H):PO b R W Q (Z g) o:=by
 cases o with
 |ok d S=>exact λf v e w r=>l d S f v e w r (PF.ext h e)
 |ex c S=>exact λf x e w m=>h f g x e w (i.mono e) m
 |st=>exact h
theorem PF.nx'{D:gM}(h:PF a W D Z (.nx e S))(w:WR a W S)(r:ER a W b e):D.nx b W.H:=h W b (aX.refl W) w r
noncomputable def tS(a:Cl)(Z:TZ)(f:FS):TS:=λD c H=>∃W S b,W.H=H/\WR a W S/\ER a W c b/\PF a W D Z (f b S)
structure DS(cl:Cl)(X:Cx)(Z:TZ)(s:RX)(f:FS):Prop where
 pe:L2.PS X s (tS cl Z f)
structure j1(cl:Cl)(X:Cx)(Z:TZ)(s:List RX)(f:FS):Prop where
 pe:L2.PSs X s (tS cl Z f)
theorem DS.of(h:∃t,L2.PS X s t/\∀  W   S   b   d   D ,WR g W S->ER g W b d->PF g W D Z (f d S)->t D b W.H):DS g X Z s f:=by
 obtain⟨t,p,c⟩:=h;exact⟨λa s b H D I ⟨W,S,d,e,w,r,h⟩=>p a s b H D I (by rw[<- e];exact c W S b d D w r h)⟩
theorem j1.of(h:∃t,L2.PSs X s t/\∀  W   S   b   d   D ,WR g W S->ER g W b d->PF g W D Z (f d S)->t D b W.H):j1 g X Z s f:=by
 obtain⟨t,p,c⟩:=h;exact⟨λa s b H D I ⟨W,S,d,e,w,r,h⟩=>p a s b H D I (by rw[<- e];exact c W S b d D w r h)⟩
noncomputable def hZ:FS:=λa S=>.nx a S
noncomputable def aO(f g:FS):FS:=λa S=>match f a S with
 | .nx e S=>g e S
 |o=>o
noncomputable def aY(i:Nat)(b:FE):FS:=λa S=>bW (b a S) a λd S=>.nx (a.set i (Qq d)) S
noncomputable def kN(g:GT)(fa:FE):FS:=λa S=>bW (fa a S) a λd S=>match g d a with
 |some e=>.nx e S
 |none=>.st
noncomputable def fB(b:FE):FS:=λa S=>bW (b a S) a λ_ S=>.nx a S
noncomputable def cD(b:FE):FS:=λa S=>bW (b a S) a λd S=>.rt d S
noncomputable def zx:FS:=λ_ S=>.rt (.d .non) S
noncomputable def gP(t:FT)(f g:FS):FS:=λa S=>bW (t a S) a λb S=>match b with
 |true=>f a S
 |false=>g a S
section
theorem dQ:j1 a X Z [] hZ:=.of ⟨_,L2.zZm,λW S c b D w r h=>h.nx' w r⟩
theorem bq(l:DS i X Z s f)(m:j1 i X Z o g):j1 i X Z (s::o) (aO f g):=by
 refine .of ⟨_,L2.zJd l.pe m.pe,λW S t j D w r h=>⟨W,S,j,rfl,w,r,?_⟩⟩;unfold aO at h;cases a:f j S with
 |nx e b=>rw[a]at h;exact λk q e2 p n=>⟨k,b,e,rfl,p,n,PF.ext h e2⟩
 |rt d b=>rw[a]at h;exact h
 |bk e b=>rw[a]at h;exact h
 |ct e b=>rw[a]at h;exact h
 |ex c e b=>rw[a]at h;exact h
 |st=>rw[a]at h;exact h
theorem bC(b:DS a X Z s f):j1 a X Z [s] f:=⟨L2.zMp b.pe⟩
theorem cC(i:Nat)(l:X.N.Nodup)(m:DE e X Z a j)(o:autoParam (X.N[i]?=Qq x) A10._auto_1)(q:autoParam (qb X.env.scope x) A22._auto_1)(p:autoParam (Sl a (Qq (.Name x s)) b.line X.env=pure Qv) A10._auto_1)(n:autoParam (X.fn x=Qr\/X.env.scope.names.lookup x=Qq .local) A15._auto_1):DS e X Z (.Assign [.Name x s] a b) (aY i j):=by
 obtain⟨C,t,c⟩:=m.ex;exact .of ⟨_,L2.zXv l o q t p n,λW S z g D w r h=>c W S z g _ w r (PF.bind h r λd A B v f y u k=>k.nx' y ((r.mono f).set u i))⟩
set_option tactic.hygienic true in
theorem FB{g:GT}(o:DE j X Z a fa)(q:DG j X c g)(s:autoParam (Xm [c] a i.line X.env=pure Qv) A10._auto_1)(t:autoParam (Xn [c] a X.env=pure Qs) A10._auto_1)(b:autoParam ((Se [c] X.env).map (·.2)=[VR c X.env]) A10._auto_1):DS j X Z (.Assign [c] a i) (kN g fa):=by
 obtain⟨C,u,m⟩:=o.ex;refine .of ⟨_,L2.zXy u q.pe s t b,λW S z k D w r h=>m W S z k _ w r (PF.bind h r λd B l v n y x b=>?_)⟩;split at b
 ·next e p=>exact⟨l,d,k,e,rfl,r.mono n,x,p,λA f=>b.nx' y f⟩
 ·exact b.elim
theorem mX(k:DE e X Z a i)(l:autoParam (Sl a Qs b.line X.env=pure Qv) A10._auto_1):DS e X Z (.Expr a b) (fB i):=by
 obtain⟨t,m,c⟩:=k.ex;exact .of ⟨_,L2.zZo m l,λW S o g D w r h=>c W S o g _ w r (PF.bind h r λd p q v f n s j=>j.nx' n (r.mono f))⟩
theorem cw(j:DE e X Z a g):DS e X Z (.Return (Qq a) l) (cD g):=by
 obtain⟨s,k,c⟩:=j.ex;exact .of ⟨_,L2.zXw k,λW S o f D w r h=>c W S o f _ w r (PF.bind h r λd p b v q n m i=>i b v (aX.refl _) n m)⟩
theorem dR(o:DT b X Z c t)(a:j1 b X Z u f)(n:j1 b X Z x g):DS b X Z (.If c u x q) (gP t f g):=by
 obtain⟨z,p,m⟩:=o.ex;refine .of ⟨_,L2.ps_if p a.pe n.pe,λW S y e D w r h=>m W S y e _ w r (PF.bind h r λd i j v k l s a=>?_)⟩;subst s;cases v with
 |true=>rw[if_pos rfl];exact⟨j,i,e,rfl,l,r.mono k,a⟩
 |false=>rw[if_neg Zb];exact⟨j,i,e,rfl,l,r.mono k,a⟩
noncomputable def iv(e:kI)(b:QD)(f g:FE):FS:=λa S=>bW (g a S) a λv S=>bW (f a S) a λo S=>match o with
 | .loc n=>match jo S n with
  |some (c,d)=>if lC e c b=Qr/\d.length<1000 then .nx a (S.set n (.ins c (jn b v d)))else .st
  |none=>.st
 |_=>.st
set_option tactic.hygienic true in
theorem Pj(T:kM X.K b E)(M:DE b X Z o I)(O:DE b X Z v J)(N:autoParam (Sl v (Qq (.Attribute o e R)) m.line X.env=pure Qv) A10._auto_1):DS b X Z (.Assign [.Attribute o e R] v m) (iv E e I J):=by
 obtain⟨to,Y,C⟩:=M.ex;obtain⟨tv,pv,G⟩:=O.ex;refine .of ⟨_,L2.yDg Y pv N,λW S q s D w r h=>G W S q s _ w r (PF.bind h r λd A B v i w1 r1 L=>C B A q s _ w1 (r.mono i) (PF.bind L (r.mono i) λd2 S2 g v2 e2 z r2 a=>?_))⟩;split at a
 ·next n =>
  split at a
  ·next c gs H =>
   split at a
   ·next x =>
    obtain⟨p,f,k,rfl,y,l,t,u⟩:=Fq z r2 H;obtain⟨P,Q⟩:=T.fl c e x.1;have j:aX g (g.put p (.ins (b c) f (putF e v k))):=aX.put (Ze y) l ⟨_,t,rfl⟩;exact⟨p,_,f,k,rfl,t,P,Q,by rw[u.length];exact x.2,a (g.put p (.ins (b c) f (putF e v k))) q j (z.put y l ⟨l,f,_,dm,(bT.putF (r1.mono e2) u).mono j⟩) (((r.mono i).mono e2).mono j)⟩
   ·exact a.elim
  ·exact a.elim
 ·exact a.elim
noncomputable def iN(d c e:FE):FS:=λa S=>bW (e a S) a λv S=>bW (d a S) a λo S=>bW (c a S) a λk S=>match o with
 | .loc n=>match eR S n,fU k with
  |some b,Qq k=>if b.length<LM then .nx a (S.set n (.dct (g7 b k v)))else .st
  |_,_=>.st
 |_=>.st
theorem OJ{a:Type}[DecidableEq a](b:List (a×V))(k:a)(v:V):(dg b k v).length<=b.length+1:=by
 unfold dg;split
 all_goals simp_all
set_option tactic.hygienic true in
theorem vA(R:X.A.units+1<Rq)(P:DE e X Z o G)(N:DE e X Z k E)(T:DE e X Z v H)(Q:autoParam (Sl v (Qq (.Subscript o k Y)) j.line X.env=pure Qv) A10._auto_1):DS e X Z (.Assign [.Subscript o k Y] v j) (iN G E H):=by
 obtain⟨to,po,z⟩:=P.ex;obtain⟨tk,pk,y⟩:=N.ex;obtain⟨tv,pv,A⟩:=T.ex;refine .of ⟨_,L2.zZp R po pk pv Q,λW S c g D w r h=>A W S c g _ w r (PF.bind h r λd s u v b w1 r1 J=>z u s c g _ w1 (r.mono b) (PF.bind J (r.mono b) λd2 t x v2 e2 w2 r2 L=>y x t c g _ w2 ((r.mono b).mono e2) (PF.bind L ((r.mono b).mono e2) λd3 S3 W3 v3 f q r3 a=>?_)))⟩;split at a
 ·next n =>
  split at a
  ·next es k B C =>
   split at a
   ·next i =>
    obtain⟨p,vs,rfl,O,M,I,g2,m⟩:=xC q (r2.mono f) B;rw[<- m.length]at i;obtain⟨l,w4⟩:=Hh q O M (Z9 (OJ vs k v) i) (bT.put ((r1.mono e2).mono f) m);refine⟨p,_,rfl,by rw[kY r3 C];exact jL.k I (Zd i (by decide)),a _ c l w4 ((((r.mono b).mono e2).mono f).mono l)⟩
   ·exact a.elim
  ·exact a.elim
 ·exact a.elim
noncomputable def eM(f:mr)(g:GT)(b:FS):Nat->Nat->Ev->aE->Fl
 | 0,k,a,S=>match i5 f S k with
  |some Qs=>.nx a S
  |_=>.st
 |r+1,k,a,S=>match i5 f S k with
  |some Qs=>.nx a S
  |some (Qq d)=>match g d a with
   |some h=>match b h S with
    | .nx e S=>eM f g b r (k+1) e S
    | .ct e S=>eM f g b r (k+1) e S
    | .bk e S=>.nx e S
    | .rt d S=>.rt d S
    | .ex c e S=>.ex c e S
    | .st=>.st
   |none=>.st
  |none=>.st
noncomputable def dP(d:FI)(g:GT)(b:FS):FS:=λa S=>bW (d a S) a λc S=>eM c g b (dY c S) 0 a S
theorem jq{g:GT}{b:FS}(hp:XB (QJ X.prog X.w) X.A X.env X.xe)(hc:X.calm=Qr)(f:DI l X Z tg s fi)(I:DG l X tg g)(p:j1 l X Z B b)(hs:autoParam (∀x,Rt s X.env x=pure x) A13._auto_1):DS l X Z (.For tg s B [] ab) (dP fi g b):=by
 obtain⟨ti,pi,ci⟩:=f.ex;refine .of ⟨_,L2.zXx hp hc pi I.pe p.pe hs,λW S M ev D w r h=>ci W S M ev _ w r (PF.bind h r λL S1 P J e1 w1 ri h1=>?_)⟩;refine⟨λi m M H=>∃k j a,k.H=H/\aX P k/\WR l k j/\ER l k M a/\PF l k D Z (eM L g b m i a j),⟨_,P,S1,ev,rfl,aX.refl _,w1,r.mono e1,h1⟩,?_⟩;rintro i m M H ⟨k,j,a,rfl,e2,w2,E,h⟩;have q:=ri k j e2 w2 i;have t:i5 L j i=Qq Qs->PF l k D Z (.nx a j)->(J.stop i k.H/\D.nx M k.H):=λf h=>by
  rw[f]at q;exact⟨q,h.nx' w2 E⟩
 cases m with
 |zero =>
  unfold eM at h;cases f:i5 L j i with
  |none=>rw[f]at h;exact(h).elim
  |some o =>
   cases o with
   |none=>rw[f]at h;exact .inl (t f h)
   |some d=>rw[f]at h;exact(h).elim
 |succ m =>
  unfold eM at h;cases f:i5 L j i with
  |none=>rw[f]at h;exact(h).elim
  |some o =>
   cases o with
   |none=>rw[f]at h;exact .inl (t f h)
   |some d =>
    rw[f]at h q;refine .inr ⟨q.1,λv N=>∃n S3 G,n.H=N/\aX P n/\WR l n S3/\ER l n v G/\PF l n D Z (eM L g b m (i+1) G S3),λv N z=>⟨m,Y0 _,z⟩,λx N y=>?_⟩;obtain⟨n,O,w3,rfl,rx⟩:=q.2 x N y;have h:=PF.ext h O;cases I:g d a with
    |none=>simp only[I]at h;exact(h).elim
    |some u =>
     simp[I]at h;refine⟨n,d,a,u,rfl,E.mono O,rx,I,λv R=>⟨n,j,u,rfl,w3,R,?_⟩⟩;cases p:b u j with
     |nx e A=>rw[p]at h;exact λQ aa C Y T=>⟨Q,A,e,rfl,(e2.trans O).trans C,Y,T,PF.ext h C⟩
     |ct e A=>rw[p]at h;exact λQ aa C Y T=>⟨Q,A,e,rfl,(e2.trans O).trans C,Y,T,PF.ext h C⟩
     |bk e A=>rw[p]at h;exact h
     |rt d A=>rw[p]at h;exact h
     |ex c e A=>rw[p]at h;exact h
     |st=>rw[p]at h;exact h
noncomputable def da(t:FT)(b:FS):Nat->Ev->aE->Fl
 | 0,_,_=>.st
 |r+1,a,S=>bW (t a S) a λk S=>match k with
  |true=>match b a S with
   | .nx e S=>da t b r e S
   | .ct e S=>da t b r e S
   | .bk e S=>.nx e S
   | .rt d S=>.rt d S
   | .ex c e S=>.ex c e S
   | .st=>.st
  |false=>.nx a S
noncomputable def iP(n:Nat)(t:FT)(b:FS):FS:=da t b n
theorem G3{b:FS}(P:XB (QJ X.prog X.w) X.A X.env X.xe)(O:DT l X Z c t)(o:j1 l X Z q b):DS l X Z (.While c q [] T) (iP n t b):=by
 obtain⟨tc,R,M⟩:=O.ex;refine .of ⟨_,L2.zVa P R o.pe,λW S x N D w r h=>?_⟩;refine⟨λm x H=>∃p v a,p.H=H/\WR l p v/\ER l p x a/\PF l p D Z (da t b m a v),⟨n,W,S,N,rfl,w,r,h⟩,?_⟩;rintro m x H ⟨p,v,a,rfl,w2,i,h⟩;cases m with
 |zero=>exact(h).elim
 |succ m =>
  refine M p v x a _ w2 i (PF.bind h i λk G L Q I J Y f=>?_);subst Y;cases Q with
  |false=>rw[if_neg Zb];exact f.nx' J (i.mono I)
  |true =>
   rw[if_pos rfl];refine⟨λu E=>∃j g s,j.H=E/\WR l j g/\ER l j u s/\PF l j D Z (da t b m s g),λu E z=>⟨m,Y0 _,z⟩,L,G,a,rfl,J,i.mono I,?_⟩;cases o:b a G with
   |nx e g=>simp[o]at f;exact λj C y B A=>⟨j,g,e,rfl,B,A,PF.ext f y⟩
   |ct e g=>simp only[o]at f;exact λj C y B A=>⟨j,g,e,rfl,B,A,PF.ext f y⟩
   |bk e g=>simp[o]at f;exact f
   |rt d g=>simp[o]at f;exact f
   |ex c e g=>simp[o]at f;exact f
   |st=>simp[o]at f;exact f
end
noncomputable def jA(a:Cl)(F:Fn):Sp:=λd H Q E=>∃W S b,W.H=H/\WR a W S/\bG a W d b/\PO a (RU a) W Q (λx C c=>E (.ref C) (Qq x) c) (F b S)
noncomputable def dF:Fl->aJ U
 | .nx _ S=>.ok (.d .non) S
 | .rt d S=>.ok d S
 | .ex c _ S=>.ex c S
 |_=>.st
noncomputable def b8(n m:Nat)(b:FS):Fn:=λa S=>if a.length=m then dF (b (a.map Qq++QE (n-m) Qs) S)else .st
noncomputable def ZE(E:XK):TZ:=λ_ x C a=>E (.ref C) (Qq x) a
structure kD(K:aV)(x qual:QD)(st:RX)(f:QC)(fd:RE):Prop where
 ex:∃(oc:Qz) (od:Option QC) (dV kV doc pm:Qz) (an:Option QC) (cdv ct:Qz) (osl:Array (Option Qz)),
  fd=Q0 x qual (bp st) (bo st) (aF st) dV kV doc pm an cdv ct/\K.lookup f=Qq ⟨oc,od,.func fd,osl⟩/\Ry K cdv qual=Qr
 kp:Rk K (.ref f)=Qr
theorem Gd:∀ {b:List V}{a:List U},bG c W b a->ER c W (eX N b) (a.map Qq++QE (N.length-a.length) Qs):=fun {b a} r=>by
 refine⟨by unfold eX;simp[r.length],λi d h=>?_⟩;unfold eX;by_cases g:i<a.length
 ·rw[Zi (by simp_all),Zk]at h;obtain⟨l,e,f⟩:=QA.mp h;cases f;obtain⟨v,j,k⟩:=r.get e;exact⟨v,by rw[Zi (by rw[Z0,r.length];exact g),Zk,j];rfl,k⟩
 ·rw[Zm (by simp_all),Sa]at h;split at h<;>cases h
section
variable {K:aV}
noncomputable abbrev wV(P:QW)(w:Rm)(K:aV)(mg:QD->Option Qz)(base:RS)(N:List QD)(qual:QD)(st:RX)(f:QC)(cdv:Qz)(A:RT)(outer:List X9)(s:QF)(H:Hp)(E:XK):Cx:=so fy P w K mg base N qual (aF st) f cdv A outer s H E
theorem Lz{st:RX}(F:kD K x i st f C)(z:eF N y (aF st))
 (G:∀  g   A   a   s   H  (E:XK),cV k (A.deeper (Ur i (aF st) s.heap.objs.size f g))->j1 cl (wV P w K mg base N i st f g A a s H E) (ZE E) (bo st) b):c7 P w K mg base fy (k+1) f C y (jA cl (b8 N.length y.length b)):=by
 obtain⟨X,Y,dV,kV,B,Z,R,g,T,M,rfl,L,p⟩:=F.ex;refine yW L p z (λO H Q E ⟨W,S,o,e,w,t,h⟩=>?_) λA a s H O Q E I ⟨W,S,o,e,w,t,h⟩=>?_
 ·unfold b8 at h;split at h
  ·next q=>rw[t.length];exact q
  ·exact h.elim
 ·subst e;refine⟨_,(G g A a s W.H E I).pe,W,S,_,rfl,w,Gd t,?_⟩;unfold b8 at h;split at h
  ·next q =>
   rw[<- q]at h;cases j:b (o.map Qq++QE (N.length-o.length) Qs) S with
   |nx e n=>rw[j]at h;exact λl u e2 m r=>h l .non e2 m (.d .non)
   |rt d n=>rw[j]at h;exact λl v e2 m r=>h l v e2 m r
   |bk e n=>rw[j]at h;exact h.elim
   |ct e n=>rw[j]at h;exact h.elim
   |ex c e n=>rw[j]at h;exact λl u x e2 m r J=>h l x e2 m J
   |st=>rw[j]at h;exact h.elim
  ·exact h.elim
end
noncomputable def iH(b:jw)(X:Cx)(Z:TZ):Prop:=fx b X (λe a d c=>∃x C,a=.ref C/\d=Qq x/\Z e x C c)
theorem mM{X:Cx}:iH fy X ZN:=λ_ ω ω ω ω ω ω c=>c.elim
theorem bO{X:Cx}{Z:TZ}:iH fy X Z:=λ_ ω ω ω ω ω ω c=>c.elim
noncomputable def A5:FS:=λ_ ω=>.st
theorem jU{b:Cl}{X:Cx}{Z:TZ}{s:RX}:DS b X Z s A5:=⟨λa s d H D I ⟨W,S,c,e,w,r,h⟩=>h.elim⟩
section
variable {Z:TZ}
theorem t5(w:WR a W S)(r:bG a W f c)(h:PO a (RU a) W Q (Z σ) (F c S)):jA a F f W.H Q (λb e d=>∃x C,b=.ref C/\e=Qq x/\Z σ x C d):=by
 refine⟨W,S,c,rfl,w,r,?_⟩
 simp_all
end
noncomputable def di(f:U->Option D):List U->Option (List D)
 |[]=>Qq []
 |u::r=>match f u,di f r with
  |some x,Qq a=>Qq (x::a)
  |_,_=>Qs
noncomputable def bP{a:Type}(f:U->Option D):List (a×U)->Option (List (a×D))
 |[]=>Qq []
 |(k,u)::r=>match f u,bP f r with
  |some x,Qq b=>Qq ((k,x)::b)
  |_,_=>Qs
noncomputable def cZ:Nat->aE->U->Option D
 | 0,_,u=>match u with
  | .d x=>Qq x
  | .loc _=>Qs
 |n+1,S,u=>match u with
  | .d x=>Qq x
  | .loc k=>match S[k]? with
   |some (.lst e)=>(di (cZ n S) e).map .lst
   |some (.dct a)=>(bP (cZ n S) a).map .dct
   |some (.ins c b)=>(bP (cZ n S) b).map (.obj c)
   |_=>Qs
mutual
theorem Rp.to{cl:Cl}{W W':Wo}(hg:∀a,W.G a->W'.G a)(hh:W'.H=W.H):∀ {v:V}{d:D},Rp cl W v d->Rp cl W' v d
 |_,_,.non=>.non
 |_,_,.bl b=>.bl b
 |_,_,.int i=>.int i
 |_,_,.str x h=>.str x h
 |_,_,.tup g h l r=>.tup (hg _ g) (by rw[hh];exact h) l (RpAll.to hg hh r)
 |_,_,.lst g h l r=>.lst (hg _ g) (by rw[hh];exact h) l (RpAll.to hg hh r)
 |_,_,.frl g h l r=>.frl (hg _ g) (by rw[hh];exact h) l (RpAll.to hg hh r)
 |_,_,.dct g h l r=>.dct (hg _ g) (by rw[hh];exact h) l (RpK.to hg hh r)
 |_,_,.obj g h r=>.obj (hg _ g) (by rw[hh];exact h) (RpF.to hg hh r)
theorem RpAll.to{cl:Cl}{W W':Wo}(hg:∀a,W.G a->W'.G a)(hh:W'.H=W.H):∀ {vs:List V}{ds:List D},RpAll cl W vs ds->RpAll cl W' vs ds
 |_,_,.nil=>.nil
 |_,_,.cons r t=>.cons (Rp.to hg hh r) (RpAll.to hg hh t)
theorem RpK.to{cl:Cl}{W W':Wo}(hg:∀a,W.G a->W'.G a)(hh:W'.H=W.H):∀ {vs:List (aR×V)}{ds:List (aR×D)},RpK cl W vs ds->RpK cl W' vs ds
 |_,_,.nil=>.nil
 |_,_,.cons r t=>.cons (Rp.to hg hh r) (RpK.to hg hh t)
theorem RpF.to{cl:Cl}{W W':Wo}(hg:∀a,W.G a->W'.G a)(hh:W'.H=W.H):∀ {vs:List (QD×V)}{ds:List (QD×D)},RpF cl W vs ds->RpF cl W' vs ds
 |_,_,.nil=>.nil
 |_,_,.cons r t=>.cons (Rp.to hg hh r) (RpF.to hg hh t)
end
noncomputable def Wo.all(W:Wo)(b:List QC):Wo:=⟨λa=>W.G a\/a∈W.μ,b,W.H⟩
section
theorem Cz:∀ {a:List U}{e:List V}{ds:List D},(∀u v x,RU b W v u->f u=Qq x->Rp b (W.all j) v x)->bG b W e a->di f a=Qq ds->RpAll b (W.all j) e ds
 |_,_,ds,_,.nil,h=>by cases h;exact .nil
 |_,_,ds,c,.cons (d:=u) (ds:=a) r t,h=>by
  have h:(match f u,di f a with|some x,Qq g=>Qq (x::g)|_,_=>Qs)=Qq ds:=h;split at h
  ·next x g i e2=>cases h;exact .cons (c _ _ _ r i) (Cz c t e2)
  ·cases h
theorem BN:∀ {b:List (aR×U)}{d:List (aR×V)}{ds:List (aR×D)},(∀u v x,RU a W v u->f u=Qq x->Rp a (W.all g) v x)->bT a W d b->bP f b=Qq ds->RpK a (W.all g) d ds
 |_,_,ds,_,.nil,h=>by cases h;exact .nil
 |_,_,ds,c,.cons (ds:=b) r t,h=>by
  rw[bP]at h;split at h
  ·next x i e e2=>cases h;exact .cons (c _ _ _ r e) (BN c t e2)
  ·cases h
theorem CO:∀ {d:List (QD×U)}{e:List (QD×V)}{a:List (QD×D)},(∀u v x,RU b W v u->f u=Qq x->Rp b (W.all i) v x)->bT b W e d->bP f d=Qq a->RpF b (W.all i) e a
 |_,_,a,_,.nil,h=>by cases h;exact .nil
 |_,_,a,c,.cons r t,h=>by
  rw[bP]at h;split at h
  ·next x j g e2=>cases h;exact .cons (c _ _ _ r g) (CO c t e2)
  ·cases h
set_option tactic.hygienic true in
theorem Ai(w:WR j W S):∀  n  {u:U}{v:V}{x:D},RU j W v u->cZ n S u=Qq x->Rp j (W.all q) v x
 |n,.d y,v,x,r,h=>by
  have h:Qq y=Qq x:=by cases n<;>exact h
  cases h;cases r with
  |d r=>exact Rp.to (W':=W.all q) (λa g=>TC g) rfl r
 | 0,.loc k,v,x,r,h=>by cases h
 |n+1,.loc k,v,x,r,h=>by
  have h:(match S[k]? with|some (.lst A)=>(di (cZ n S) A).map D.lst|some (.dct t)=>(bP (cZ n S) t).map D.dct|some (.ins c z)=>(bP (cZ n S) z).map (D.obj c)|_=>Qs)=Qq x:=h;have o:∀u v x,RU j W v u->cZ n S u=Qq x->Rp j (W.all q) v x:=λu v x r h=>Ai w n r h;cases r with
  | @loc _ p l =>
   have m:(W.all q).G p:=.inr (Ze l);split at h
   ·next A e =>
    obtain⟨_,B,b,e2,f⟩:=w.cell _ _ _ e l;obtain⟨s,i,rfl⟩:=QA.mp h;exact .lst m b e2 (Cz o f i)
   ·next t e =>
    obtain⟨_,B,b,e2,f⟩:=w.cell _ _ _ e l;obtain⟨s,i,rfl⟩:=QA.mp h;exact .dct m (.inl b) e2 (BN o f i)
   ·next c z e =>
    obtain⟨_,C,E,b,f⟩:=w.cell _ _ _ e l;obtain⟨s,i,rfl⟩:=QA.mp h;exact .obj m b (CO o f i)
   ·cases h
noncomputable def Wo.bare(W:Wo):Wo:=⟨W.G,[],W.H⟩
theorem WR.bare(w:WR b W S):WR b W.bare []:=⟨rfl,Yh,w.gd,λn c a h=>by simp at h,w.tb⟩
theorem nq(w:WR i W S)(e:aX W.bare b)(m:WR i b B):aX W (b.all W.μ)/\WR i (b.all W.μ) S:=by
 have v:∀a o,W.H a=Qq o->(b.all W.μ).G a->W.G a:=λa o h g=>by
  rcases g with g|g
  ·rcases e.ng a g with z|z|z
   ·exact z
   ·rw[show W.H a=Qs from z]at h;cases h
   ·exact absurd z (by simp[Wo.bare])
  ·have:=e.n a g (by simp[Wo.bare]);rw[show W.H a=Qs from this]at h;cases h
 have E:aX W (b.all W.μ):=by
  refine⟨λa g=>.inl (e.g a g),λa u g n h=>e.k a u g n h,λa k g h=>e.kd a k g h,⟨[],(QP _).symm⟩,λa o h x t H=>e.f a o h x t (by simp[Wo.bare]),λa h n=>absurd h n,λa g=>?_,λa o h=>e.d a o h⟩;cases h:W.H a<;>simp_all
 refine⟨E,w.len,w.nd,λa g=>?_,λn c a q e2=>?_,m.tb⟩
 ·rcases g with g|g
  ·exact m.gd a g
  ·exact m.ex g
 ·have d:=w.cell n c a q e2;have j:¬W.G a->eE i (b.all W.μ) a c:=λs=>by
   obtain⟨o,f,l⟩:=d.ex;exact d.keep E (v a o f) (by rw[f];exact e.f a o f (ql l) s (by simp[Wo.bare]))
  cases c with
  |lst p=>exact j d.1
  |dct p=>exact j d.1
  |ins c C=>exact j d.1
  |dead =>
   obtain⟨o,f,l⟩:=d;obtain⟨y,r,A⟩:=E.d a o f;exact⟨y,r,A l⟩
end
noncomputable def hQ:aE->U->Option D:=cZ 4
noncomputable def fX(o:aJ U)(S:aE):aJ U:=match o with
 | .ok u a=>match hQ a u with
  |some d=>.ok (.d d) S
  |none=>.st
 | .ex c _=>.ex c S
 | .st=>.st
noncomputable abbrev pO:=Fn->List U->aE->aJ U
noncomputable def rS:pO:=λF a S=>F a S
noncomputable def rA:pO:=λF a S=>match cj a with
 |some b=>fX (F (b.map .d) []) S
 |none=>F a S
structure ir(cl:Cl)(R:pO):Prop where
 ok:∀(F:Fn) W S vs ds (Q:VK) (Z:QC->QC->Hp->Prop),WR cl W S->bG cl W vs ds->PO cl (RU cl) W Q Z (R F ds S)->jA cl F vs W.H Q (λcls eo H'=>∃x C,cls=.ref C/\eo=Qq x/\Z x C H')
section
variable {pos:VY}
theorem Bb:ir a rS:=⟨λF W S c b Q Z w r h=>t5 (Z:=λ_=>Z) (σ:=[]) w r h⟩
set_option tactic.hygienic true in
theorem uc:ir l rA:=⟨λF W S t m Q Z w r h=>by
 unfold rA at h;split at h
 ·next j o =>
  have q:=(RpAll.to (W:=W) (W':=W.bare) (λ_ g=>g) rfl (r.pure o)).up;refine⟨W.bare,[],j.map .d,rfl,w.bare,q,?_⟩;unfold fX at h;cases f:F (j.map .d) []with
  |ok u k =>
   rw[f]at h;intro b v e a s;obtain⟨E,i⟩:=nq w e a;simp at h;split at h
   ·next d n=>exact h (b.all W.μ) v E i (.d (Ai a 4 s n))
   ·exact h.elim
  |ex c k =>
   rw[f]at h;intro b x e a p;obtain⟨E,i⟩:=nq w e a;exact⟨x,l c,rfl,rfl,h (b.all W.μ) x E i p⟩
  |st=>rw[f]at h;exact h
 ·exact Bb.ok F W S t m Q Z w r h⟩
noncomputable def bN(R:pO)(F:Fn)(c:iu):FE:=λb S=>(c b S).bind λa S=>R F a S
structure gf(P:QW)(w:Rm)(K:aV)(mg:QD->Option Qz)(base:RS)(CX:jw)(cl:Cl)(k:Nat)(m:QD)(ps:List QD)(T:List (QD×Fn)):Prop where
 at_:∀c F,T.lookup c=Qq F->lS P w K mg base CX k m ps (jA cl F) (cl c)
 inj:∀c c' F F',T.lookup c=Qq F->T.lookup c'=Qq F'->cl c=cl c'->c=c'
noncomputable def fk(m:QD)(T:List (QD×Fn))(R:pO)(e:FE)(d:iu):FE:=λa S=>(e a S).bind λo S=>match fW S o with
 |some (c,f)=>match T.lookup c with
  |some F=>if(f.lookup m).isNone=Qr then(d a S).bind λb S=>R F (o::b) S else .st
  |none=>.st
 |none=>.st
noncomputable def J3(a:Cl)(T:List (QD×Fn))(C:QC):Sp:=λb H Q E=>∃c F,T.lookup c=Qq F/\C=a c/\jA a F b H Q E
theorem F2{K:aV}(M:gf P w K s a d b k m t T):∀C,(∃c F,T.lookup c=Qq F/\C=b c)->lS P w K s a d k m t (J3 b T C) C:=λC ⟨c,F,h,e⟩=>by
 obtain⟨f,l,o,p,q,r⟩:=(M.at_ c F h).ex;subst e;refine⟨f,l,o,p,q.imp λv H Q E ⟨i,g,n,j,u⟩=>?_,r⟩;have:=M.inj c i F g h n j
 simp_all
set_option tactic.hygienic true in
theorem ux{t:iu}{a:VY}{pl:ZT Bool}(M:gf X.prog X.w X.K X.mg X.base A j k m ps T)(B:ir j R)(hr:cV k X.A)(hx:iH A X Z)(ho:DE j X Z o P)(ha:DA j X Z (e::i) t)
 (n:autoParam (Qy (e::i) X.env=(Qv,eval e X.env)::Qy i X.env) A10._auto_1) (l:autoParam ((Rc pos (Qy i X.env)).any (·.1)=Qv) A10._auto_1)
 (ht:autoParam (eval (.Call (.Attribute o m a) (e :: i) [] pos) X.env=(do
  let u<-eval o X.env
  UB a.atName
  let(f,b)<-holding [u] (getMethod u m pl)
  V6 pos f b (Rc pos (Qy (e::i) X.env)) (T8 pos (Sq [] X.env)))) A10._auto_1):DE j X Z (.Call (.Attribute o m a) (e::i) [] pos) (fk m T R P t):=by
 obtain⟨to,po,J⟩:=ho.ex;obtain⟨ta,pa,I⟩:=ha.ex;refine .of ⟨_,L2.zVg po (F2 M) hr hx pa n l ht,λW S z s Q w r h=>J W S z s _ w r (PO.bind h λd C G v N y x g=>?_)⟩;split at g
 ·next c gs O =>
  split at g
  ·next F q =>
   split at g
   ·next hn =>
    obtain⟨p,L,Y,rfl,g1,g2⟩:=uw y x O;refine⟨p,j c,L,Y,rfl,g1,⟨c,F,q,rfl⟩,g2.lookN (SG.mp hn),I G C z s _ y (r.mono N) (PO.bind g λds E H vs e2 w2 r2 h2=>⟨c,F,q,rfl,B.ok F H E _ _ Q _ w2 (.cons (x.mono e2) r2) h2⟩)⟩
   ·exact g.elim
  ·exact g.elim
 ·exact g.elim
set_option tactic.hygienic true in
theorem P3(M:gf X.prog X.w X.K X.mg X.base q g k m ps T)(s:ir g R)(J:cV k X.A)(N:iH q X Z)(I:DE g X Z o B)
 (L:autoParam (eval (.Call (.Attribute o m a) [] [] pos) X.env=(do
  let j<-eval o X.env
  UB a.atName
  let(f,b)<-holding [j] (getMethod j m pl)
  V6 pos f b (Rc pos (Qy [] X.env)) (T8 pos (Sq [] X.env)))) A10._auto_1):DE g X Z (.Call (.Attribute o m a) [] [] pos) (fk m T R B aw):=by
 obtain⟨to,O,x⟩:=I.ex;refine .of ⟨_,L2.zRv O (F2 M) J N L,λW S P A Q w r h=>x W S P A _ w r (PO.bind h λd t u v Y n l e=>?_)⟩;split at e
 ·next c gs z =>
  split at e
  ·next F i =>
   split at e
   ·next H =>
    obtain⟨p,y,C,rfl,E,G⟩:=uw n l z;exact⟨p,g c,y,C,rfl,E,⟨c,F,i,rfl⟩,G.lookN (SG.mp H),c,F,i,rfl,s.ok F u t _ _ Q _ n (.cons l .nil) e⟩
   ·exact e.elim
  ·exact e.elim
 ·exact e.elim
end
noncomputable def iO(o:aJ U)(S:aE):aJ U:=match o with
 | .ok (.d .non) a=>match hQ a (.loc 0)with
  |some d=>.ok (.d d) S
  |none=>.st
 | .ok _ _=>.st
 | .ex c _=>.ex c S
 | .st=>.st
section
variable {pos:VY}
theorem sS(w:WR e W S)(f:W.H x=Qs)(b:W.H a=Qs)(h:a≠x):aX W ((W.put a (.own x)).new x (.ins C a []))/\∀c,e c=C->WR e ((W.put a (.own x)).new x (.ins C a [])) (S++[.ins c []]):=by
 have d:(W.put a (.own x)).H x=Qs:=by show upd W.H a (.own x) x=Qs;rw[bS (Rf h)];exact f
 have i:WR e (W.put a (.own x)) S:=w.oth b;refine⟨(aX.oth b).trans (aX.new d),λc g=>i.new d ⟨(mP w f:¬W.G x),a,[],?_,.nil⟩⟩;rw[g];exact dm
theorem sR{c:QD}{Z:QC->QC->Hp->Prop}(w:WR a W S)(r:RpAll a W M i)(h:PO a (RU a) W Q Z (iO (F (.loc 0::i.map .d) [.ins c []]) S)):∀x b,W.H x=Qs->W.H b=Qs->b≠x->jA a F (.ref x::M) (upd (upd W.H b (.own x)) x (.ins (a c) b [])) (λv z=>v=.non/\Q (.ref x) z) (λk G t=>∃x C,k=.ref C/\G=Qq x/\Z x C t):=λx b H m J=>by
 obtain⟨l,s⟩:=sS w.bare H m J;have s:=s c rfl;have L:=(RpAll.to (W:=W) (W':=W.bare) (λ_ g=>g) rfl r).up;refine⟨_,_,.loc 0::i.map .d,rfl,s,.cons (.loc rfl) (L.mono l),?_⟩;show PO a (RU a) _ _ _ (F (.loc 0::i.map .d) [.ins c []]);unfold iO at h;cases o:F (.loc 0::i.map .d) [.ins c []]with
 |ok u A =>
  rw[o]at h;intro j v e f p;obtain⟨E,q⟩:=nq w (l.trans e) f;cases u with
  |d y =>
   cases y with
   |non =>
    cases p with
    |d p =>
    cases p;simp at h;split at h
    ·next d B=>exact⟨rfl,h (j.all W.μ) (.ref x) E q (.d (Ai f 4 (RU.mono e (.loc rfl)) B))⟩
    ·exact h.elim
   |_=>exact h.elim
  |loc n=>exact h.elim
 |ex c A =>
  rw[o]at h;intro j y e f I;obtain⟨E,q⟩:=nq w (l.trans e) f;exact⟨y,_,rfl,rfl,h (j.all W.μ) y E q I⟩
 |st=>rw[o]at h;exact h.elim
end
section
noncomputable def i3(d:U)(S:aE):aJ U:=match d with
 | .d (.int i)=>.ok (.d (.int (-i))) S
 |_=>.st
theorem Ct(k:DE f X Z a j):DE f X Z (.UnaryOp .USub a m) (d1 i3 j):=by
 obtain⟨t,l,e⟩:=k.ex;refine .of ⟨_,L2.yDp GI l,λW S o g Q w r h=>e W S o g _ w r (PO.bind h λd p q v s n c b=>?_)⟩;unfold i3 at b;split at b
 ·next i =>
  cases c with
  |d c=>cases c;exact⟨i,rfl,b.now n (.d (.int _))⟩
 ·exact b.elim
noncomputable def qu(g e:U->U->aE->aJ U)(b c d:FE):FT:=λa S=>(b a S).bind λx S=>(c a S).bind λy S=>(g x y S).bind λz S=>(kj z S).bind λk S=>match k with
 |true=>(d a S).bind λu S=>(e y u S).bind kj
 |false=>.ok Qv S
theorem Bf(o:c9 e X (QK B) g)(o':c9 e X (QK f) g')(ha:DE e X Z a fa)(hb:DE e X Z b fb)(hc:DE e X Z c fc)(hm:autoParam (Xx [B,f] [b,c]=Qv) A17._auto_1):DT e X Z (.Compare a [B,f] [b,c] aa) (qu g g' fa fb fc):=by
 obtain⟨C,ho,hg⟩:=o.ex;obtain⟨p,n,m⟩:=o'.ex;obtain⟨ta,pa,P⟩:=ha.ex;obtain⟨tb,pb,R⟩:=hb.ex;obtain⟨tc,pc,T⟩:=hc.ex;refine .of ⟨_,L2.zV9 ho n pa pb pc hm,λW S i l Q w r h=>P W S i l _ w r (PO.bind h λx G L v t w1 C h1=>R L G i l _ w1 (r.mono t) (PO.bind h1 λy H M u e2 w2 p h2=>?_))⟩;refine hg M H v u x y _ (Z i) w2 (C.mono e2) p (PO.bind h2 λz I N vz A E s j=>?_);cases s with
 |d s =>
  cases s with
  |bl k =>
   refine⟨k,rfl,?_⟩;cases k with
   |true =>
    rw[if_pos rfl];refine T N I i l _ E (((r.mono t).mono e2).mono A) (PO.bind j λq J O vq Y w4 r4 h4=>?_);exact m O J u vq y q _ (Z i) w4 ((p.mono A).mono Y) r4 (PO.bind h4 λz2 S5 W5 v5 e5 w5 r5 h5=>GW w5 r5 h5)
   |false =>
    rw[if_neg Zb];exact⟨Qv,rfl,j.now E rfl⟩
  |_=>exact j.elim
 |loc _=>exact j.elim
noncomputable def wG(g f:U->U->aE->aJ U)(b c e:FE):FE:=λa S=>(b a S).bind λx S=>(c a S).bind λy S=>(g x y S).bind λz S=>(kj z S).bind λk S=>match k with
 |true=>(e a S).bind λu S=>f y u S
 |false=>.ok (.d (.bl Qv)) S
theorem qA(o:c9 e X (QK B) g)(o':c9 e X (QK f) g')(ha:DE e X Z a fa)(hb:DE e X Z b fb)(hc:DE e X Z c fc)(hm:autoParam (Xx [B,f] [b,c]=Qv) A17._auto_1):DE e X Z (.Compare a [B,f] [b,c] aa) (wG g g' fa fb fc):=by
 obtain⟨C,ho,hg⟩:=o.ex;obtain⟨p,n,m⟩:=o'.ex;obtain⟨ta,pa,P⟩:=ha.ex;obtain⟨tb,pb,R⟩:=hb.ex;obtain⟨tc,pc,T⟩:=hc.ex;refine .of ⟨_,L2.zVl ho n pa pb pc hm,λW S i l Q w r h=>P W S i l _ w r (PO.bind h λx G L v t w1 C h1=>R L G i l _ w1 (r.mono t) (PO.bind h1 λy H M u e2 w2 p h2=>?_))⟩;refine hg M H v u x y _ (Z i) w2 (C.mono e2) p (PO.bind h2 λz I N vz A E s j=>?_);cases s with
 |d s =>
  cases s with
  |bl k =>
   refine⟨k,rfl,?_⟩;cases k with
   |true =>
    rw[if_pos rfl];exact T N I i l _ E (((r.mono t).mono e2).mono A) (PO.bind j λq J O vq Y w4 r4 h4=>m O J u vq y q _ (Z i) w4 ((p.mono A).mono Y) r4 h4)
   |false =>
    rw[if_neg Zb];exact j.now E (.d (.bl _))
  |_=>exact j.elim
 |loc _=>exact j.elim
noncomputable def eS(b:FE):FI:=λa S=>(b a S).bind λd S=>match d with
 | .d (.str x)=>.ok (.items (x.cps.toList.map λc=>.d (.str ⟨#[c]⟩))) S
 |_=>.st
theorem rG{c:Nat}(h:dA x)(b:c∈x.cps.toList):dA ⟨#[c]⟩:=⟨by show 1<=100000;decide,(kH _).mpr λd a=>by
 have a:d=c:=by simpa using a
 rw[a]
 exact(kH x).mp h.2 c b⟩
set_option tactic.hygienic true in
theorem zz(s:DE n X Z a p):DI n X Z (.Name y L) a (eS p):=by
 obtain⟨M,u,m⟩:=s.ex;refine .of ⟨_,L2.yDm u,λW S B o Q w r h=>m W S B o _ w r (PO.bind h λd G H v J A i e=>?_)⟩;split at e
 ·next x =>
  cases i with
  |d i =>
  cases i with
  |str _ t =>
   refine⟨x,rfl,e.now A λj E I z k=>?_⟩;have b:x.cps.toList.length=x.length:=by rfl
   show match (Qq (x.cps.toList.map λc=>U.d (.str ⟨#[c]⟩))[k]?)with|some (Qq d)=>_|some Qs=>_|none=>True
   cases g:(x.cps.toList.map λc=>U.d (.str ⟨#[c]⟩))[k]? with
   |some d =>
    rw[Zk]at g;obtain⟨c,e,q⟩:=QA.mp g;refine⟨by show k<x.length;rw[<- b];exact(Qw.mp e).1,λv C y=>?_⟩;obtain⟨rfl,l,f,rfl⟩:=y;have:x.cps.toList[k]?=Qq l:=by rw[Y9];exact f
    rw[e]at this;cases this;rw[<- q];exact⟨j,aX.refl _,z,rfl,.d (.str _ (rG t (Ze e)))⟩
   |none =>
    have:=Q2.mp g;rw[Z0,b]at this;exact this
 ·exact e.elim
noncomputable def jR(c:iu):FI:=λb S=>(c b S).bind λa S=>match a with
 |[.d (.int j)]=>if -(2^62)<=j/\j<=LM then .ok (.items ((Q7 j.toNat).map λi:Nat=>.d (.int i))) S else .st
 |_=>.st
set_option tactic.hygienic true in
theorem PZ(B:X.mg "range" = Qs)(x:DA q X Z [a] t)(z:autoParam (Gl X "range") A10._auto_1)(C:autoParam (Qy [a] X.env=[(Qv,eval a X.env)]) A10._auto_1):DI q X Z tg (.Call (.Name "range" p) [a] [] G) (jR t):=by
 obtain⟨ta,E,o⟩:=x.ex;refine .of ⟨_,L2.zRq z B E C,λW S L s Q w r h=>o W S L s _ w r (PO.bind h λR O P vs Y J H b=>?_)⟩;split at b
 ·next j =>
  obtain⟨v,rfl,f⟩:=H.one;split at b
  ·next m =>
   cases f with
   |d f =>
   cases f;have A:j<=1000000:=m.2
   ·refine⟨j,rfl,m.1,by omega,b.now J λn N T I k=>?_⟩;show match (Qq ((Q7 j.toNat).map λi:Nat=>U.d (.int i))[k]?)with|some (Qq d)=>_|some Qs=>_|none=>True
    cases e:((Q7 j.toNat).map λi:Nat=>U.d (.int i))[k]? with
    |some d =>
     rw[Zk]at e;obtain⟨c,b,u⟩:=QA.mp e;obtain⟨g,l⟩:=Qw.mp b;rw[List.getElem_range]at l;rw[Y2]at g;subst l;refine⟨g,λv M y=>?_⟩;obtain⟨rfl,rfl⟩:=y;rw[<- u];exact⟨n,aX.refl _,I,rfl,by rw[Int.zero_add];exact .d (.int _)⟩
    |none =>
     have:=Q2.mp e;rw[Z0,Y2]at this;exact this
  ·exact b.elim
 ·exact b.elim
end
section
theorem bG.evens:∀ {d:List V}{c:List U},bG e W d c->bG e W (evens d) (evens c)
 |[],_,h=>by cases h;exact .nil
 |[_],_,h=>by
  cases h with
  |cons a t=>cases t;exact .cons a .nil
 |_::_::_,_,h=>by
  cases h with
  |cons a t =>
   cases t with
   |cons b t=>exact .cons a (bG.evens t)
theorem bG.odds:∀ {d:List V}{c:List U},bG e W d c->bG e W (odds d) (odds c)
 |[],_,h=>by cases h;exact .nil
 |[_],_,h=>by
  cases h with
  |cons a t=>cases t;exact .nil
 |_::_::_,_,h=>by
  cases h with
  |cons a t =>
   cases t with
   |cons b t=>exact .cons b (bG.odds t)
noncomputable def oU(d:U)(S:aE):aJ U:=match b0 S d with
 |some a=>eU (evens a) S
 |none=>.st
noncomputable def qQ(d:U)(S:aE):aJ U:=match b0 S d with
 |some a=>if 1<=a.length then eU (odds a) S else .st
 |none=>.st
set_option tactic.hygienic true in
theorem Fc(n:DE f X Z a j):DE f X Z (.Subscript a (.Slice Qs Qs (Qq (.Constant (.int 2) k B)) C) q) (d1 oU j):=by
 obtain⟨E,o,e⟩:=n.ex;refine .of ⟨_,L2.yA2 o,λW S u g Q w r h=>e W S u g _ w r (PO.bind h λd x y v z c s b=>?_)⟩;unfold oU at b;split at b
 ·next G i =>
  obtain⟨p,t,rfl,l,A,m⟩:=jj (K:=X.K) c s i;exact⟨p,t,rfl,l,(ni c m.evens b).2⟩
 ·exact b.elim
set_option tactic.hygienic true in
theorem Nc(n:DE g X Z a l):DE g X Z (.Subscript a (.Slice (Qq (.Constant (.int 1) C G)) Qs (Qq (.Constant (.int 2) k E)) H) s) (d1 qQ l):=by
 obtain⟨I,q,f⟩:=n.ex;refine .of ⟨_,L2.yDt q,λW S x i Q w r h=>f W S x i _ w r (PO.bind h λd y z v A e t b=>?_)⟩;unfold qQ at b;split at b
 ·next J j =>
  obtain⟨p,u,rfl,m,B,c⟩:=jj (K:=X.K) e t j;split at b
  ·next o=>exact⟨p,u,rfl,m,by rw[c.length];exact o,(ni e c.odds b).2⟩
  ·exact b.elim
 ·exact b.elim
noncomputable abbrev FJ:=Ev->aE->QD->aJ QD
noncomputable def Qn(_:Wo)(a b:QD):Prop:=a=b
structure DJ(cl:Cl)(X:Cx)(Z:TZ)(es:List Rx)(f:FJ):Prop where
 pe:L2.PJ X es (fun σ H acc Q=>∃W S ev,W.H=H/\WR cl W S/\ER cl W σ ev/\PO cl Qn W Q (Z σ) (f ev S acc))
noncomputable def wH:U->Option QD
 | .d (.str x)=>Qq x
 | .d (.int i)=>if i.natAbs<10^12 then Qq (Qu (Sy i))else Qs
 |_=>Qs
theorem rz(r:RU a W v u)(h:wH u=Qq x):nW v=Qq x:=by
 cases r with
 |d r=>cases r<;>first|exact h|(cases h;done)
 |loc _=>cases h
noncomputable def pA:FJ:=λ_ S a=>.ok a S
noncomputable def i7(c:FE)(e:FJ):FJ:=λb S a=>(c b S).bind λd S=>match wH d with
 |some x=>if x.length<=100000/\a.length<=100000 then e b S (a++x)else .st
 |none=>.st
noncomputable def jO(x:QD)(c:FJ):FJ:=λb S a=>if x.length<=100000/\a.length<=100000 then c b S (a++x)else .st
theorem Eg:DJ d X Z [] pA:=⟨λa s c H b Q I ⟨W,S,f,e,w,r,h⟩=>L2.yDi a s c H b Q I (by rw[<- e];exact h.now w rfl)⟩
set_option tactic.hygienic true in
theorem tQ(y:DE i X Z a t)(z:DJ i X Z p u):DJ i X Z (.FormattedValue a (-1) Qs B::p) (i7 t u):=by
 obtain⟨G,A,n⟩:=y.ex;refine⟨λf s k H g Q I ⟨W,S,j,e,w,r,h⟩=>L2.yDh A z.pe f s k H g Q I ?_⟩;subst e;refine n W S k j _ w r (PO.bind h λd l m v o E C b=>?_);split at b
 ·next x q =>
  split at b
  ·next c=>exact⟨x,rz C q,c.1,c.2,m,l,j,rfl,E,r.mono o,b⟩
  ·exact b.elim
 ·exact b.elim
theorem A2(j:DJ d X Z f i):DJ d X Z (.Constant (.str x) k l::f) (jO x i):=by
 refine⟨λa s m H b Q I ⟨W,S,g,e,w,r,h⟩=>L2.yDj j.pe a s m H b Q I ?_⟩;subst e;unfold jO at h;split at h
 ·next c=>exact⟨c.1,c.2,W,S,g,rfl,w,r,h⟩
 ·exact h.elim
noncomputable def ji(c:FJ):FE:=λb S=>(c b S R5).bind λa S=>if dZ a=Qr then .ok (.d (.str a)) S else .st
theorem EI{v1 v2:Rx}{rest:List Rx}(g:DJ b X Z (v1::v2::rest) f):DE b X Z (.JoinedStr (v1::v2::rest) j) (ji f):=by
 refine .of ⟨_,L2.zRw g.pe,λW S p e Q w r h=>⟨W,S,e,rfl,w,r,PO.bind h λi m n v o l k a=>?_⟩⟩;subst k;split at a
 ·next c=>exact⟨(mv c).1,a.now l (.d (.str _ (mv c)))⟩
 ·exact a.elim
noncomputable def i9(x:QD):Option Int:=match YD x with
 |some n=>if 0<=n/\n<10^10/\x=Qu (Sy n)then Qq n else Qs
 |none=>Qs
noncomputable def nE:List U->aE->aJ U
 |[.d (.str x)],S=>match i9 x with
  |some n=>.ok (.d (.int n)) S
  |none=>.st
 |_,_=>.st
set_option tactic.hygienic true in
theorem Hk:bV e X (.type "int") nE:=⟨_,P5,λW S g f Q Z w r h=>by
 unfold nE at h;split at h
 ·next x =>
  split at h
  ·next n a =>
   obtain⟨v,rfl,b⟩:=r.one;cases b with
   |d b =>
   cases b;unfold i9 at a;split at a
   ·next m _ =>
    split at a
    ·next c =>
     cases a;exact⟨n,by rw[<- c.2.2],c.1,c.2.1,h.now w (.d (.int _))⟩
    ·cases a
   ·cases a
  ·exact h.elim
 ·exact h.elim⟩
noncomputable def fH:List D->Option (List (aR×D))
 |[]=>Qq []
 | .tup [k,v]::r=>match fU (.d k),fH r with
  |some k,Qq l=>Qq ((k,v)::l)
  |_,_=>Qs
 |_=>Qs
set_option tactic.hygienic true in
theorem D7:∀ {m:List V}{j:List D}{f:List (aR×D)},RpAll n W m j->fH j=Qq f->∃(c:List QC) (a:List (aR×V)),m=c.map V.ref/\RpK n W a f/\a.length=c.length/\∀(i:Nat)  t   k   v ,c[i]?=Qq t->a[i]?=Qq (k,v)->W.H t=Qq (.tup [kV k,v])
 |_,_,f,.nil,h=>by cases h;exact⟨[],[],rfl,.nil,rfl,λi t k v h=>by cases h⟩
 |_,_,f,.cons r t,h=>by
  unfold fH at h;split at h
  ·next e=>cases e
  ·next k v G e =>
   cases e;split at h
   ·next y l q s =>
    cases h;obtain⟨c,a,u,w,C,x⟩:=D7 t s;cases r with
    | @tup p H _ g B E b =>
     cases b with
     | @cons v1 _ _ _ z b =>
      cases b with
      | @cons v2 _ _ _ A b =>
       cases b;have:=kY (.d z) q;subst this;refine⟨p::c,(y,v2)::a,by rw[u];rfl,.cons A w,by simp_all,λi t k v o e2=>?_⟩;cases i with
       |zero=>simp_all
       |succ i=>exact x i t k v o e2
   ·cases h
  ·cases h
noncomputable def iJ(a:List (aR×D)):Bool:=decide (a.map (·.1)).Nodup
theorem RpK.keys':∀ {a:List (aR×V)}{b:List (aR×D)},RpK c W a b->a.map (·.1)=b.map (·.1)
 |_,_,.nil=>rfl
 |_,_,.cons _ t=>by rw[Z8,Z8,RpK.keys' t]
noncomputable def j9(c:Bool):List U->aE->aJ U
 |[d],S=>match b0 S d with
  |some e=>match cj e with
   |some b=>match fH b with
    |some a=>if iJ a=Qr/\a.length<=LM then(if c=Qr then .ok (.loc S.length) (S++[.dct (bz a)])else .ok (.d (.dct a)) S)else .st
    |none=>.st
   |none=>.st
  |none=>.st
 |_,_=>.st
set_option tactic.hygienic true in
theorem Kk(t:X.calm=Qr):bV y X (.type "dict") (j9 B):=⟨_,Om rfl,λW S G i Q Z w r h=>by
 unfold j9 at h;split at h
 ·obtain⟨v,rfl,u⟩:=r.one;split at h
  ·next C e =>
   obtain⟨p,E,rfl,l,A,m⟩:=jj w u e;split at h
   ·next i k =>
    split at h
    ·next z j =>
     split at h
     ·next c =>
      obtain⟨x,a,n,b,o,s⟩:=D7 (m.pure k) j;have g:a.length<=LM:=by simp_all
      refine⟨p,x,a,rfl,by rw[<- n];exact l,t,by rw[b.keys'];exact of_decide_eq_true c.1,o,s,?_⟩;split at h
      ·exact GB w g b.up h
      ·exact λq f=>h (W.add q _) _ (aX.add f) (w.add f) (.d (.dct (.inr rfl) (.inl dm) g (b.mono (aX.add f))))
     ·exact h.elim
    ·exact h.elim
   ·exact h.elim
  ·exact h.elim
 ·exact h.elim⟩
noncomputable def fP(b:Bool):=λa S=>(jf b a S).or (j9 b a S)
theorem EG(a:X.calm=Qr):bV b X (.type "dict") (fP mu):=.or Oe (Kk a)
theorem Ib(i:Nat)(M:X.N.Nodup)(N:X.calm=Qr)(S:dh X l m T)(R:DI c X Z u b E)(Q:∀C s H a,DG c (br X l m T C s H a) u g)(P:∀C s H a,n9 c (br X l m T C s H a) ZN k t)(O:∀C s H a,DE c (br X l m T C s H a) ZN e f)(o:autoParam (X.N[i]?=Qq y) A10._auto_1)(hx:autoParam (X.env.scope.names.lookup y=Qq .local) A10._auto_1)
 (p:autoParam (Sl (.ListComp e [⟨u,b,k,0⟩] l q) (Qq (.Name y py)) sp.line X.env=pure Qr) A10._auto_1) (hs:autoParam (∀x,Rt b X.env x=pure x) A13._auto_1):DS c X Z (.Assign [.Name y py] (.ListComp e [⟨u,b,k,0⟩] l q) sp) (aY i (aK T.length E g t f)):=by
 obtain⟨ti,pi,L⟩:=R.ex;refine .of ⟨_,L2.zPn N S pi (λC s H a=>(Q C s H a).pe) (λC s H a=>(P C s H a).pe) (λC s H a=>(O C s H a).pe) M o hx p hs,λW S A B D w r h=>?_⟩;have h:PO c (RU c) W (λv H=>fq i v A H D.nx) (Z A) (aK T.length E g t f B S):=PF.bind h r λd G I v n z r1 j=>j.nx' z ((r.mono n).set r1 i);refine L W S A B _ w r (PO.bind h λit G I J n z ri j=>?_);split at j
 ·next Y=>exact E6 ri (r.mono n) z Y j
 ·exact j.elim
noncomputable def gA(a:List D):List U:=a.zipIdx.map λp=>.d (.tup [.int p.2,p.1])
noncomputable def oZ(c:iu):FI:=λb S=>(c b S).bind λa S=>match a with
 |[.d (.lst e)]=>.ok (.items (gA e)) S
 |_=>.st
set_option tactic.hygienic true in
theorem Ov(N:X.mg "enumerate" = Qs)(L:DA C X Z [a] G)(M:autoParam (Gl X "enumerate") A10._auto_1)(O:autoParam (Qy [a] X.env=[(Qv,eval a X.env)]) A10._auto_1):DI C X Z (.Tuple es x1 tp) (.Call (.Name "enumerate" p) [a] [] T) (oZ G):=by
 obtain⟨ta,R,B⟩:=L.ex;refine .of ⟨_,L2.zZw M N R O,λW S σ E Q w r h=>B W S σ E _ w r (PO.bind h λds S1 W1 c e1 w1 Y b=>?_)⟩;split at b
 ·next u =>
  obtain⟨v,rfl,m⟩:=Y.one;cases m with
  |d m =>
  cases m with
  | @lst p c _ g e l s =>
   refine⟨p,rfl,⟨c,.of e⟩,b.now w1 λA S' n w' k=>?_⟩;have i:=n.k _ _ g rfl e;show match (Qq (gA u)[k]?)with|some (Qq d)=>_|some Qs=>_|none=>True
   cases f:(gA u)[k]? with
   |some d =>
    unfold gA at f;rw[Zk,UV]at f;obtain⟨q,b,H⟩:=QA.mp f;obtain⟨x,I,J⟩:=QA.mp b;obtain⟨y,o,ry⟩:=s.get I;refine⟨⟨c,y,.of i,o⟩,λv H' yl=>?_⟩;obtain⟨t,z,rfl,j,rfl,P⟩:=yl;have:=P c (.of i);rw[o]at this;cases this;subst H J;refine⟨A.add t _,aX.add j,w'.add j,rfl,.d (.tup (.inr rfl) dm (by show 2<=LM;decide) (.cons ?_ (.cons ((ry.mono n).mono (aX.add j)) .nil)))⟩;rw[Zaj];exact .int _
   |none =>
    have:=Q2.mp f;unfold gA at this;rw[Z0,XD]at this;exact⟨c,.of i,by rw[s.length];exact this⟩
 ·exact b.elim
end
noncomputable def gW(a:kI)(f:QD)(S:aE):List U->Option (List (QD×U))
 |[]=>Qq []
 |u::e=>match fW S u with
  |some (c,b)=>if lC a c f=Qr then match b.lookup f with
   |some (.d (.str k))=>(gW a f S e).map ((k,u)::·)
   |_=>Qs
   else Qs
  |none=>Qs
noncomputable def eG:List (QD×U)->Option (QD×U)
 |[]=>Qs
 |p::r=>match eG r with
  |none=>Qq p
  |some q=>if fI q.1 p.1 then Qq q else Qq p
set_option tactic.hygienic true in
theorem xm:∀ {l:List (QD×U)}{m:QD×U},eG l=Qq m->m∈l/\∀p∈l,¬fI p.1 m.1
 |[],m,h=>by cases h
 |p::r,m,h=>by
  unfold eG at h;split at h
  ·next e =>
   cases h;have:r=[]:=by
    cases r with
    |nil=>rfl
    |cons a b =>
     unfold eG at e;split at e
     ·cases e
     ·split at e<;>cases e
   subst this;exact⟨Za,λq i=>by rw[QH.mp i];exact Ta _⟩
  ·next q e =>
   obtain⟨g,f⟩:=xm e;split at h
   ·next c =>
    cases h;refine⟨Z4 _ g,λx d=>?_⟩;rcases QL.mp d with rfl|d
    ·exact λz=>Ta _ (w9 z c)
    ·exact f x d
   ·next c =>
    cases h;refine⟨Za,λx d=>?_⟩;rcases QL.mp d with rfl|d
    ·exact Ta _
    ·intro z;by_cases y:fI p.1 q.1
     ·exact f x d (w9 z y)
     ·have:=vS y c;exact f x d (this▸z)
theorem Fp:∀ {l:List (QD×U)}{k:QD}{u v:U},(l.map (·.1)).Nodup->(k,u)∈l->(k,v)∈l->u=v
 |(a,b)::r,k,u,v,n,h,c=>by
  rw[Z8,Yb]at n;rcases QL.mp h with h|h
  ·simp_all
  ·rcases QL.mp c with c|c
   ·simp_all
   ·exact Fp n.2 h c
noncomputable def pT(b:kI)(f:QD)(d:U)(S:aE):aJ U:=match b0 S d with
 |some c=>match gW b f S c with
  |some a=>if(a.map (·.1)).Nodup then match eG a with
   |some p=>.ok p.2 S
   |none=>.st
   else .st
  |none=>.st
 |none=>.st
noncomputable def mR(a:kI)(f:QD)(e:iu):FE:=λc S=>(e c S).bind λb S=>match b with
 |[d]=>pT a f d S
 |_=>.st
section
variable {X:Cx}
theorem Dk(T:kM X.K n z)(w:WR n W S):∀ {y:List U}{l:List V}{j:List (QD×U)},bG n W l y->gW z f S y=Qq j->j.length=l.length/\(∀(i:Nat) (v:V) (k:QD),l[i]?=Qq v->(j.map (·.1))[i]?=Qq k->∃a C o q,v=.ref a/\W.H a=Qq (.ins C o q)/\jB X.K C/\dO X.K C f/\q.lookup f=Qq (.str k))/\∀(i:Nat) (v:V) (k:QD),l[i]?=Qq v->(j.map (·.1))[i]?=Qq k->∃u,(k,u)∈j/\RU n W v u
 |_,_,j,.nil,h=>by cases h;exact⟨rfl,λi v k h=>by simp at h,λi v k h=>by simp at h⟩
 |_,_,j,.cons (v:=v0) (d:=u) r t,h=>by
  unfold gW at h;split at h
  ·next c q e =>
   split at h
   ·next J =>
    split at h
    ·next Y B =>
     obtain⟨Z,A,rfl⟩:=QA.mp h;obtain⟨L,M,N⟩:=Dk T w t A;obtain⟨p,o,E,rfl,G,H⟩:=uw w r e;obtain⟨x,I,s⟩:=H.look B;obtain⟨O,P⟩:=T.fl c f J;refine⟨by simp[L],λi v k g b=>?_,λi v k g b=>?_⟩
     ·cases i with
      |zero =>
       simp at g b;subst g b;cases s with
       |d s=>cases s with
        |str=>exact⟨p,_,o,E,rfl,G,O,P,I⟩
      |succ i=>exact M i v k (by simpa using g) (by simpa using b)
     ·cases i with
      |zero =>
       simp at g b;subst g b;exact⟨u,Za,r⟩
      |succ i =>
       obtain⟨R,m,Q⟩:=N i v k (by simpa using g) (by simpa using b);exact⟨R,Z4 _ m,Q⟩
    ·cases h
   ·cases h
  ·cases h
theorem Os(w:WR l W S)(A:∀t∈l.tabs,t.1=P->t=(P,f,q))(k:dj W.H P f q)(T2:dj i P f q)(g:gZ P W.H i):aX W ⟨W.G,W.μ,i⟩/\WR l ⟨W.G,W.μ,i⟩ S:=by
 have d:=λb u e n=>g b u e (k.ne e (xY n));have E:aX W ⟨W.G,W.μ,i⟩:=by
  refine⟨λ_ h=>h,λb u a n e=>?_,λb B a r=>?_,⟨[],(QP _).symm⟩,λb u e n ω ω=>d b u e n,λb a n=>absurd a n,λb g=>.inl g,λb u e=>?_⟩
  ·obtain⟨C,m,p⟩:=w.gd b a;rw[e]at m;cases m;exact d b u e (ql p)
  ·rcases r with r|⟨x,r⟩
   ·exact .inl (d _ _ r rfl)
   ·exact .inr ⟨x,d _ _ r rfl⟩
  ·by_cases a:b=P
   ·subst a;have:=λz=>k.ne e (xY (ql z)) rfl;rcases T2 with z|⟨c,z,_⟩
    ·exact⟨_,z,λy=>(this y).elim⟩
    ·exact⟨_,z,λy=>(this y).elim⟩
   ·exact⟨u,g b u e a,id⟩
 refine⟨E,w.len,w.nd,λb a=>?_,λn c b v e2=>?_,λt h=>?_⟩
 ·obtain⟨u,e,p⟩:=w.gd b a;exact⟨u,d b u e (ql p),p⟩
 ·have s:=w.cell n c b v e2;obtain⟨u,o,p⟩:=s.ex;exact s.keep E (λz=>z) (by rw[o];exact d b u o (ql p))
 ·by_cases j:t.1=P
  ·have:=A t h j;subst this;exact T2
  ·rcases w.tb t h with z|⟨c,z,y⟩
   ·exact .inl (g _ _ z j)
   ·exact .inr ⟨c,g _ _ z j,d _ _ y rfl⟩
set_option tactic.hygienic true in
theorem NZ(Tc:kM X.K A ct)(R:(P,g,q)∈A.tabs)(ht:∀t∈A.tabs,t.1=P->t=(P,g,q))(T:iI X.K X.mg X.base c P)(o:X.env.code=.ref c)(hr:cV 2 X.A)(J:X.calm=Qr)(hg:Gl X "min")(hm:X.mg "min" = Qs)(ha:DA A X Z [a] fa)
 (Sc:kr b x) (hq:autoParam (X.env.qual++"<lambda>" = q) A10._auto_1) (I:autoParam (U0 b X.env=pure []) A10._auto_1) (y:autoParam (WZ e X.env=([],[])) A10._auto_1)
 (hb:autoParam (∀  pm cd C v ,T7 (UJ "<lambda>" q e (.Attribute (.Name x B) n p2) b [] pm cd C) ⟨[v],[]⟩=pure [(x,v)]) A16._auto_1) (hx:autoParam ((x==("__debug__" : QD))=Qv) A11._auto_1)
 (G:autoParam (∀j ,Q6 (.Name x B) n j (eval (.Name x B) j)=eval (.Name x B) j) A16._auto_1)
 (he:autoParam (Rc s (Qy [a] X.env)=(Qv,eval a X.env)::Rc s (Qy [] X.env)) A10._auto_1) (L:autoParam ((Rc s (Qy [a] X.env)).any (·.1)=Qv) A10._auto_1) :
 DE A X Z (.Call (.Name "min" p) [a] [⟨Qq "key",.Lambda e (.Attribute (.Name x B) n p2) b g,Y⟩] s) (mR ct n fa):=by
 obtain⟨ta,pa,ca⟩:=ha.ex;refine .of ⟨_,L2.zRu T o hr J hg hm pa Sc hq I y hb hx G he L,λW S σ ev Q w r h=>ca W S σ ev _ w r (PO.bind h λds S1 O vs e1 z r1 f=>?_)⟩;split at f
 ·next d =>
  unfold pT at f;split at f
  ·next us el =>
   split at f
   ·next ps E =>
    split at f
    ·next nd =>
     split at f
     ·next m em =>
      cases r1 with
      | @cons v _ _ _ rv rn=>cases rn with
       |nil =>
        obtain⟨l,xs,rfl,g1,g2,g3⟩:=jj z rv el;obtain⟨k1,k2,k3⟩:=Dk Tc z g3 E;obtain⟨M,m2⟩:=xm em;have pl:=List.length_pos_of_mem M;refine⟨l,xs,ps.map (·.1),rfl,g1,by omega,z.tb _ R,by simp[k1],k2,λi v k H2 hv hk H t2 gb=>?_⟩;obtain⟨u,mu,ru⟩:=k3 i v k hv hk;have E:m.1=k:=vS (H m.1 (Qx.mpr ⟨_,M,rfl⟩)) (m2 (k,u) mu);obtain⟨N,w2⟩:=Os z ht (z.tb _ R) t2 gb;have:=Fp nd (by rw[<- E];exact M) mu;rw[this]at f;exact f ⟨O.G,O.μ,H2⟩ v N w2 (ru.mono N)
     ·exact f.elim
    ·exact f.elim
   ·exact f.elim
  ·exact f.elim
 ·exact f.elim
end
noncomputable def h8(n:Nat):U->Bool
 | .d _=>Qr
 | .loc k=>decide (k<n)
noncomputable def iX(n:Nat):cG->Bool
 | .lst c=>c.all (h8 n)
 | .dct a=>a.all λe=>h8 n e.2
 | .ins _ b=>b.all λe=>h8 n e.2
 | .dead=>Qr
noncomputable def cq(n:Nat)(S:aE):Bool:=S.all (iX n)
noncomputable def cz(a:Nat):Nat->aE->U->Option D
 | 0,_,u=>match u with
  | .d x=>Qq x
  | .loc _=>Qs
 |n+1,S,u=>match u with
  | .d x=>Qq x
  | .loc k=>if k<a then Qs else match S[k]? with
   |some (.lst f)=>(di (cz a n S) f).map .lst
   |some (.dct b)=>(bP (cz a n S) b).map .dct
   |some (.ins c e)=>(bP (cz a n S) e).map (.obj c)
   |_=>Qs
noncomputable def Wo.cut(W:Wo)(n:Nat):Wo:=⟨λa=>W.G a\/a∈W.μ.drop n,W.μ.take n,W.H⟩
section
theorem Gz:∀ {a:List U}{e:List V}{ds:List D},(∀u v x,RU b W v u->f u=Qq x->Rp b i v x)->bG b W e a->di f a=Qq ds->RpAll b i e ds
 |_,_,ds,_,.nil,h=>by cases h;exact .nil
 |_,_,ds,c,.cons (d:=u) (ds:=a) r t,h=>by
  have h:(match f u,di f a with|some x,Qq g=>Qq (x::g)|_,_=>Qs)=Qq ds:=h;split at h
  ·next x g j e2=>cases h;exact .cons (c _ _ _ r j) (Gz c t e2)
  ·cases h
theorem Fd:∀ {c:List (aR×U)}{d:List (aR×V)}{ds:List (aR×D)},(∀u v x,RU a W v u->f u=Qq x->Rp a e v x)->bT a W d c->bP f c=Qq ds->RpK a e d ds
 |_,_,ds,_,.nil,h=>by cases h;exact .nil
 |_,_,ds,b,.cons r t,h=>by
  rw[bP]at h;split at h
  ·next x i g e2=>cases h;exact .cons (b _ _ _ r g) (Fd b t e2)
  ·cases h
theorem Dv:∀ {d:List (QD×U)}{e:List (QD×V)}{a:List (QD×D)},(∀u v x,RU b W v u->f u=Qq x->Rp b g v x)->bT b W e d->bP f d=Qq a->RpF b g e a
 |_,_,a,_,.nil,h=>by cases h;exact .nil
 |_,_,a,c,.cons r t,h=>by
  rw[bP]at h;split at h
  ·next x j i e2=>cases h;exact .cons (c _ _ _ r i) (Dv c t e2)
  ·cases h
theorem Ma{b:List QC}(h:b[k]?=Qq p)(c:¬k<a):p∈b.drop a:=by
 refine Ze (i:=k-a) ?_
 simp_all
set_option tactic.hygienic true in
theorem A8(w:WR l W S):∀  n  {u:U}{v:V}{x:D},RU l W v u->cz b n S u=Qq x->Rp l (W.cut b) v x
 |n,.d y,v,x,r,h=>by
  have h:Qq y=Qq x:=by cases n<;>exact h
  cases h;cases r with
  |d r=>exact Rp.to (W':=W.cut b) (λa g=>TC g) rfl r
 | 0,.loc k,v,x,r,h=>by cases h
 |n+1,.loc k,v,x,r,h=>by
  have h:(if k<b then Qs else match S[k]? with|some (.lst A)=>(di (cz b n S) A).map D.lst|some (.dct t)=>(bP (cz b n S) t).map D.dct|some (.ins c z)=>(bP (cz b n S) z).map (D.obj c)|_=>Qs)=Qq x:=h;have q:∀u v x,RU l W v u->cz b n S u=Qq x->Rp l (W.cut b) v x:=λu v x r h=>A8 w n r h;split at h
  ·cases h
  ·next B =>
   cases r with
   | @loc _ p m =>
    have o:(W.cut b).G p:=.inr (Ma m B);split at h
    ·next A e =>
     obtain⟨_,C,f,e2,i⟩:=w.cell _ _ _ e m;obtain⟨s,j,rfl⟩:=QA.mp h;exact .lst o f e2 (Gz q i j)
    ·next t e =>
     obtain⟨_,C,f,e2,i⟩:=w.cell _ _ _ e m;obtain⟨s,j,rfl⟩:=QA.mp h;exact .dct o (.inl f) e2 (Fd q i j)
    ·next c z e =>
     obtain⟨_,E,H,f,i⟩:=w.cell _ _ _ e m;obtain⟨s,j,rfl⟩:=QA.mp h;exact .obj o f (Dv q i j)
    ·cases h
theorem RU.cut(r:RU c W v u)(h:h8 b u=Qr):RU c (W.cut b) v u:=by
 cases r with
 |d r=>exact .d (Rp.to (W':=W.cut b) (λa g=>TC g) rfl r)
 | @loc k p e =>
  refine .loc ?_;show(W.μ.take b)[k]?=_;rw[Yd (of_decide_eq_true h)];exact e
theorem bG.cut:∀ {b:List V}{a:List U},bG c W b a->a.all (h8 d)=Qr->bG c (W.cut d) b a
 |_,_,.nil,_=>.nil
 |_,_,.cons r t,h=>by
  rw[Yp,Zl]at h;exact .cons (r.cut h.1) (bG.cut t h.2)
theorem bT.cut:∀ {b:List (f×V)}{a:List (f×U)},bT c W b a->a.all (λe=>h8 d e.2)=Qr->bT c (W.cut d) b a
 |_,_,.nil,_=>.nil
 |_,_,.cons r t,h=>by
  rw[Yp,Zl]at h;exact .cons (r.cut h.1) (bT.cut t h.2)
theorem uZ(w:WR x W S)(e:aX W b)(d:WR x b q)(h:cq S.length (q.take S.length)=Qr):aX W (b.cut S.length)/\WR x (b.cut S.length) (q.take S.length):=by
 obtain⟨J,l⟩:=e.m;have u:b.μ.take S.length=W.μ:=by rw[l,<- w.len,YF];rfl
 have B:b.μ.drop S.length=J:=by rw[l,<- w.len,List.drop_left'];rfl
 have A:=d.nd;rw[l,QY]at A;have j:∀a,a∈b.μ.drop S.length->W.H a=Qs:=λa m=>by
  rw[B]at m;exact e.n a (by simp_all) (λz=>A.2.2 a z a m rfl)
 refine⟨⟨λa g=>.inl (e.g a g),e.k,e.kd,⟨[],by rw[QP];exact u⟩,e.f,λa m n=>?_,λa g=>?_,e.d⟩,?_,?_,λa g=>?_,λn c a k e2=>?_,d.tb⟩
 ·exact absurd (show a∈W.μ by rw[<- u];exact m) n
 ·rcases g with g|g
  ·exact e.ng a g
  ·exact .inr (.inl (j a g))
 ·show(b.μ.take _).length=(q.take _).length;rw[Zu,Zu,d.len]
 ·show(b.μ.take _).Nodup;rw[u];exact w.nd
 ·rcases g with g|g
  ·exact d.gd a g
  ·exact d.ex (Xi g)
 ·have e2:(b.μ.take S.length)[n]?=Qq a:=e2;have y:n<S.length:=by
   have:=(Qw.mp k).1;rw[Zu]at this;omega
  have s:=QM.mp h c (Ze k);rw[Yd y]at k e2;have p:=d.cell n c a k e2;have t:¬b.G a->¬(b.cut S.length).G a:=λg z=>by
   rcases z with z|z
   ·exact g z
   ·have:=j a z;rw[l,Zi (by rw[w.len];exact y)]at e2;obtain⟨o,I,_⟩:=w.ex (Ze e2);rw[I]at this;cases this
  cases c with
  |lst C=>obtain⟨g,v,f,i,r⟩:=p;exact⟨t g,v,f,i,r.cut s⟩
  |dct C=>obtain⟨g,v,f,i,r⟩:=p;exact⟨t g,v,f,i,r.cut s⟩
  |ins c L=>obtain⟨g,E,H,f,i⟩:=p;exact⟨t g,E,H,f,i.cut s⟩
  |dead=>exact p
end
noncomputable def eY(n:Nat)(o:aJ U):aJ U:=match o with
 | .ok u a=>if cq n (a.take n)=Qr then match cz n 4 a u with
  |some d=>.ok (.d d) (a.take n)
  |none=>.st
  else .st
 | .ex c a=>if cq n (a.take n)=Qr then .ex c (a.take n)else .st
 | .st=>.st
noncomputable def rC:pO:=λF a S=>match cj a with
 |some b=>fX (F (b.map .d) []) S
 |none=>eY S.length (F a S)
noncomputable def j5(n:Nat)(o:aJ U):aJ U:=match o with
 | .ok (.d .non) a=>if cq n (a.take n)=Qr then match cz n 4 a (.loc n)with
  |some d=>.ok (.d d) (a.take n)
  |none=>.st
  else .st
 | .ok _ _=>.st
 | .ex c a=>if cq n (a.take n)=Qr then .ex c (a.take n)else .st
 | .st=>.st
noncomputable def eC(c:QD)(F:Fn)(dd:List D)(e:iu):FE:=λb S=>(e b S).bind λa S=>match cj a with
 |some f=>iO (F (.loc 0::(f++dd).map .d) [.ins c []]) S
 |none=>j5 S.length (F (.loc S.length::(a++dd.map .d)) (S++[.ins c []]))
section
set_option tactic.hygienic true in
theorem bY:ir l rC:=⟨λF W S q e Q Z w r h=>by
 unfold rC at h;split at h
 ·next s n =>
  refine uc.ok F W S q e Q Z w r ?_;unfold rA;rw[n];exact h
 ·refine⟨W,S,e,rfl,w,r,?_⟩;unfold eY at h;cases i:F e S with
  |ok u k =>
   rw[i]at h;intro b v f a p;simp at h;split at h
   ·next g =>
    obtain⟨E,j⟩:=uZ w f a g;split at h
    ·next d m=>exact h (b.cut S.length) v E j (.d (A8 a 4 p m))
    ·exact h.elim
   ·exact h.elim
  |ex c k =>
   rw[i]at h;intro b x f a o;simp only at h;split at h
   ·next g =>
    obtain⟨E,j⟩:=uZ w f a g;exact⟨x,l c,rfl,rfl,h (b.cut S.length) x E j o⟩
   ·exact h.elim
  |st=>rw[i]at h;exact h⟩
theorem Jg{c:QD}{Z:QC->QC->Hp->Prop}(w:WR b W S)(r:bG b W M j)(h:PO b (RU b) W Q Z (j5 S.length (F (.loc S.length::j) (S++[.ins c []])))):∀x a,W.H x=Qs->W.H a=Qs->a≠x->jA b F (.ref x::M) (upd (upd W.H a (.own x)) x (.ins (b c) a [])) (λv A=>v=.non/\Q (.ref x) A) (λi H z=>∃x C,i=.ref C/\H=Qq x/\Z x C z):=λx a I m L=>by
 obtain⟨k,s⟩:=sS w I m L;have s:=s c rfl;have t:((W.put a (.own x)).new x (.ins (b c) a [])).μ[S.length]?=Qq x:=by show(W.μ++[x])[S.length]?=Qq x;rw[<- w.len,Zm (Z3 _)];simp
 refine⟨_,_,.loc S.length::j,rfl,s,.cons (.loc t) (r.mono k),?_⟩;unfold j5 at h;cases o:F (.loc S.length::j) (S++[.ins c []])with
 |ok u B =>
  rw[o]at h;intro g v e f p;cases u with
  |d y =>
   cases y with
   |non =>
    cases p with
    |d p =>
    cases p;simp at h;split at h
    ·next l =>
     obtain⟨E,q⟩:=uZ w (k.trans e) f l;split at h
     ·next d G=>exact⟨rfl,h (g.cut S.length) (.ref x) E q (.d (A8 f 4 (RU.mono e (.loc t)) G))⟩
     ·exact h.elim
    ·exact h.elim
   |_=>exact h.elim
  |loc n=>exact h.elim
 |ex c B =>
  rw[o]at h;intro g y e f J;simp at h;split at h
  ·next l =>
   obtain⟨E,q⟩:=uZ w (k.trans e) f l;exact⟨y,_,rfl,rfl,h (g.cut S.length) y E q J⟩
  ·exact h.elim
 |st=>rw[o]at h;exact h.elim
set_option tactic.hygienic true in
theorem Ld{c x:QD}{q:iu}(M:Mk X.K (a c) f)(G:c7 X.prog X.w X.K X.mg X.base u k f B R (jA a F))(N:cV (k+1) X.A)(L:X.mg x=Qq (.ref (a c)))(E:cI X.K B R g)(H:aG i g)(b:∀W,RpAll a W i y)(O:iH u X Z)(C:DA a X Z (e::d) q)(J:autoParam (Gl X x) A10._auto_1)(l:autoParam ((x==("__debug__"))=Qv) A11._auto_1)(I:autoParam (Qy (e::d) X.env=(Qv,eval e X.env)::Qy d X.env) A10._auto_1)(m:autoParam ((Rc n (Qy d X.env)).any (·.1)=Qv) A10._auto_1):DE a X Z (.Call (.Name x p) (e::d) [] n) (eC c F y q):=by
 obtain⟨ta,P,v⟩:=C.ex;refine .of ⟨_,L2.yA0 M G N J L E H O P l I m,λW S T A Q w r h=>v W S T A _ w r (PO.bind h λds Y o vs e1 t s j=>?_)⟩;split at j
 ·next xs z=>exact sR t ((s.pure z).append (b o)) j
 ·exact Jg t (s.append (b o).up) j
end
noncomputable def lV(e c f:FE):FS:=λa S=>bW (f a S) a λv S=>bW (e a S) a λo S=>bW (c a S) a λk S=>match o,k with
 | .loc n,.d (.int i)=>match bI S n with
  |some b=>match iS b.length i with
   |some j=>.nx a (S.set n (.lst (b.set j v)))
   |none=>.st
  |none=>.st
 |_,_=>.st
section
theorem bG.set(a:RU cl W v d):∀ {vs:List V}{ds:List U}  i ,bG cl W vs ds->bG cl W (vs.set i v) (ds.set i d)
 |_,_,_,.nil=>.nil
 |_,_,0,.cons r t=>.cons a t
 |_,_,i+1,.cons r t=>.cons r (bG.set a i t)
set_option tactic.hygienic true in
theorem Cr(ho:DE l X Z o R)(hk:DE l X Z k Q)(hv:DE l X Z v T)(hs:autoParam (Xm [.Subscript o k b] v z.line X.env=pure Qv) A10._auto_1)(hw:autoParam (Xn [.Subscript o k b] v X.env=pure Qs) A10._auto_1)(t:autoParam ((Se [.Subscript o k b] X.env).map (·.2)=[VR (.Subscript o k b) X.env]) A10._auto_1)
 (ha:autoParam (∀ v,VR (.Subscript o k b) X.env v=(do
  let e<-holding [v] (eval o X.env)
  let y<-holding [v,e] (eval k X.env)
  UB b
  holding [v,e,y] (ZM e y v)
  release [v,e,y] [])) A13._auto_1):DS l X Z (.Assign [.Subscript o k b] v z) (lV R Q T):=by
 obtain⟨to,po,N⟩:=ho.ex;obtain⟨tk,pk,M⟩:=hk.ex;obtain⟨tv,pv,O⟩:=hv.ex;refine .of ⟨_,L2.zXy pv (L2.yDn po pk Qm ha) hs hw t,λW S f s D w r h=>O W S f s _ w r (PF.bind h r λd H J v c w1 r1 t=>N J H f s _ w1 (r.mono c) (PF.bind t (r.mono c) λd2 I L v2 e2 w2 r2 h2=>M L I f s _ w2 ((r.mono c).mono e2) (PF.bind h2 ((r.mono c).mono e2) λd3 S3 g v3 m C A a=>?_)))⟩;split at a
 ·next n i =>
  split at a
  ·next xs P =>
   split at a
   ·next j G =>
    obtain⟨p,B,rfl,x,u,Y,g2,E⟩:=my C (r2.mono m) P;rw[<- E.length]at G;cases A with
    |d A=>cases A with
     |int =>
      have g4:=bG.set ((r1.mono e2).mono m) j E;have q:aX g (g.put p (.lst (B.set j v))):=aX.put (Ze x) u (C.ex (Ze x));exact⟨p,B,i,j,rfl,rfl,Y,G,a (g.put p (.lst (B.set j v))) f q (C.put x u ⟨u,_,dm,by simp_all,g4.mono q⟩) ((((r.mono c).mono e2).mono m).mono q)⟩
   ·exact a.elim
  ·exact a.elim
 ·exact a.elim
end
inductive lq (P:QW) (w:Rm) (K:aV) (mg:QD->Option Qz) (base:RS) (CX:jw) (cl:Cl) (k:Nat) (m:QD) (ps:List QD):List (QD×Fn)->Prop where
 |nil:lq P w K mg base CX cl k m ps []
 |cons {c:QD}{F:Fn}{T:List (QD×Fn)}:(∃f fd,jB K (cl c)/\m8 K (cl c) m f/\c7 P w K mg base CX k f fd ps (jA cl F)/\cI K fd ps [])->lq P w K mg base CX cl k m ps T->lq P w K mg base CX cl k m ps ((c,F)::T)
theorem lq.at_{K:aV}:∀ {T:List (QD×Fn)},lq P w K f b d cl k m g T->T.lookup c=Qq F->lS P w K f b d k m g (jA cl F) (cl c)
 |_,.nil,h=>by cases h
 |_,.cons a t,h=>by
  rw[Zq]at h;split at h
  ·next e =>
   cases h;rw[Wk e];exact⟨a⟩
  ·exact lq.at_ t h
theorem Av:∀ {T:List (QD×Fn)},T.lookup c=Qq F->c∈T.map (·.1)
 |(a,b)::r,h=>by
  rw[Zq]at h;split at h
  ·next e=>rw[Wk e];exact Za
  ·exact Z4 _ (Av h)
theorem Aw{K:aV}{g L:List QD}(f:∀c a,L.contains c=Qr->L.contains a=Qr->d c=d a->c=a)(t:lq P w K l b i d k m g T)(h:(T.map (·.1)).all (λc=>L.contains c)=Qr):gf P w K l b i d k m g T :=
 ⟨λc F e=>t.at_ e,λc a F n e j=>f c a (QM.mp h c (Av e)) (QM.mp h a (Av j))⟩
structure tj(K:aV)(x qual:QD)(st:RX)(c:QC)(f:QC)(fd:RE):Prop where
 ex:∃(oc:Qz) (od:Option QC) (dV kV doc pm:Qz) (an:Option QC) (ct:Qz) (osl:Array (Option Qz)),
  fd=Q0 x qual (bp st) (bo st) (aF st) dV kV doc pm an (.ref c) ct/\K.lookup f=Qq ⟨oc,od,.func fd,osl⟩/\Ry K (.ref c) qual=Qr
theorem zw{K:aV}{st:RX}(F:tj K x g st c f B)(y:eF N u (aF st))
 (C:∀  A   a   s   H   E ,cV k (A.deeper (Ur g (aF st) s.heap.objs.size f (.ref c)))->j1 cl (wV P w K mg base N g st f (.ref c) A a s H E) (ZE E) (bo st) b):c7 P w K mg base fy (k+1) f B u (jA cl (b8 N.length u.length b)):=by
 obtain⟨T,X,dV,kV,z,Y,O,R,L,rfl,J,o⟩:=F.ex;refine yW J o y (λM H Q E ⟨W,S,n,e,w,r,h⟩=>?_) λA a s H M Q E G ⟨W,S,n,e,w,r,h⟩=>?_
 ·unfold b8 at h;split at h
  ·next p=>rw[r.length];exact p
  ·exact h.elim
 ·subst e;refine⟨_,(C A a s W.H E G).pe,W,S,_,rfl,w,Gd r,?_⟩;unfold b8 at h;split at h
  ·next p =>
   rw[<- p]at h;cases i:b (n.map Qq++QE (N.length-n.length) Qs) S with
   |nx e m=>rw[i]at h;exact λj t e2 l q=>h j .non e2 l (.d .non)
   |rt d m=>rw[i]at h;exact λj v e2 l q=>h j v e2 l q
   |bk e m=>rw[i]at h;exact h.elim
   |ct e m=>rw[i]at h;exact h.elim
   |ex c e m=>rw[i]at h;exact λj t x e2 l q I=>h j x e2 l I
   |st=>rw[i]at h;exact h.elim
  ·exact h.elim
noncomputable def nK(S:aE)(a:List (aR×U)):List (aR×U)->Option Bool
 |[]=>Qq Qr
 |(k,u)::r=>match b6 a k with
  |none=>Qq Qv
  |some y=>match f5 S u,f5 S y with
   |some p,Qq q=>if p.depth<=60/\q.depth<=60 then(nK S a r).map λb=>Q5 p q&&b else Qs
   |_,_=>Qs
noncomputable def pj(c:Bool)(a b:U)(S:aE):aJ U:=match bK S a,bK S b with
 |some e,Qq f=>if e.length=f.length then match nK S f e with
  |some r=>.ok (.d (.bl (XJ c r))) S
  |none=>.st
  else .ok (.d (.bl (XJ c Qv))) S
 |_,_=>.st
section
set_option tactic.hygienic true in
theorem CJ{A:RT}(J:A.in1.units+64<Rq)(I:aD X o σ W.H s)(w:WR m W S)(rb:bT m W N x)(f:KV N vb):∀ {i:List (aR×U)}{j:List (aR×V)}{g:List (aR×Qz)}{r:Bool},bT m W j i->KV j g->nK S x i=Qq r->PySem.W.KeqHits A.in1 s vb g r:=by
 intro i j g r Z
 induction Z generalizing g r with
 |nil =>
  intro v h;cases v;cases h;exact .nil
 | @cons k v d vs ds rd t M =>
  intro O h;cases O with
  | @cons p q _ qs n H =>
   obtain⟨R,q2⟩:=q;have e:k=R:=n.1;subst e;unfold nK at h;have a:=rb.val (k:=k);split at h
   ·next z =>
    cases h;rw[z]at a;have:=f.val k;rw[a]at this;exact .miss (dN.none_of this)
   ·next y E =>
    rw[E]at a;obtain⟨v',u,ry⟩:=a;split at h
    ·next p q B C =>
     split at h
     ·next c =>
      obtain⟨b,G,rfl⟩:=QA.mp h;obtain⟨w',L,l⟩:=dN.some_of (by rw[<- u];exact f.val k);obtain⟨⟨as,T⟩,P⟩:=dM I w rd B n.2;obtain⟨⟨bs,Y⟩,Q⟩:=dM I w ry C l;exact .hit L (PySem.W.keq_at T Y (qo P c.1) (qo Q c.2) J) (M H G)
     ·cases h
    ·cases h
noncomputable def rK(f:Cl)(c:Bool):L2.R2:=λx y H Q=>∃W S a b d e,W.H=H/\WR f W S/\RU f W x a/\RU f W y b/\bK S a=Qq d/\bK S b=Qq e/\((d.length=e.length/\∃r,nK S e d=Qq r/\Q (.bl (XJ c r)) H)\/(d.length≠e.length/\Q (.bl (XJ c Qv)) H))
theorem bT.len{a:List (c×U)}(h:bT b W vs a):vs.length=a.length:=h.length
theorem HA(m:X.A.in1.units+64<Rq):dS X (QK .Eq) (rK L Qv):=by
 intro n s σ H x y u v Q I G J h;obtain⟨W,S,a,b,M,N,rfl,w,C,E,t,e2,h⟩:=h;obtain⟨R,O,rfl,A,_,i⟩:=kE w C t;obtain⟨T,P,rfl,B,_,j⟩:=kE w E e2;cases (G);cases (J);obtain⟨_,o,Y,c,k⟩:=iW I.hok A;obtain⟨_,p,Z,d,l⟩:=iW I.hok B;have f:X.A.units<Rq:=by have:X.A.units+1+64<Rq:=m;omega
 rcases h with⟨g,r,z,q⟩|⟨g,q⟩
 ·refine XT o p k l f (λ_=>CJ m I w j d i c z) ⟨.bl r,_,I,?_,by simpa using q⟩;show _=_;rw[<- c.len,<- d.len,i.len,j.len,g];simp
 ·refine XT (r:=Qr) o p k l f (λe=>absurd (by rw[<- i.len,<- j.len,c.len,d.len];exact e) g) ⟨.bl Qv,_,I,?_,by simpa using q⟩;show _=_;rw[<- c.len,<- d.len,i.len,j.len];simp[g]
theorem Lk(m:X.A.in1.units+64<Rq):dS X (QK .NotEq) (rK L Qr):=by
 intro n s σ H x y u v Q I G J h;obtain⟨W,S,a,b,M,N,rfl,w,C,E,t,e2,h⟩:=h;obtain⟨R,O,rfl,A,_,i⟩:=kE w C t;obtain⟨T,P,rfl,B,_,j⟩:=kE w E e2;cases (G);cases (J);obtain⟨_,o,Y,c,k⟩:=iW I.hok A;obtain⟨_,p,Z,d,l⟩:=iW I.hok B;have f:X.A.units<Rq:=by have:X.A.units+1+64<Rq:=m;omega
 rcases h with⟨g,r,z,q⟩|⟨g,q⟩
 ·refine XS o p k l f (λ_=>CJ m I w j d i c z) ⟨.bl (!r),_,I,?_,by simpa using q⟩;show _=_;rw[<- c.len,<- d.len,i.len,j.len,g];simp
 ·refine XS (r:=Qr) o p k l f (λe=>absurd (by rw[<- i.len,<- j.len,c.len,d.len];exact e) g) ⟨.bl Qr,_,I,?_,by simpa using q⟩;show _=_;rw[<- c.len,<- d.len,i.len,j.len];simp[g]
set_option tactic.hygienic true in
theorem EU(w:WR c W S)(l:RU c W x a)(m:RU c W y b)(h:PO c (RU c) W Q Z (pj f a b S)):rK c f x y W.H Q:=by
 unfold pj at h;split at h
 ·next i j g e2 =>
  refine⟨W,S,a,b,i,j,rfl,w,l,m,g,e2,?_⟩;split at h
  ·next e =>
   split at h
   ·next r k=>exact .inl ⟨e,r,k,h.now w (.d (.bl _))⟩
   ·exact h.elim
  ·next e=>exact .inr ⟨e,h.now w (.d (.bl _))⟩
 ·exact h.elim
theorem LN(c:X.A.in1.units+64<Rq):c9 f X (QK .Eq) (pj Qv):=⟨_,HA c,λW S x y a b Q Z w d e h=>EU w d e h⟩
theorem NN(c:X.A.in1.units+64<Rq):c9 f X (QK .NotEq) (pj Qr):=⟨_,Lk c,λW S x y a b Q Z w d e h=>EU w d e h⟩
noncomputable def gU:=λa b S=>(uu a b S).or (pj Qv a b S)
noncomputable def fZ:=λa b S=>(pd a b S).or (pj Qr a b S)
theorem NQ(a:X.A.in1.units+64<Rq):c9 b X (QK .Eq) gU:=.or (N1 (by have:X.A.units+1+64<Rq:=a;omega)) (LN a)
theorem KR(a:X.A.in1.units+64<Rq):c9 b X (QK .NotEq) fZ:=.or (L6 (by have:X.A.units+1+64<Rq:=a;omega)) (NN a)
end
noncomputable def xS(K:aV):Bool:=K.all λe=>match e.2.cls with
 | .type n=>n != "list"
 |_=>Qr
theorem Pt{K:aV}(h:xS K=Qr)(e:K.lookup a=Qq o):o.cls≠.type "list":=λz=>by
 have m:∀ {K:List (QC×Ts)},K.lookup a=Qq o->∃b,(b,o)∈K:=by
  intro K
  induction K with
  |nil=>intro e;cases e
  |cons x r g =>
   intro e;obtain⟨b,u⟩:=x;rw[Zq]at e;split at e
   ·simp_all
   ·obtain⟨c,d⟩:=g e;exact⟨c,Z4 _ d⟩
 obtain⟨b,f⟩:=m e;have:=QM.mp h _ f
 simp_all
theorem Cv:∀a:List Int,RpAll b W (a.map V.int) (a.map D.int)
 |[]=>.nil
 |n::r=>.cons (.int n) (Cv r)
noncomputable def oa(K:aV)(d:List QC):Sp:=λe H Q ω=>∃(a:QC) (b:List Int),e=[.ref a]/\cF K H a (b.map V.int)/\b.length<=63/\jK d H/\∀c,Q (.bl Qr) c
theorem oX{K:aV}(B:xS K=Qr)(G:∀t∈s.tabs,t.1∈p)(i:∀f:List Int,f.length<=63->∃l,F [.d (.frl (f.map .int))] []=.ok (.d (.bl Qr)) l):∀k H Q E,oa K p k H Q E->jA s F k H Q λ_ ω ω=>False:=λk H Q E ⟨a,f,e,C,m,j,q⟩=>by
 subst e;obtain⟨o,u⟩:∃o,H a=Qq (.frz o (.lst (f.map V.int))):=by
  rcases C with(z|⟨o,z⟩)|⟨o,I,n,A,x,_⟩
  ·by_cases h:a∈p
   ·rw[j.1 a h]at z;cases z
   ·rcases j.2 a h with y|⟨o,L,y⟩<;>rw[z]at y<;>cases y
  ·exact⟨o,z⟩
  ·exact absurd x (Pt B A)
 obtain⟨l,i⟩:=i f m;refine⟨⟨λb=>b=a,[],H⟩,[],[.d (.frl (f.map .int))],rfl,⟨rfl,Yh,λb g=>⟨.frz o (.lst (f.map V.int)),(by simp_all),rfl⟩,λn c b h=>by simp at h,λt h=>.inl (j.1 _ (G t h))⟩,.cons (.d (.frl rfl u (by rw[Z0];exact Z9 m (by decide)) (Cv f))) .nil,?_⟩;rw[i];intro J v e w r;cases r with
 |d r=>cases r;exact q _
structure oB(l:PySem.W.OpenLaw)(w:Rm)(K:aV)(mg:QD->Option Qz)(ts:List QC)(k:Nat)(fa:QC):Prop where
 ex:∃fd:RE,(∀(s:QF) (v:Qz),WT s fd ⟨[v],[]⟩ [("_law_script",v)])/\(∀T∈ts,K.lookup T=Qs/\∃c,Th K c T=Qr)/\∀base:RS,K.In base->base.Ns Rg mg->hB mg base->c7 l.prog w K mg base fy k fa fd ["_law_script"] (oa K ts)
theorem walk{K:Params->aV}(M:l.most=Qq 63)(m:d.params.defaults=[])
 (E:∀  w   h ,v w h->(K w.params).In h/\∀T∈P,h.get? T=Qq (VS #[])) (N:cV k Vw)
 (F:∀  w   i   j   h ,(K w.params).In h->h.Ns Rg i->i d.name=Qq (.ref j)->oB l w (K w.params) i P k j) :
 PySem.W.WalkO q p Q v l.row.toRowW d [] (λf u=>Za7 f u):=by
 refine Att.attach_call M m λw s t i Z j o pm R x a u O G Y X W J n g e c L=>?_;obtain⟨r,C⟩:=E w _ Y;obtain⟨S,I,b,y⟩:=(F w i j _ r G.T.g n).ex;exact Il r G.T.g G.T.b G.T.builtins G.T.nolimit L (K7 G.T) C (λT h=>(b T h).1) (λT h=>(b T h).2) g e (Z9 c (by decide)) N y I (λH A B=>⟨a,O,rfl,B,c,A,λ_=>rfl⟩) λ_ ω ω z=>z
noncomputable def AI(K:aV)(C:QC)(a:List QD):Bool:=Tg K C R5&&(Ub K C&&(Vi K C&&(decide (QX K (.ref C) "__setattr__" = Qq (Qq (.builtin "object.__setattr__")))&&(decide (QX K (.ref C) "__class__" = Qq (Qq (.builtin "object.__class__")))&&(decide (UT K C (.type "object")=Qq Qr)&&(Uu K C&&(Rk K (.ref C)&&a.all λn=>decide (QX K (.ref C) n=Qq Qs))))))))
structure yc(K:aV)(C:QC)(nos:List QD):Prop where
 cl:jB K C
 ha:QX K (.ref C) "__class__" = Qq (Qq (.builtin "object.__class__"))
 hm:UT K C (.type "object")=Qq Qr
 ms:Uu K C=Qr
 kp:Rk K (.ref C)=Qr
 no:∀n∈nos,dO K C n
theorem Gm{K:aV}(z:AI K C c=Qr):yc K C c:=by
 unfold AI at z;simp at z;obtain⟨d,e,f,g,h,i,j,a,b⟩:=z;exact⟨⟨d,e,f,g⟩,h,i,j,a,b⟩
noncomputable def lT(K:aV)(a:Cl)(b:kI):Bool:=b.all λe=>AI K (a e.1) e.2
theorem uW{a:Type}{b:a}:∀ {T:List (QD×a)},T.lookup c=Qq b->(c,b)∈T
 |(x,y)::r,h=>by
  rw[Zq]at h;split at h
  ·simp_all
  ·exact Z4 _ (uW h)
theorem Fm{K:aV}(h:lT K a b=Qr)(e:b.lookup c=Qq d):yc K (a c) d:=Gm (QM.mp h _ (uW e))
set_option tactic.hygienic true in
theorem uy{K:aV}(h:lT K b d=Qr):kM K b d:=⟨λc f a=>by
 unfold lC at a;split at a
 ·next g e =>
  have k:=Fm h e;exact⟨k.cl,k.no f (by simpa using a)⟩
 ·cases a⟩
noncomputable def B4:List String:=["NoneType", "bool", "int", "str", "list", "tuple", "dict"]
noncomputable def ve(K:aV)(b:Cl)(e d:List QD)(f:List (QD×QD)):Bool :=
 e.all (λc=>d.all λa=>decide (Ro K (.ref (b c)) (.ref (b a))=Qq (f.contains (c,a)))) &&
 (B4.all (λt=>d.all λa=>decide (Ro K (.type t) (.ref (b a))=Qq Qv)) &&
 e.all (λc=>B4.tail.all λt=>decide (Ro K (.ref (b c)) (.type t)=Qq Qv)))
theorem uS{K:aV}(h:lT K l n=Qr)(s:j=n.map (·.1))(u:R0 K (.builtin "object.__class__") "__get__" = Qq (Qq (.builtin "getset_descriptor.__get__")))(i:Tv K (.builtin "object.__class__")=Qq Qr)(f:ve K l j m v=Qr):lr K l j m v:=by
 unfold ve at f;simp only[Zl,decide_eq_true_eq,Zp]at f;obtain⟨o,p,q⟩:=f;refine⟨λc a=>?_,λc d a b=>o c (by simpa using a) d (by simpa using b),λt d g b=>p t g d (by simpa using b),λc t a g=>q c (by simpa using a) t g⟩;have a:c∈j:=by simpa using a
 rw[s]at a;obtain⟨e,r,rfl⟩:=Qx.mp a;have k:=Gm (QM.mp h e r);exact⟨k.cl,k.ha,u,i,k.hm⟩
noncomputable def pE(b:Cl)(L:List QD):Bool:=L.all λc=>L.all λa=>decide (b c=b a->c=a)
theorem M7(h:pE d L=Qr):∀c a,L.contains c=Qr->L.contains a=Qr->d c=d a->c=a:=λc a e b=>of_decide_eq_true (QM.mp (QM.mp h c (by simpa using e)) a (by simpa using b))
noncomputable def y1(K:aV)(a:List QD):Bool:=a.all λx=>decide (Sh K Rg x=Qq Qs)
theorem rg{K:aV}(X:K.In h)(G:h.Ns Rg b)(e:y1 K c=Qr)(a:x∈c):b x=Qs:=PySem.W.mg_none_of X G (of_decide_eq_true (QM.mp e x a))
theorem sM{K:aV}{st:RX}(F:Fun K x q st f g):kD K x q st f g:=by
 obtain⟨i,j,kV,b,k,d,a,e,c,h⟩:=F.ex;exact⟨⟨i,j,.none,kV,b,k,d,a,e,c,h⟩,F.kp⟩
structure DL(K:aV)(x:QD)(st:RX)(f:QC)(fd:RE):Prop where
 a:Sh K Rg x=Qq (Qq (.ref f))
 F:Fun K x x st f fd
structure ML(K:aV)(C:QC)(x q:QD)(st:RX)(f:QC)(fd:RE):Prop where
 a:QX K (.ref C) x=Qq (Qq (.ref f))
 i:R1 K (.ref f)=Qr
 F:Fun K x q st f fd
theorem dl_mk{K:aV}{st:RX}{kV d g b e:Qz}(a:Sh K Rg x=Qq (Qq (.ref f)))(l:K.lookup f=Qq ⟨j,m,.func (Q0 x x (bp st) (bo st) (aF st) .none kV d g h b e),i⟩)
 (c:Ry K b x=Qr) (k:Rk K (.ref f)=Qr):DL K x st f (Q0 x x (bp st) (bo st) (aF st) .none kV d g h b e):=⟨a,CQ l c k⟩
theorem ml_mk{K:aV}{st:RX}{kV d g b e:Qz}(a:QX K (.ref C) x=Qq (Qq (.ref f)))(i:R1 K (.ref f)=Qr)(l:K.lookup f=Qq ⟨m,n,.func (Q0 x q (bp st) (bo st) (aF st) .none kV d g h b e),j⟩)
 (c:Ry K b q=Qr) (k:Rk K (.ref f)=Qr):ML K C x q st f (Q0 x q (bp st) (bo st) (aF st) .none kV d g h b e):=⟨a,i,CQ l c k⟩
structure MD(K:aV)(C:QC)(x q:QD)(st:RX)(ps:List QD)(f:QC)(fd:RE):Prop where
 a:QX K (.ref C) x=Qq (Qq (.ref f))
 i:R1 K (.ref f)=Qr
 F:kD K x q st f fd
 b:cI K fd ps []
 d:cI K fd ps [.none]
theorem rM{K:aV}{st:RX}{kV d j b h:Qz}
 (z:∀  kV d j   m   b h   s   e ,K.In s.heap->K.lookup g=Qq ⟨n,o,.seq #[.none] y,p⟩->e.length=u.length->WT s (Q0 x q (bp st) (bo st) (aF st) (.ref g) kV d j m b h) ⟨e,[]⟩ (u.zip e))
 (A:∀  kV d j   m   b h   s   e ,K.In s.heap->K.lookup g=Qq ⟨n,o,.seq #[.none] y,p⟩->e.length+1=u.length->WT s (Q0 x q (bp st) (bo st) (aF st) (.ref g) kV d j m b h) ⟨e,[]⟩ (u.zip (e++[.none])))
 (a:QX K (.ref C) x=Qq (Qq (.ref f))) (i:R1 K (.ref f)=Qr) (l:K.lookup f=Qq ⟨B,E,.func (Q0 x q (bp st) (bo st) (aF st) (.ref g) kV d j m b h),w⟩)
 (c:Ry K b q=Qr) (k:Rk K (.ref f)=Qr) (t:K.lookup g=Qq ⟨n,o,.seq #[.none] y,p⟩):MD K C x q st u f (Q0 x q (bp st) (bo st) (aF st) (.ref g) kV d j m b h) :=
 ⟨a,i,⟨⟨B,E,.ref g,kV,d,j,m,b,h,w,rfl,l,c⟩,k⟩,λs e v r=>by
  rw[QP]at r ⊢
  exact z _ _ _ _ _ _ s e v t r,λs e v r=>A _ _ _ _ _ _ s e v t (by simpa using r)⟩
structure MB(cl:Cl)(X:Cx)(T id:String)(name:QD)(chk:U->aE->Bool)(g:U->List U->aE->aJ U):Prop where
 pa:ZD T
 sl:Slot T name id
 ty:typeOf (.builtin id)=pure (.type "method_descriptor")
 m:ml cl X T id chk g
section
theorem fJ{T id:String}(B:MB m X T id c l g)(q:DE m X Z o n)(p:DA m X Z (e::i) f)
 (d:autoParam (Q6 o c X.env (eval o X.env)=eval o X.env) A10._auto_1)
 (k:autoParam (((Rc b (Qy (e :: i) X.env)).all (λx=>!x.1) && (T8 b (Sq [] X.env)).all (λx=>x.1.isSome)
  && decide ((e::i).length+([]:List VA).length+(if([]:List VA).isEmpty then 0 else 1)<30))=Qr) A10._auto_1)
 (h:autoParam ((j.endLine==b.line)=Qr) A10._auto_1) (r:autoParam (Qy (e::i) X.env=(Qv,eval e X.env)::Qy i X.env) A10._auto_1) (a:autoParam ((Rc b (Qy i X.env)).any (·.1)=Qv) A10._auto_1):DE m X Z (.Call (.Attribute o c j) (e::i) [] b) (fG l g n f):=uq B.pa B.sl B.ty B.m q p d k h r a
theorem pW:MB a X "list" "list.append" "append" gJ fS:=⟨SS,PySem.F.slot_list_append,PySem.F.type_list_append,Pc⟩
theorem Hb:MB a X "list" "list.extend" "extend" gJ kO:=⟨SS,PySem.F.slot_list_extend,PySem.F.type_list_extend,Mu⟩
theorem Kb:MB a X "list" "list.index" "index" gJ iL:=⟨SS,We,PySem.F.type_list_index,Mh⟩
theorem GE:MB a X "str" "str.join" "join" iE fu:=⟨S7,PySem.F.slot_str_join,PySem.F.type_str_join,Pm⟩
theorem G8:MB a X "str" "str.split" "split" iE g8:=⟨S7,PySem.F.slot_str_split,PySem.F.type_str_split,MW⟩
theorem P8:MB a X "str" "str.startswith" "startswith" iE iF:=⟨S7,PySem.F.slot_str_startswith,PySem.F.type_str_startswith,Ha⟩
end
noncomputable def ye(N P:List QD)(a:TH):Bool:=decide N.Nodup&&(decide (N.take P.length=P)&&((P.all λx=>match a.names.lookup x with|some .local=>Qr|some .cell=>Qr|_=>Qv)&&a.names.all λy=>match y.2 with|.free=>Qv|_=>Qr))
theorem OF(k:autoParam (a.kind=.function) A10._auto_1)(c:autoParam (a.isCoroutine=Qv) A10._auto_1)(g:autoParam (a.isGenerator=Qv) A10._auto_1)(h:autoParam (ye N P a=Qr) A12._auto_1):eF N P a:=by
 unfold ye at h;rw[Zl,Zl,Zl,decide_eq_true_eq,decide_eq_true_eq,Zp,Zp]at h;refine⟨k,c,g,h.1,h.2.1,λx b=>?_,λy d e=>?_⟩
 ·have z:=h.2.2.1 x b;split at z
  ·next q=>exact .inl q
  ·next q=>exact .inr q
  ·cases z
 ·have z:=h.2.2.2 y d;rw[e]at z;cases z
theorem zA{c d:Type}[BEq c][LawfulBEq c]{n:c}{a:d}:∀ {l:List (c×d)},(n,a)∈l->(l.lookup n).isSome=Qr
 |(k,b)::l,h=>by
  rw[Zq];cases e:(n==k)with
  |true=>rfl
  |false =>
   rcases QL.mp h with z|z
   ·cases z;simp at e
   ·exact zA z
theorem Dr{b d:Type}{f g:b->Option d}:∀ {l:List b},(∀x∈l,f x=g x)->l.filterMap f=l.filterMap g
 |[],_=>rfl
 |a::l,h=>by
  rw[Y3,Y3,h a Za,Dr λx c=>h x (Z4 _ c)]
theorem Hs:∀(b:List QD) (a:List Qz),b.Nodup->a.length=b.length->b.filterMap (λn=>((b.zip a).lookup n).map (n,·))=b.zip a:=by
 intro b
 induction b with
 |nil=>intro a _ _;rfl
 |cons p r g =>
  intro a h d;cases a with
  |nil=>cases d
  |cons u a =>
   have c:=QZ.mp h;rw[Y3];have e:((p::r).zip (u::a)).lookup p=Qq u:=by
    simp_all
   rw[e];dsimp only[ZU];rw[XC]
   congr 1
   refine Eq.trans (Dr λn f=>?_) (g a c.2 (by simpa using d));rw[Zq];have:(n==p)=Qv:=by simpa using(λz=>c.1 (by rw[<- z];exact f))
   rw[this];rfl
theorem Kq{a:List QD}{b:List Qz}(d:b.length=a.length):∀n∈a,((a.zip b).lookup n).isSome=Qr:=by
 intro n e;obtain⟨i,c⟩:=Xb.mp e;have:i<b.length:=by rw[d];exact(Qw.mp c).1
 exact zA (Xb.mpr ⟨i,by rw[SM];exact⟨c,Z2 this⟩⟩)
theorem IV{a:List QD}{b:List Qz}(c:b.length=a.length):(a.filter λn=>((a.zip b).lookup n).isNone)=[]:=by
 rw[Tb];intro n d;have:=Kq c n d;cases e:(a.zip b).lookup n<;>simp_all
noncomputable def fQ(p:TY):Bool:=p.posonlyargs.isEmpty&&p.vararg.isNone&&p.kwonlyargs.isEmpty&&p.kwarg.isNone
theorem KU(h:fQ e.params=Qr)(l:e.params.args.map (·.arg)=c)(p:e.defaults=.none)(r:c.Nodup)(d:List Qz)(g:d.length=c.length):T7 e ⟨d,[]⟩=pure (c.zip d):=by
 unfold fQ at h;simp at h;obtain⟨⟨⟨k,m⟩,n⟩,o⟩:=h;have b:=IV g;unfold T7;simp only[k,l,m,n,o,p,Vz,YG,QP];have j:seqItems? R6=pure Qs:=rfl;have e2:∀ {i s:Type}  a  (f:i->ZT s),((pure a:ZT i) >>= f)=f a:=λ_ ω=>rfl;have q:decide (d.length > c.length)=Qv:=by rw[g];simp
 simp only[j,e2,List.forIn_nil,q,Bool.false_and,Option.getD_none,List.drop_nil,Nat.sub_zero,Y8,b,List.isEmpty_nil,Bool.not_true,List.zip_nil_right,XI,if_false,YI];exact congrArg pure (Hs c d r g)
theorem lx{st:RX}(i:fQ (bp st)=Qr)(g:(bp st).args.map (·.arg)=d)(j:d.Nodup)(kV c k:Qz)(e:Option QC)(b f:Qz)(a:List Qz)(h:a.length=d.length):T7 (Q0 x q (bp st) (bo st) (aF st) .none kV c k e b f) ⟨a,[]⟩=pure (d.zip a):=KU i g rfl j a h
section
noncomputable def jF:List U->aE->aJ U
 |[.d (.int i)],S=>if i.natAbs<10^12/\dZ (Qu (Sy i))=Qr then .ok (.d (.str (Qu (Sy i)))) S else .st
 |_,_=>.st
set_option tactic.hygienic true in
theorem DZ:bV b X (.type "str") jF:=⟨_,IK,λW S f e Q Z w r h=>by
 unfold jF at h;split at h
 ·next i =>
  obtain⟨v,rfl,a⟩:=r.one;cases a with
  |d a =>
  cases a;split at h
  ·next c =>
   refine⟨i,rfl,?_,h.now w (.d (.str _ (mv c.2)))⟩;by_cases z:i.natAbs=0
   ·rw[z];decide
   ·exact Zd ((Xr z).mpr (Zd c.1 (by decide:10^12<=2^40))) (by decide)
  ·exact h.elim
 ·exact h.elim⟩
theorem bG.two(r:bG a W b [d,e]):∃v u,b=[v,u]/\RU a W v d/\RU a W u e:=by
 cases r with
 |cons r t=>cases t with
  |cons q t=>cases t;exact⟨_,_,rfl,r,q⟩
noncomputable def nj:U->List U->aE->aJ U
 | .d (.str z),[.d (.str y)],S=>match QR z y 0 z.length 1 with
  |i::_=>.ok (.d (.int (i:Nat))) S
  |[]=>.st
 |_,_,_=>.st
set_option tactic.hygienic true in
theorem Hm:ml c X "str" "str.index" iE nj:=⟨_,Kh,λW S x d w r h=>xb w r h,λW S x k d f Q Z w r b h=>by
 unfold nj at h;split at h
 ·obtain⟨v,rfl,a⟩:=b.one;cases r with
  |d r =>
  cases r with
  |str z j =>
   cases a with
   |d a =>
   cases a with
   |str y g =>
    split at h
    ·next i rest e=>exact⟨_,_,_,_,rfl,rfl,e,h.now w (.d (.int _))⟩
    ·exact h.elim
 ·exact h.elim⟩
theorem I8:MB a X "str" "str.index" "index" iE nj:=⟨S7,PySem.F.slot_str_index,PySem.F.type_str_index,Hm⟩
end
end L2.F
namespace HT
open PySem PyProof.Rows
open PySem.SeqAt
open PySem.AutoSeq1 (wpAny_loadPart')
open PySem.MeetsSeq PySem.MeetsSeq2 PySem.MeetsSeq3
section
variable {prog:QW}{w:Rm}{A:RT}{E:Qz->QF->Prop}{s:QF}
end
end HT
namespace L2.F
open PySem PySem.Spec PyProof.Rows L2
section
variable {X:Cx}
end
section
variable {cl:Cl}{X:Cx}{Z:TZ}{a b c o:Rx}{fa fb fc fo:FE}{pos:VY}
end
structure Rw where
 c:QD
 x:QD
 q:QD
 st:RX
noncomputable def cM(st:RX):List QD:=(bp st).args.map (·.arg)
noncomputable def js (st:RX):List QD:=((aF st).names.filter λy=>match y.2 with
 | .local=>Qr
 | .cell=>Qr
 |_=>Qv).map (·.1)
structure Tx where
 ct:kI
 cs:List QD
 kt:List (QD×QD)
 ex:List QD
 hd:List (QD×QD)
 bl:List QD
 ci:List (QD×Int)
 cx:List (QD×QD)
 gl:List QD
 rw:List Rw
 dn:List Nat
 ini:List (QD×Nat)
 mt:List (QD×QD×Nat)
 cf:List Nat
 lm:Option (Nat×VY×QD)
noncomputable def Tx.cl(T:Tx):List QD:=T.ct.map (·.1)
structure Sg where
 P:QW
 w:Rm
 K:aV
 mg:QD->Option Qz
 base:RS
 cl:Cl
 fa:Nat->QC
 fd:Nat->RE
 cL:QC
 tP:QC
structure Fx(T:Tx)(σ:Sg):Prop where
 tb:kM σ.K σ.cl T.ct
 kt:lr σ.K σ.cl T.cl T.cs T.kt
 inj:∀c c',T.cl.contains c=Qr->T.cl.contains c'=Qr->σ.cl c=σ.cl c'->c=c'
 bl:∀x,T.bl.contains x=Qr->σ.mg x=Qs
 ci:∀x i,T.ci.lookup x=Qq i->∃t,σ.mg x=Qq (.int i t)
 cx:∀x y,T.cx.lookup x=Qq y->∃t,σ.mg x=Qq (.str y t)
 cc:∀c,T.cl.contains c=Qr->jB σ.K (σ.cl c)
 gc:∀c,T.gl.contains c=Qr->σ.mg c=Qq (.ref (σ.cl c))
 fn:∀i r,T.rw[i]?=Qq r->kD σ.K r.x r.q r.st (σ.fa i) (σ.fd i)/\cI σ.K (σ.fd i) (cM r.st) []
 mg:∀i r,T.rw[i]?=Qq r->r.c=("" : QD)->σ.mg r.x=Qq (.ref (σ.fa i))
 bn:∀i r,T.rw[i]?=Qq r->T.dn.contains i=Qr->cI σ.K (σ.fd i) (cM r.st) [.none]
 mi:∀c i,T.ini.lookup c=Qq i->Mk σ.K (σ.cl c) (σ.fa i)
 mt:∀c m i,T.mt.contains (c,m,i)=Qr->m8 σ.K (σ.cl c) m (σ.fa i)
 cf:∀i r,T.rw[i]?=Qq r->T.cf.contains i=Qr->q8 σ.K (σ.cl r.c) r.x (σ.fa i)
 lm:∀i p q r,T.lm=Qq (i,p,q)->T.rw[i]?=Qq r->tj σ.K r.x r.q r.st σ.cL (σ.fa i) (σ.fd i)/\(σ.tP,p,q)∈σ.cl.tabs/\(∀t∈σ.cl.tabs,t.1=σ.tP->t=(σ.tP,p,q))/\iI σ.K σ.mg σ.base σ.cL σ.tP
structure Dn(T:Tx)(q:QD)(st:RX)(i k:Nat)where
 F:FS
 ok:∀ {σ:Sg},Fx T σ->∀(cdv:Qz) (A:RT) (outer:List X9) (s:QF) (H:Hp) (E:XK),(js st).Nodup->cV k (A.deeper (Ur q (aF st) s.heap.objs.size (σ.fa i) cdv))->j1 σ.cl (wV σ.P σ.w σ.K σ.mg σ.base (js st) q st (σ.fa i) cdv A outer s H E) (ZE E) (bo st) F
structure Ea(T:Tx)(q:QD)(st:RX)(i k:Nat)where
 F:FS
 ok:∀ {σ:Sg},Fx T σ->∀(A:RT) (outer:List X9) (s:QF) (H:Hp) (E:XK),(js st).Nodup->cV k (A.deeper (Ur q (aF st) s.heap.objs.size (σ.fa i) (.ref σ.cL)))->j1 σ.cl (wV σ.P σ.w σ.K σ.mg σ.base (js st) q st (σ.fa i) (.ref σ.cL) A outer s H E) (ZE E) (bo st) F
structure Od(T:Tx)(σ:Sg)(c x:QD)(i k:Nat)(F:Fn):Prop where
 ex:∃q st,T.rw[i]?=Qq ⟨c,x,q,st⟩/\c7 σ.P σ.w σ.K σ.mg σ.base fy k (σ.fa i) (σ.fd i) (cM st) (jA σ.cl F)
noncomputable def wh(st:RX)(n m:Nat):Bool:=(aF st).kind==.function&&!(aF st).isCoroutine&&!(aF st).isGenerator&&decide ((js st).length=n)&&decide ((cM st).length=m)&&ye (js st) (cM st) (aF st)
theorem GM{st:RX}(h:wh st n m=Qr):eF (js st) (cM st) (aF st)/\(js st).length=n/\(cM st).length=m:=by
 unfold wh at h;simp at h;obtain⟨⟨⟨⟨⟨k,c⟩,g⟩,a⟩,b⟩,d⟩:=h;exact⟨OF k c g d,a,b⟩
section
variable {σ:Sg}{st:RX}
theorem od(h:Fx T σ)(g:Dn T q st i k)(e:autoParam (T.rw[i]?=Qq ⟨c,x,q,st⟩) A10._auto_1)(s:autoParam (wh st n m=Qr) A12._auto_1):Od T σ c x i (k+1) (b8 n m g.F):=by
 obtain⟨S,f,j⟩:=GM s;refine⟨q,st,e,?_⟩;have:=Lz (h.fn i _ e).1 S λb A a s H E d=>g.ok h b A a s H E S.nd d
 simp_all
theorem Mi(h:Fx T σ)(g:Ea T q st i k)(l:autoParam (T.lm=Qq (i,p,d)) A10._auto_1)(e:autoParam (T.rw[i]?=Qq ⟨c,x,q,st⟩) A10._auto_1)(s:autoParam (wh st n m=Qr) A12._auto_1):Od T σ c x i (k+1) (b8 n m g.F):=by
 obtain⟨S,f,j⟩:=GM s;refine⟨q,st,e,?_⟩;have:=zw (h.lm i p d _ l e).1 S λA a s H E b=>g.ok h A a s H E S.nd b
 simp_all
theorem wb:lq σ.P σ.w σ.K σ.mg σ.base fy σ.cl k m a []:=.nil
theorem vX(h:Fx T σ)(O:Od T σ c m i j F)(t:lq σ.P σ.w σ.K σ.mg σ.base fy σ.cl k m (cM st) L)(e:autoParam (T.rw[i]?=Qq ⟨c,m,p,a⟩) A10._auto_1)(f:autoParam (cM a=cM st) A10._auto_1)(n:autoParam (T.mt.contains (d,m,i)=Qr) A12._auto_1)(g:autoParam (T.cl.contains d=Qr) A12._auto_1)(l:autoParam (j<=k) A11._auto_1):lq σ.P σ.w σ.K σ.mg σ.base fy σ.cl k m (cM st) ((d,F)::L):=by
 obtain⟨q,o,b,G⟩:=O.ex;rw[e]at b;cases b;rw[<- f];rw[<- f]at t;exact .cons ⟨_,_,h.cc d g,h.mt d m i n,G.mono l,(h.fn i _ e).2⟩ t
theorem va(h:Fx T σ)(t:lq σ.P σ.w σ.K σ.mg σ.base fy σ.cl k m b L)(a:autoParam ((L.map (·.1)).all (λc=>T.cl.contains c)=Qr) A12._auto_1):gf σ.P σ.w σ.K σ.mg σ.base fy σ.cl k m b L:=Aw h.inj t a
end
section
variable {σ:Sg}{p pos:VY}
noncomputable def Ic(X:Cx)(σ:Sg):Prop:=X.prog=σ.P/\X.w=σ.w/\X.K=σ.K/\X.mg=σ.mg/\X.base=σ.base
theorem Od.at_(O:Od T σ c x i k F)(I:Ic X σ):∃q st,T.rw[i]?=Qq ⟨c,x,q,st⟩/\c7 X.prog X.w X.K X.mg X.base fy k (σ.fa i) (σ.fd i) (cM st) (jA σ.cl F):=by
 obtain⟨a,b,d,e,f⟩:=I;rw[a,b,d,e,f];exact O.ex
theorem bB(d:DE σ.cl X Z a b)(c:autoParam (Qy [a] X.env=(Qv,eval a X.env)::Qy [] X.env) A10._auto_1):DA σ.cl X Z [a] (au b aw):=eD d jt c
theorem ck(g:DE σ.cl X Z a c)(h:DE σ.cl X Z b d)(e:autoParam (Qy [a,b] X.env=(Qv,eval a X.env)::Qy [b] X.env) A10._auto_1)(f:autoParam (Qy [b] X.env=(Qv,eval b X.env)::Qy [] X.env) A10._auto_1):DA σ.cl X Z [a,b] (au c (au d aw)):=eD g (bB h f) e
theorem kU(j:DE σ.cl X Z a c)(k:DE σ.cl X Z b e)(l:DE σ.cl X Z d f)(g:autoParam (Qy [a,b,d] X.env=(Qv,eval a X.env)::Qy [b,d] X.env) A10._auto_1)(h:autoParam (Qy [b,d] X.env=(Qv,eval b X.env)::Qy [d] X.env) A10._auto_1)(i:autoParam (Qy [d] X.env=(Qv,eval d X.env)::Qy [] X.env) A10._auto_1):DA σ.cl X Z [a,b,d] (au c (au e (au f aw))):=eD j (ck k l h i) g
theorem bX(h:Fx T σ)(O:Od T σ "" x i k F)(l:ir σ.cl R)(B:cV n X.A)(C:iH fy X Z)(v:DA σ.cl X Z (e::a) f)(A:autoParam (k<=n) A11._auto_1)(I:autoParam (Ic X σ) A14._auto_1)(z:autoParam (Gl X x) A10._auto_1)(d:autoParam ((x==("__debug__"))=Qv) A11._auto_1)(y:autoParam (Qy (e::a) X.env=(Qv,eval e X.env)::Qy a X.env) A10._auto_1)(g:autoParam ((Rc pos (Qy a X.env)).any (·.1)=Qv) A10._auto_1):DE σ.cl X Z (.Call (.Name x p) (e::a) [] pos) (bN R F f):=by
 obtain⟨q,st,b,G⟩:=O.at_ I;have c:=h.fn i _ b;have e2:=h.mg i _ b rfl;obtain⟨_,_,j,E,_⟩:=I;obtain⟨N,H,s⟩:=v.ex;refine .of ⟨_,L2.yA4 G (B.mono A) z (by rw[E];exact e2) (by rw[j];exact c.1.kp) (by rw[j];exact c.2) .nil C H d y g,λW S σ u Q w r h=>s W S σ u _ w r (PO.bind h λt m o L c M J b=>?_)⟩;rw[QP];exact l.ok F o m L t Q _ M J b
theorem CB(M:gf σ.P σ.w σ.K σ.mg σ.base fy σ.cl k m a L)(I:Ic X σ):gf X.prog X.w X.K X.mg X.base fy σ.cl k m a L:=by
 obtain⟨b,c,d,e,f⟩:=I
 simp_all
theorem pJ{b:VY}{u:ZT Bool}(M:gf σ.P σ.w σ.K σ.mg σ.base fy σ.cl k m v L)(r:cV n X.A)(t:iH fy X Z)(q:DE σ.cl X Z a j)(l:DA σ.cl X Z (e::d) f)(o:autoParam (k<=n) A11._auto_1)(I:autoParam (Ic X σ) A14._auto_1)
 (h:autoParam (Qy (e::d) X.env=(Qv,eval e X.env)::Qy d X.env) A10._auto_1) (g:autoParam ((Rc pos (Qy d X.env)).any (·.1)=Qv) A10._auto_1)
 (s:autoParam (eval (.Call (.Attribute a m b) (e :: d) [] pos) X.env=(do
  let i<-eval a X.env
  UB b.atName
  let(f,c)<-holding [i] (getMethod i m u)
  V6 pos f c (Rc pos (Qy (e::d) X.env)) (T8 pos (Sq [] X.env)))) A10._auto_1):DE σ.cl X Z (.Call (.Attribute a m b) (e::d) [] pos) (fk m L rC j f):=ux (CB M I) bY (r.mono o) t q l h g s
theorem mS(M:gf σ.P σ.w σ.K σ.mg σ.base fy σ.cl k m q L)(i:cV n X.A)(l:iH fy X Z)(h:DE σ.cl X Z a e)(g:autoParam (k<=n) A11._auto_1)(I:autoParam (Ic X σ) A14._auto_1)
 (j:autoParam (eval (.Call (.Attribute a m b) [] [] pos) X.env=(do
  let d<-eval a X.env
  UB b.atName
  let(f,c)<-holding [d] (getMethod d m o)
  V6 pos f c (Rc pos (Qy [] X.env)) (T8 pos (Sq [] X.env)))) A10._auto_1):DE σ.cl X Z (.Call (.Attribute a m b) [] [] pos) (fk m L rC e aw):=P3 (CB M I) bY (i.mono g) l h j
structure Oc(T:Tx)(X:Cx)(σ:Sg)(c:QD)(k:Nat)(F:Fn)(dv:List Qz):Prop where
 ex:∃i q st c',Mk X.K (σ.cl c) (σ.fa i)/\c7 X.prog X.w X.K X.mg X.base fy k (σ.fa i) (σ.fd i) (cM st) (jA σ.cl F)/\cI X.K (σ.fd i) (cM st) dv/\T.rw[i]?=Qq ⟨c', "__init__",q,st⟩
 mg:X.mg c=Qq (.ref (σ.cl c))
theorem Ji(h:Fx T σ)(O:Od T σ b "__init__" i k F)(I:Ic X σ)(f:T.ini.lookup c=Qq i)(d:T.gl.contains c=Qr):Oc T X σ c k F []:=by
 obtain⟨q,st,e,G⟩:=O.at_ I;obtain⟨_,_,a,g,_⟩:=I;exact⟨⟨i,q,st,b,by rw[a];exact h.mi c i f,G,by rw[a];exact(h.fn i _ e).2,e⟩,by rw[g];exact h.gc c d⟩
theorem se(h:Fx T σ)(O:Od T σ u "__init__" i k F)(s:cV n X.A)(t:iH fy X Z)(j:DA σ.cl X Z (e::a) f)(q:autoParam (k+1<=n) A11._auto_1)(r:autoParam (T.ini.lookup c=Qq i) A12._auto_1)(l:autoParam (T.gl.contains c=Qr) A12._auto_1)(I:autoParam (Ic X σ) A14._auto_1)(o:autoParam (Gl X c) A10._auto_1)(b:autoParam ((c==("__debug__"))=Qv) A11._auto_1)(m:autoParam (Qy (e::a) X.env=(Qv,eval e X.env)::Qy a X.env) A10._auto_1)(d:autoParam ((Rc pos (Qy a X.env)).any (·.1)=Qv) A10._auto_1):DE σ.cl X Z (.Call (.Name c p) (e::a) [] pos) (eC c F [] f) :=
 let⟨⟨_,_,_,_,M,G,B,_⟩,g⟩:=Ji h O I r l
 Ld M G (s.mono q) g B .nil (λ_=>.nil) t j o b m d
theorem jr(h:Fx T σ)(I:Ic X σ)(a:T.bl.contains x=Qr):X.mg x=Qs:=by rw[I.2.2.2.1];exact h.bl x a
theorem kB{id:String}(o:bV σ.cl X (.builtin id) g)(m:RN x=Qq (.builtin id))(h:Fx T σ)(d:DA σ.cl X Z (e::a) f)(i:autoParam (T.bl.contains x=Qr) A12._auto_1)(I:autoParam (Ic X σ) A14._auto_1)(k:autoParam (Gl X x) A10._auto_1)(l:autoParam (x≠"__name__") A11._auto_1)(b:autoParam ((x==("__debug__"))=Qv) A11._auto_1)(j:autoParam (Qy (e::a) X.env=(Qv,eval e X.env)::Qy a X.env) A10._auto_1)(c:autoParam ((Rc pos (Qy a X.env)).any (·.1)=Qv) A10._auto_1):DE σ.cl X Z (.Call (.Name x p) (e::a) [] pos) (bQ g f):=Ob o (jr h I i) m d k l b j c
theorem kT{id:String}(o:bV σ.cl X (.type id) g)(m:RN x=Qq (.type id))(h:Fx T σ)(d:DA σ.cl X Z (e::a) f)(i:autoParam (T.bl.contains x=Qr) A12._auto_1)(I:autoParam (Ic X σ) A14._auto_1)(k:autoParam (Gl X x) A10._auto_1)(l:autoParam (x≠"__name__") A11._auto_1)(b:autoParam ((x==("__debug__"))=Qv) A11._auto_1)(j:autoParam (Qy (e::a) X.env=(Qv,eval e X.env)::Qy a X.env) A10._auto_1)(c:autoParam ((Rc pos (Qy a X.env)).any (·.1)=Qv) A10._auto_1):DE σ.cl X Z (.Call (.Name x p) (e::a) [] pos) (bQ g f):=Io o (jr h I i) m d k l b j c
end
inductive Cs (K:aV):List QD->List (QD×QC)->Prop where
 |nil:Cs K [] []
 |cons {c:QD}{a:QC}{r:List QD}{as:List (QD×QC)}:Sh K Rg c=Qq (Qq (.ref a))->Cs K r as->Cs K (c::r) ((c,a)::as)
noncomputable def jM(b:List (QD×QC))(a:List (QC×VY×QD)):Cl:=⟨λc=>(b.lookup c).getD 0,a⟩
inductive Rs (K:aV) (cA:List (QD×QC)):List Rw->List QC->List RE->List Bool->Prop where
 |nil:Rs K cA [] [] [] []
 |d {x:QD}{st:RX}{f:QC}{fd:RE}{r:List Rw}{fs:List QC}{ds:List RE}{bs:List Bool}:DL K x st f fd->Rs K cA r fs ds bs->Rs K cA (⟨"",x,x,st⟩::r) (f::fs) (fd::ds) (Qv::bs)
 |m {c x q:QD}{C:QC}{st:RX}{f:QC}{fd:RE}{r:List Rw}{fs:List QC}{ds:List RE}{bs:List Bool}:cA.lookup c=Qq C->ML K C x q st f fd->Rs K cA r fs ds bs->Rs K cA (⟨c,x,q,st⟩::r) (f::fs) (fd::ds) (Qv::bs)
 |n {c x q:QD}{C:QC}{st:RX}{f:QC}{fd:RE}{r:List Rw}{fs:List QC}{ds:List RE}{bs:List Bool}:cA.lookup c=Qq C->MD K C x q st (cM st) f fd->Rs K cA r fs ds bs->Rs K cA (⟨c,x,q,st⟩::r) (f::fs) (fd::ds) (Qr::bs)
section
variable {K:aV}
theorem Cs.at_:∀ {r:List QD}{a:List (QD×QC)},Cs K r a->r.contains c=Qr->Sh K Rg c=Qq (Qq (.ref ((a.lookup c).getD 0)))
 |_,_,.nil,h=>by cases h
 |_,_,.cons (c:=d) e t,h=>by
  rw[Zq];cases q:(c==d)with
  |true=>simp_all
  |false =>
   refine t.at_ ?_;rw[List.contains_cons,q]at h;exact h
noncomputable def Iw(a:List Rw):Bool:=a.all λr=>fQ (bp r.st)&&decide (cM r.st).Nodup
theorem Rs.at_:∀ {rs:List Rw}{j:List QC}{g:List RE}{c:List Bool}{i:Nat}{r:Rw},Rs K k rs j g c->rs[i]?=Qq r->∃f a b,j[i]?=Qq f/\g[i]?=Qq a/\c[i]?=Qq b/\kD K r.x r.q r.st f a/\((fQ (bp r.st)&&decide (cM r.st).Nodup)=Qr->cI K a (cM r.st) [])/\(DL K r.x r.st f a\/k.lookup r.c≠Qs)/\(b=Qr->cI K a (cM r.st) [.none])
 |_,_,_,_,0,_,.d D _,h=>by
  cases h;exact⟨_,_,_,rfl,rfl,rfl,sM D.F,λz=>by rw[Zl,decide_eq_true_eq]at z;exact D.F.binds (lx z.1 rfl z.2),.inl D,λz=>nomatch z⟩
 |_,_,_,_,0,_,.m e D _,h=>by
  cases h;exact⟨_,_,_,rfl,rfl,rfl,sM D.F,λz=>by rw[Zl,decide_eq_true_eq]at z;exact D.F.binds (lx z.1 rfl z.2),.inr (by simp_all),λz=>nomatch z⟩
 |_,_,_,_,0,_,.n e D _,h=>by
  cases h;exact⟨_,_,_,rfl,rfl,rfl,D.F,λ_=>D.b,.inr (by simp_all),λ_=>D.d⟩
 |_,_,_,_,i+1,_,.d _ t,h=>t.at_ h
 |_,_,_,_,i+1,_,.m _ _ t,h=>t.at_ h
 |_,_,_,_,i+1,_,.n _ _ t,h=>t.at_ h
noncomputable def oJ (K:aV) (T:Tx):Bool:=(T.ci.all λe=>match Sh K Rg e.1 with
 |some (Qq (.int i _))=>i==e.2
 |_=>Qv)&&T.cx.all λe=>match Sh K Rg e.1 with
 |some (Qq (.str i _))=>i==e.2
 |_=>Qv
noncomputable def pB(K:aV)(b:Cl)(T:Tx)(a:List QC):Bool:=(T.ini.all λe=>decide (QX K (.ref (b e.1)) "__init__" = Qq (Qq (.ref (a.getD e.2 0))))&&R1 K (.ref (a.getD e.2 0))&&T.cl.contains e.1)&&T.mt.all λe=>decide (QX K (.ref (b e.1)) e.2.1=Qq (Qq (.ref (a.getD e.2.2 0))))&&R1 K (.ref (a.getD e.2.2 0))&&Rk K (.ref (a.getD e.2.2 0))
noncomputable def sH(K:aV)(a:Cl)(T:Tx)(b:List QC):Bool:=T.cf.all λi=>match T.rw[i]? with
 | some r=>Xz K (a r.c) (.type "type") && (match XA K (.ref (a r.c)) (.type "type") r.x with
  |some (.val (.ref f))=>f==b.getD i 0
  |_=>Qv)&&Ul (.ref (b.getD i 0))&&decide (R0 K (.ref (a r.c)) "__getattribute__" = Qq (Qq (.builtin "type.__getattribute__")))
 |none=>Qr
noncomputable def ny(K:aV)(T:Tx)(b:List (QD×QC))(a:List Bool):Bool:=Iw T.rw&&T.dn.all (λi=>a[i]?==Qq Qr)&&(b.lookup ("" : QD)).isNone
end
structure Lm(K:aV)(T:Tx)(mg:QD->Option Qz)(cL tP:QC)(ts:List QC)(tabs:List (QC×VY×QD)):Prop where
 hd:∀t∈ts,K.lookup t=Qs/\Th K cL t=Qr
 tb:∀t∈tabs,t.1∈ts
 ok:∀i p q,T.lm=Qq (i,p,q)->tabs=[(tP,p,q)]/\tP∈ts/\∃x st f oc od kV doc pm an ct sl,T.rw[i]?=Qq ⟨"",x,x,st⟩/\Sh K Rg x=Qq (Qq (.ref f))/\K.lookup f=Qq ⟨oc,od,.func (Q0 x x (bp st) (bo st) (aF st) .none kV doc pm an (.ref cL) ct),sl⟩/\Ry K (.ref cL) x=Qr
theorem lm_mk{K:aV}{st:RX}{r kV b s m:Qz}{od k:Option QC}(h:T.lm=Qq (i,p,q))(e:T.rw[i]?=Qq ⟨"",x,x,st⟩)(a:Sh K Rg x=Qq (Qq (.ref f)))(l:K.lookup f=Qq ⟨r,od,.func (Q0 x x (bp st) (bo st) (aF st) .none kV b s k (.ref g) m),v⟩)(c:Ry K (.ref g) x=Qr)(j:Th K g d=Qr)(u:K.lookup d=Qs):Lm K T y g d [d] [(d,p,q)] :=
 ⟨λt o=>by rw [QH.mp o];exact ⟨u,j⟩,λt o=>by simp_all,λw z A n=>by
  rw[h]at n;cases n
  exact⟨rfl,QH.mpr rfl,x,st,f,r,od,kV,b,s,k,m,v,e,a,l,c⟩⟩
section
variable {K:aV}
set_option tactic.hygienic true in
theorem qH(X:K.In h)(G:h.Ns Rg W)(C:Cs K T.gl l)(R:Rs K l T.rw fs ds bs)(L:Lm K T W cL tP ts d)(hn:R0 K (.builtin "object.__class__") "__get__" = Qq (Qq (.builtin "getset_descriptor.__get__")))(S:Tv K (.builtin "object.__class__")=Qq Qr)
 (Z:lT K (jM l d) T.ct=Qr) (qK:ve K (jM l d) T.cl T.cs T.kt=Qr) (qI:pE (jM l d) T.cl=Qr) (qB:y1 K T.bl=Qr) (Y:oJ K T=Qr) (qM:pB K (jM l d) T fs=Qr) (qf:sH K (jM l d) T fs=Qr) (qR:ny K T l bs=Qr) (bl:hB W u) :
 Fx T ⟨P,w,K,W,u,jM l d,λi=>fs.getD i 0,λi=>ds.getD i d0,cL,tP⟩:=by
 unfold ny at qR;unfold oJ at Y;unfold pB at qM;simp only[Zl,Zp,SG,beq_iff_eq,decide_eq_true_eq]at qR Y qM;obtain⟨⟨r1,r2⟩,r3⟩:=qR;obtain⟨c1,c2⟩:=Y;obtain⟨m1,m2⟩:=qM;have cf:∀c,T.cl.contains c=Qr->yc K ((jM l d) c) ((T.ct.lookup c).getD []):=λc g=>by
  have g:c∈T.ct.map (·.1):=by simpa[Tx.cl]using g
  obtain⟨e,he,rfl⟩:=Qx.mp g;obtain⟨fl,hf⟩:∃fl,T.ct.lookup e.1=Qq fl:=RH.mp (zA he);rw[hf];exact Fm Z hf
 have s:∀i r,T.rw[i]?=Qq r->kD K r.x r.q r.st (fs.getD i 0) (ds.getD i d0)/\cI K (ds.getD i d0) (cM r.st) []/\(r.c=("" : QD)->DL K r.x r.st (fs.getD i 0) (ds.getD i d0))/\(bs[i]?=Qq Qr->cI K (ds.getD i d0) (cM r.st) [.none]):=λi r e=>by
  obtain⟨f,fd,b,I,J,O,M,Q,h6,h7⟩:=R.at_ e;rw[RY,RY,I,J];refine⟨M,Q (QM.mp r1 r (Ze e)),λz=>h6.resolve_right (by rw[z,r3];exact λy=>y rfl),λz=>h7 ?_⟩;rw[O]at z;exact Zr z
 exact {
  tb:=uy Z
  kt:=uS Z rfl hn S qK
  inj:=M7 qI
  bl:=λx A=>rg X G qB (by simpa using A)
  ci:=λx i A=>by
   have z:=c1 (x,i) (uW A);split at z
   ·next j t e=>rw[Wk (by simpa using z:(j==i)=Qr)]at e;exact⟨t,Uh X G e⟩
   ·cases z
  cx:=λx i A=>by
   have z:=c2 (x,i) (uW A);split at z
   ·next j t e=>rw[Wk (by simpa using z:(j==i)=Qr)]at e;exact⟨t,Uh X G e⟩
   ·cases z
  cc:=λc g=>(cf c g).cl
  gc:=λc g=>Uh X G (C.at_ g)
  fn:=λi r e=>⟨(s i r e).1,(s i r e).2.1⟩
  mg:=λi r e z=>Uh X G ((s i r e).2.2.1 z).a
  bn:=λi r e z=>(s i r e).2.2.2 (r2 i (by simpa using z))
  mi:=λc i g=>by
   obtain⟨⟨B,o⟩,E⟩:=m1 (c,i) (uW g);have k:=cf c E;exact⟨k.ms,B,o,k.kp⟩
  mt:=λc m i g=>by
   obtain⟨⟨B,o⟩,E⟩:=m2 (c,m,i) (by simpa using g);exact⟨B,o,E⟩
  cf:=λi r e g=>by
   have z:=QM.mp qf i (by simpa using g);rw[e]at z;simp only[Zl,decide_eq_true_eq]at z;obtain⟨⟨⟨B,o⟩,E⟩,z4⟩:=z;split at o
   ·next f H=>rw[Wk o]at H;exact⟨B,H,E,z4,(s i r e).1.kp⟩
   ·cases o
  lm:=λi p q r e er=>by
   obtain⟨I,ht,x,st,f,oc,od,kV,N,pm,an,ct,sl,J,O,M,Q⟩:=L.ok i p q e;rw[er]at J;cases J;have D:=(s i _ er).2.2.1 rfl;have H:f=fs.getD i 0:=by have z:=O.symm.trans D.a;cases z;rfl
   subst H;obtain⟨ag,ah,af,ab,ai,ac,aa,ae,aj,g1,n,g3⟩:=D.F.ex;rw[M]at n;injection n with n;injection n with _ _ n _;injection n with n
   exact⟨⟨⟨oc,od,.none,kV,N,pm,an,ct,sl,n.symm,(by show K.lookup (fs.getD i 0)=Qq ⟨oc,od,.func (ds.getD i d0),sl⟩;rw[<- n];exact M),Q⟩⟩,by rw[show(jM l d).tabs=d from rfl,I];exact QH.mpr rfl,λt v ω=>by rw[show(jM l d).tabs=d from rfl,I]at v;exact QH.mp v,⟨(L.hd tP ht).2,bl⟩⟩}
theorem lawOk{st:RX}(hF:∀N:List Int,N.length<=63->∃Y,F [.d (.frl (N.map .int))] []=.ok (.d (.bl Qr)) Y)(ok:∀W ,Fx T W->Od T W "" "law" B j F)(o:T.rw[B]?=Qq ⟨"", "law", "law",st⟩)(p:cM st=(["_law_script"]:List QD))
 (X:K.In h) (G:h.Ns Rg n) (z:n "law" = Qq (.ref M)) (C:Cs K T.gl e) (R:Rs K e T.rw u ds bs) (L:Lm K T n cL tP ts a) (hn:R0 K (.builtin "object.__class__") "__get__" = Qq (Qq (.builtin "getset_descriptor.__get__"))) (A:Tv K (.builtin "object.__class__")=Qq Qr)
 (qF:lT K (jM e a) T.ct=Qr) (qK:ve K (jM e a) T.cl T.cs T.kt=Qr) (qI:pE (jM e a) T.cl=Qr) (qB:y1 K T.bl=Qr) (qC:oJ K T=Qr) (qM:pB K (jM e a) T u=Qr) (qf:sH K (jM e a) T u=Qr) (S:ny K T e bs=Qr) (qN:xS K=Qr):oB l w K n ts j M:=by
 obtain⟨f,r,b,h1,h2,h3,h4,h5,h6,h7⟩:=R.at_ o;have c:=S;unfold ny at c;simp only[Zl,SG]at c;have D:=h6.resolve_right (by rw[c.2];exact λy=>y rfl);have ef:f=M:=by have t:=z.symm.trans (Uh X G D.a);cases t;rfl
 subst ef;have E:=QM.mp c.1.1 _ (Ze o);rw[Zl,decide_eq_true_eq]at E;refine⟨r,λs v=>?_,λt m=>⟨(L.hd t m).1,cL,(L.hd t m).2⟩,λg ω ω Z=>?_⟩
 ·obtain⟨oc,od,kV,k,Q,H,i,I,ab,rfl,lk,aa⟩:=D.F.ex;have:=lx (x:="law") (q:="law") E.1 rfl E.2 kV k Q H i I [v] (by show 1=(cM st).length;rw[p];rfl);have:T7 (Q0 "law" "law" (bp st) (bo st) (aF st) .none kV k Q H i I) ⟨[v],[]⟩=pure ((cM st).zip [v]):=this;rw[p]at this;exact .of_eq this
 ·have O:=ok _ (qH (P:=l.prog) (w:=w) (d0:=r) X G C R L hn A qF qK qI qB qC qM qf S Z);obtain⟨q,ac,J,FO⟩:=O.ex;rw[o]at J;cases J;rw[p]at FO;have FO:c7 l.prog w K n g fy j (u.getD B 0) (ds.getD B r) (["_law_script"]) (jA (jM e a) F):=FO;rw[RY,RY,h1,h2]at FO;exact(c7.calm tE FO).imp (oX qN (λt m=>L.tb t m) hF)
end
section
theorem hY(i:Nat)(n:DI e X Z (.Name x p) a l)(h:∀C s H b,n9 e (br X d g [x] C s H b) ZN k t/\DE e (br X d g [x] C s H b) ZN j f)(m:autoParam (X.calm=Qr) A10._auto_1)(S:autoParam (dh X d g [x]) A20._auto_1)(r:autoParam ((X.N++[x]).Nodup) A18._auto_1)(q:autoParam ((X.N++[x])[i]?=Qq x) A10._auto_1)(c:autoParam (∀C,(Sz d g C X.env).scope.names.lookup x=Qq .local) A13._auto_1)(o:autoParam (∀x,Rt a X.env x=pure x) A13._auto_1):DE e X Z (.ListComp j [⟨.Name x p,a,k,0⟩] d u) (aK [x].length l (gN i) t f):=FQ m S n (λC s H b=>eO i r q (.inl (c C)) (.inr (c C))) (λC s H b=>(h C s H b).1) (λC s H b=>(h C s H b).2) o
theorem E5(i j:Nat)(r:DI k X Z (.Tuple [.Name x p,.Name y A] z B) a q)(h:∀C s H b,n9 k (br X e g [x,y] C s H b) ZN m t/\DE k (br X e g [x,y] C s H b) ZN l f)(n:autoParam (X.calm=Qr) A10._auto_1)(S:autoParam (dh X e g [x,y]) A20._auto_1)(o:autoParam ((X.N++[x,y]).Nodup) A18._auto_1)(v:autoParam ((X.N++[x,y])[i]?=Qq x) A10._auto_1)(w:autoParam ((X.N++[x,y])[j]?=Qq y) A10._auto_1)(c:autoParam (∀C,(Sz e g C X.env).scope.names.lookup x=Qq .local) A13._auto_1)(d:autoParam (∀C,(Sz e g C X.env).scope.names.lookup y=Qq .local) A13._auto_1)(u:autoParam (∀x,Rt a X.env x=pure x) A13._auto_1):DE k X Z (.ListComp l [⟨.Tuple [.Name x p,.Name y A] z B,a,m,0⟩] e E) (aK [x,y].length q (f7 (cu (gN i) (cu (gN j) f6))) t f):=FQ n S r (λC s H b=>mx n (gE (eO i o v (.inl (c C)) (.inr (c C))) (gE (eO j o w (.inl (d C)) (.inr (d C))) mh)) (gH (gH mD))) (λC s H b=>(h C s H b).1) (λC s H b=>(h C s H b).2) u
theorem vO(m:Nat)(i:Nat)(v:DI j X Z (.Name x p) a q)(h:∀C s H b,n9 j (br X g k [x] C s H b) ZN e t/\DE j (br X g k [x] C s H b) ZN c f)(A:X.N.Nodup)(r:autoParam (X.calm=Qr) A10._auto_1)(S:autoParam (dh X g k [x]) A20._auto_1)(B:autoParam ((X.N++[x]).Nodup) A18._auto_1)(z:autoParam ((X.N++[x])[i]?=Qq x) A10._auto_1)(d:autoParam (∀C,(Sz g k C X.env).scope.names.lookup x=Qq .local) A13._auto_1)(l:autoParam (X.N[m]?=Qq u) A10._auto_1)(y:autoParam (X.env.scope.names.lookup u=Qq .local) A10._auto_1)(n:autoParam (Sl (.ListComp c [⟨.Name x p,a,e,0⟩] g o) (Qq (.Name u E)) G.line X.env=pure Qr) A10._auto_1)(w:autoParam (∀x,Rt a X.env x=pure x) A13._auto_1):DS j X Z (.Assign [.Name u E] (.ListComp c [⟨.Name x p,a,e,0⟩] g o) G) (aY m (aK [x].length q (gN i) t f)):=Ib m A r S v (λC s H b=>eO i B z (.inl (d C)) (.inr (d C))) (λC s H b=>(h C s H b).1) (λC s H b=>(h C s H b).2) l y n w
theorem kW{id:String}(k:List QD)(u:RN x=Qq (.type id))(h:Fx T j)(o:DE j.cl X Z a m)(l:autoParam (T.cl=k) A10._auto_1)(n:autoParam (id∈(["bool", "int", "str", "list", "tuple", "dict"])) A11._auto_1)(q:autoParam (T.bl.contains "isinstance" = Qr) A12._auto_1)(c:autoParam (T.bl.contains x=Qr) A12._auto_1)(I:autoParam (Ic X j) A14._auto_1)(s:autoParam (Gl X "isinstance") A10._auto_1)(f:autoParam (Gl X x) A10._auto_1)(t:autoParam (x≠"__name__") A11._auto_1)(d:autoParam ((x==("__debug__"))=Qv) A11._auto_1)
 (r:autoParam (Qy [a,.Name x b] X.env=(Qv,eval a X.env)::Qy [.Name x b] X.env) A10._auto_1) (e:autoParam (Qy [.Name x b] X.env=(Qv,eval (.Name x b) X.env)::Qy [] X.env) A10._auto_1) (g:autoParam ((Rc i (Qy [.Name x b] X.env)).any (·.1)=Qv) A10._auto_1):DE j.cl X Z (.Call (.Name "isinstance" p) [a,.Name x b] [] i) (d1 (fA k id) m):=by
 subst l;exact M9 (by rw[I.2.2.1];exact h.kt) (jr h I q) (jr h I c) n u o s f t d r e g
theorem De(j:List QD)(k:List (QD×QD))(h:Fx T i)(q:DE i.cl X Z a n)(l:autoParam (T.cl=j) A10._auto_1)(m:autoParam (T.kt=k) A10._auto_1)(o:autoParam (T.cs.contains x=Qr) A12._auto_1)(r:autoParam (T.bl.contains "isinstance" = Qr) A12._auto_1)(s:autoParam (T.gl.contains x=Qr) A12._auto_1)(I:autoParam (Ic X i) A14._auto_1)(u:autoParam (Gl X "isinstance") A10._auto_1)(e:autoParam (Gl X x) A10._auto_1)(c:autoParam ((x==("__debug__"))=Qv) A11._auto_1)
 (t:autoParam (Qy [a,.Name x b] X.env=(Qv,eval a X.env)::Qy [.Name x b] X.env) A10._auto_1) (d:autoParam (Qy [.Name x b] X.env=(Qv,eval (.Name x b) X.env)::Qy [] X.env) A10._auto_1) (f:autoParam ((Rc g (Qy [.Name x b] X.env)).any (·.1)=Qv) A10._auto_1):DE i.cl X Z (.Call (.Name "isinstance" p) [a,.Name x b] [] g) (d1 (kP j k x) n):=by
 subst l m;exact JW (by rw[I.2.2.1];exact h.kt) (jr h I r) (by rw[I.2.2.2.1];exact h.gc x s) o q u e c t d f
theorem A0(h:Fx T c)(j:DE c.cl X Z o d)(e:autoParam (T.bl.contains "len" = Qr) A12._auto_1)(a:autoParam (T.bl.contains "set" = Qr) A12._auto_1)(I:autoParam (Ic X c) A14._auto_1)(f:autoParam (X.calm=Qr) A10._auto_1)(i:autoParam (Gl X "len") A10._auto_1)(b:autoParam (Gl X "set") A10._auto_1)(g:autoParam (Qy [o] X.env=(Qv,eval o X.env)::Qy [] X.env) A10._auto_1):DE c.cl X Z (.Call (.Name "len" p) [.Call (.Name "set" m) [o] [] l] [] k) (gS d):=Jv (jr h I e) (jr h I a) f j i b g rfl λ_=>rfl
theorem zC(h:Fx T c)(i:DE c.cl X Z o d)(e:autoParam (T.bl.contains "sum" = Qr) A12._auto_1)(I:autoParam (Ic X c) A14._auto_1)(f:autoParam (X.calm=Qr) A10._auto_1)(g:autoParam (Gl X "sum") A10._auto_1)(a:autoParam (Q6 o "values" X.env (eval o X.env)=eval o X.env) A10._auto_1)(b:autoParam ((k.endLine==j.line)=Qr) A10._auto_1):DE c.cl X Z (.Call (.Name "sum" p) [.Call (.Attribute o "values" k) [] [] j] [] l) (km d):=Mf (jr h I e) f i g a b rfl rfl
theorem CN(h:Fx T b)(d:DA b.cl X Z [a] c)(e:autoParam (T.bl.contains "enumerate" = Qr) A12._auto_1)(I:autoParam (Ic X b) A14._auto_1)(f:autoParam (Gl X "enumerate") A10._auto_1)(g:autoParam (Qy [a] X.env=[(Qv,eval a X.env)]) A10._auto_1):DI b.cl X Z (.Tuple j k l) (.Call (.Name "enumerate" p) [a] [] i) (oZ c):=Ov (jr h I e) d f g
theorem C5(h:Fx T b)(d:DA b.cl X Z [a] c)(e:autoParam (T.bl.contains "range" = Qr) A12._auto_1)(I:autoParam (Ic X b) A14._auto_1)(f:autoParam (Gl X "range") A10._auto_1)(g:autoParam (Qy [a] X.env=[(Qv,eval a X.env)]) A10._auto_1):DI b.cl X Z j (.Call (.Name "range" p) [a] [] i) (jR c):=PZ (jr h I e) d f g
theorem jP(c:kI)(h:Fx T a)(i:DE a.cl X Z o f)(k:DE a.cl X Z v g)(e:autoParam (T.ct=c) A10._auto_1)(I:autoParam (Ic X a) A14._auto_1)(j:autoParam (Sl v (Qq (.Attribute o d p)) b.line X.env=pure Qv) A10._auto_1):DS a.cl X Z (.Assign [.Attribute o d p] v b) (iv c d f g):=by
 subst e;exact Pj (by rw[I.2.2.1];exact h.tb) i k j
theorem iB(c:kI)(h:Fx T b)(g:DE b.cl X Z a f)(e:autoParam (T.ct=c) A10._auto_1)(I:autoParam (Ic X b) A14._auto_1)(i:autoParam (Q6 a d X.env (eval a X.env)=eval a X.env) A10._auto_1):DE b.cl X Z (.Attribute a d j) (d1 (bR c d) f):=by
 subst e;exact Nl (by rw[I.2.2.1];exact h.tb) g i
theorem om(a:cV n X.A):c9 b X (QK .Eq) gU:=NQ (vW a)
theorem mN(a:cV n X.A):c9 b X (QK .NotEq) fZ:=KR (vW a)
theorem kin(a:cV n X.A):c9 b X (QK .In) jx:=NU (vW a)
theorem qz(a:cV n X.A):c9 b X (QK .NotIn) kC:=IJ (vW a)
theorem Lo(w:kI)(h:Fx T j)(W:cV n X.A)(N:DA j.cl X Z [a] H)(r:Rw)(E:autoParam (T.lm=Qq (i,z,q)) A10._auto_1)(G:autoParam (T.rw[i]?=Qq r) A10._auto_1)(d:autoParam (X.env.code=.ref j.cL) A10._auto_1)(R:autoParam (2<=n) A11._auto_1)(C:autoParam (T.ct=w) A10._auto_1)(I:autoParam (Ic X j) A14._auto_1)(s:autoParam (X.calm=Qr) A10._auto_1)(Q:autoParam (Gl X "min") A10._auto_1)(O:autoParam (T.bl.contains "min" = Qr) A12._auto_1)(A:kr u x:=by exact⟨rfl,rfl,rfl,by decide +kernel,rfl⟩)(S:autoParam (X.env.qual++"<lambda>" = q) A10._auto_1)(o:autoParam (U0 u X.env=pure []) A10._auto_1)(f:autoParam (WZ y X.env=([],[])) A10._auto_1)
 (m:autoParam (∀  pm B k v ,T7 (UJ "<lambda>" q y (.Attribute (.Name x g) c p2) u [] pm B k) ⟨[v],[]⟩=pure [(x,v)]) A16._auto_1) (Y:autoParam ((x==("__debug__"))=Qv) A11._auto_1)
 (l:autoParam (∀b:X9,Q6 (.Name x g) c b (eval (.Name x g) b)=eval (.Name x g) b) A16._auto_1)
 (P:autoParam (Rc e (Qy [a] X.env)=(Qv,eval a X.env)::Rc e (Qy [] X.env)) A10._auto_1) (t:autoParam ((Rc e (Qy [a] X.env)).any (·.1)=Qv) A10._auto_1) :
 DE j.cl X Z (.Call (.Name "min" p) [a] [⟨Qq "key",.Lambda y (.Attribute (.Name x g) c p2) u z,kp⟩] e) (mR w c H):=by
 subst C;obtain⟨_,J,L,M⟩:=h.lm i z q r E G;exact NZ (by rw[I.2.2.1];exact h.tb) J L (by rw[I.2.2.1,I.2.2.2.1,I.2.2.2.2];exact M) d (W.mono R) s Q (jr h I O) N A S o f m Y l P t
end
end L2.F
namespace L2
open PySem PySem.Spec PyProof.Rows
section
theorem vh(h:Q (w.params.followText "set-order") s):QI (QJ a w) A setsByText Q E s:=λc p b=>h
theorem NF(c:n≠0)(h:∀d,Q (d%n) {s with drawn:=s.drawn.bump a}):QI (QJ b w) A (choose a n) Q E s:=λf p e=>⟨c,h _⟩
theorem yF{b:Type}:∀(l:List b)  i   h ,(l[i]::l.eraseIdx i).Perm l
 |a::r,0,h=>.refl _
 |a::r,i+1,h=>(Xt a _ _).trans ((yF r i (by simpa using h)).cons a)
theorem Dh:∀  n   l   s  (Q:List k->QF->Prop),l.length=n->(∀f d,f.Perm l->Q f {s with drawn:=d})->QI (QJ g w) A (drawOrder n l) Q E s
 | 0,l,s,Q,c,h=>by
  cases l with
  |nil=>exact QB (h [] s.drawn (.refl _))
  |cons a b=>cases c
 |n+1,[],s,Q,c,h=>by cases c
 |n+1,a::b,s,Q,c,h=>by
  refine Qt (NF (by simp) λd=>?_);have e:d%(a::b).length<(a::b).length:=Yj _ (by simp);rw[Z2 e];generalize d%(a::b).length=i at e;refine Qt (Dh n _ _ _ ?_ λf j p=>?_)
  ·rw[Ue e,c];rfl
  ·exact QB (h _ j ((p.cons _).trans (yF _ i e)))
theorem HQ(t:V9)(n:Nat):(t.orStandIn n).led=t.led/\(t.plain=Qv->(t.orStandIn n).plain=Qv):=by
 unfold SetTable.orStandIn;split
 ·exact⟨rfl,id⟩
 ·exact⟨rfl,λ_=>rfl⟩
theorem Jr(t:V9)(a:Array (Int×Qz))(h:Int)(x:Qz):(layNew t a h x).2.1.led=t.led/\(t.plain=Qv->(layNew t a h x).2.1.plain=Qv):=by
 unfold layNew;split
 ·exact HQ (t.put _).1 _
 ·exact⟨rfl,λ_=>rfl⟩
set_option tactic.hygienic true in
theorem M0(t:V9)(a:Array (Int×Qz))(n:Nat):(Vp t a n).2.1.led=t.led/\(t.plain=Qv->(Vp t a n).2.1.plain=Qv):=by
 unfold Vp;split
 ·next c o e =>
  dsimp only;split
  ·unfold SetTable.relaid SetTable.laid at e;simp only[bind,Option.bind_eq_some_iff]at e;obtain⟨b,_,e⟩:=e;cases e;simp
  ·unfold Xf;simp
 ·unfold Xf;simp
noncomputable def SX(P:QW)(w:Rm)(h:RS)(a:QC)(l:List QD):Prop :=
 ∃o b d t,h.get? a=Qq o/\o.ExactSet/\o.data=Td b d t/\ElemsOf (strKind P w) b.toList/\b.size<RW/\t.fits b.size=Qr/\t.led=(!w.params.followText "set-order")/\(t.plain=Qr->b.size=0)/\(∃c,c.Perm (b.toList.map (·.2))/\aG (l.map V.str) c)
theorem BI{P:QW}{w:Rm}:∀ {l:List QD}{c:List Qz},aG (l.map V.str) c->∀k,(∃u∈c,(strKind P w).is k u=Qr) ↔ k∈l
 |[],_,.nil,k=>by simp
 |b::r,_,@Paired.cons _ _ _ _ _ _ _ a t,k=>by
  obtain⟨d,rfl⟩:=a;have f:=BI (P:=P) (w:=w) t k;have e:(strKind P w).is k (Rl b d)=Qr ↔ k=b:=⟨λh=>(strKind P w).inj _ _ _ h (UY _ _ _ _),λh=>h▸UY _ _ _ _⟩
  simp_all
theorem B5:∀ {a b:List V}{c d:List Qz},aG a c->aG b d->aG (a++b) (c++d)
 |_,_,_,_,.nil,h=>h
 |_,_,_,_,.cons x t,h=>.cons x (B5 t h)
theorem vK(c:Array (Int×Qz))(d:V9)(i:h.get? a=Qq o)(e:o.data=Td j f t):
 (h.update a (Obj.putSet c d)).get? a=Qq {o with data:=Td c (f+1) d}/\Sk a h (h.update a (Obj.putSet c d)):=by
 refine⟨?_,Heap.size_update _ _ _,λb g=>Vh _ _ _ _ g⟩;rw[<- putSet_of c d e];exact Ss _ i (by rw[putSet_of c d e];rfl)
noncomputable def uX(b:Bool):ZT Unit:=match b with
 |true=>rule "set.scan.the-table-gave-way"
 |false=>pure ()
theorem Fu(b:Bool)(a:QF)(c:Unit->QF->Prop)(h:c () a):QI (QJ d w) A (uX b) c E a:=by
 cases b
 ·exact QB h
 ·exact VO h
theorem jH{g:Bool->ZT Unit}(J:∀  b   f   u ,u () f->QI (QJ e w) A (g b) u E f)
 (D:s.heap.get? a=Qq o) (j:o.ExactSet) (y:o.data=Td M n t) (B:ElemsOf (strKind e w) c.toList) (k:c.size<RW) (I:d.fits c.size=Qr)
 (C:d.led=(!w.params.followText "set-order")) (L:d.plain=Qv) (F:us.Perm (c.toList.map (·.2))) (H:aG (l.map V.str) us)
 (h:∀p,Sk a s.heap p->SX e w p a l->R (Qq Qr) {s with heap:=p}) :
 QI (QJ e w) A (do
  storeSet a c d
  if(!wd&&d.tooFull)=Qr then do
   g (Vp d c (Sr c.size)).2.2
   storeSet a (Vp d c (Sr c.size)).1 (Vp d c (Sr c.size)).2.1
   pure (Qq Qr)
  else pure (Qq Qr)) R E s:=by
 refine Qt (ZH D y ?_ (UC k));obtain⟨i,q⟩:=vK c d D y;split
 ·have m:=relayAll_perm d c (Sr c.size);have v:=relayAll_fits d c (Sr c.size);have ld:=M0 d c (Sr c.size);generalize Vp d c (Sr c.size)=r at m v ld;have G:r.1.size=c.size:=by have:=m.length_eq;simpa using this
  refine Qt (J _ _ _ ?_);refine Qt (ZH i rfl ?_ (UC (by rw[G];exact k)));refine QB (h _ ?_ ⟨{o with data:=Td r.1 (n+2) r.2.1},r.1,n+2,r.2.1,?_,j,rfl,B.perm m,by rw[G];exact k,v,by rw[ld.1];exact C,(λz=>by simp_all),us,F.trans (m.map _).symm,H⟩)
  ·exact⟨(vK r.1 r.2.1 i rfl).2.1.trans q.1,λb x=>((vK r.1 r.2.1 i rfl).2.2 b x).trans (q.2 b x)⟩
  ·exact(vK r.1 r.2.1 i rfl).1
 ·refine QB (h _ q ⟨_,c,n+1,d,i,j,rfl,B,k,I,C,(λz=>by rw[L]at z;cases z),us,F,H⟩)
theorem kS(x:SX b w s.heap a l)(aa:l.length+1<RW)
 (h:∀g,Sk a s.heap g->SX b w g a (if k∈l then l else l++[k])->Q (!decide (k∈l)) {s with heap:=g}) :
 QI (QJ b w) A (setAddHashed a (.str k B) ((strKind b w).hash k)) Q E s:=by
 obtain⟨o,c,ep,t,q,i,n,p,X,L,M,hp,us,m,C⟩:=x;refine Q8 ?_;rw[ZO];refine Qt (SH q n L ?_);dsimp only;rw[if_pos (byScan_of rfl X p)];refine Qt ?_;refine Qt (VO ?_);refine Qt (wpAny_setScan_of (UY _ _ _ _) q n L p ?_);have Y:=BI (P:=b) (w:=w) C k;cases U:List.findIdx? (λe=>(strKind b w).is k e.snd) c.toList with
 |some j =>
  have T:k∈l:=by
   refine Y.mp ?_;obtain⟨hj,d⟩:=List.findIdx?_eq_some_iff_getElem.mp U;exact⟨_,m.mem_iff.mpr (Qx.mpr ⟨_,X6 hj,rfl⟩),d.1⟩
  refine QB (QB ?_);have:=h s.heap (Zbs a s.heap) (by rw[if_pos T];exact⟨o,c,ep,t,q,i,n,p,X,L,M,hp,us,m,C⟩)
  simp_all
 |none =>
  have Z:k∉l:=λz=>by
   obtain⟨u,hu,d⟩:=Y.mpr z;obtain⟨e,I,rfl⟩:=Qx.mp (m.mem_iff.mp hu);have:=List.findIdx?_eq_none_iff.mp U e I;rw[d]at this;cases this
  rw[if_neg Z,decide_eq_false Z]at h;have v:=layNew_perm t c ((strKind b w).hash k) (.str k B);have H:=layNew_fits t c ((strKind b w).hash k) (.str k B);have ld:=Jr t c ((strKind b w).hash k) (.str k B);generalize layNew t c ((strKind b w).hash k) (.str k B)=r at v H ld;obtain⟨f,S,wd,gv⟩:=r;have J:=(p.push (UY _ _ _ _) rfl).perm (by simpa using v);have N:f.size<RW:=by
   have D:=v.length_eq;have F:=m.length_eq;have G:=C.length;simp at D F G;omega
  have W:∀y:V9,y.fits f.size=Qr->y.led=(!w.params.followText "set-order")->y.plain=Qv->∀R:Option Bool->QF->Prop,(∀z,Q Qr z->R (Qq Qr) z)->_:=λy D F G R hR=>jH (A:=A) (E:=E) (R:=R) (wd:=wd) Fu q i n J N D F G ((m.append_right _).trans (by simpa using(v.map (·.2)).symm)) (by rw[Zf];exact B5 C (.cons ⟨_,rfl⟩ .nil)) λg u x=>hR _ (h g u x);refine Qt (Fu gv _ _ ?_);cases d:S.plain with
  |true =>
   rw[if_pos rfl];refine Qt (QB ?_);exact W {S with plain:=Qv} (SetTable.fits_plain_off H) (ld.1.trans M) rfl _ λz O=>QB O
  |false =>
   rw[if_neg (by decide)];refine Qt (QB ?_);exact W S H (ld.1.trans M) d _ λz O=>QB O
end
section
noncomputable abbrev ij(w:Rm):Bool:=!w.params.followText "set-order"
theorem Be(h:∀st ,st.params=w.params->Q st s):QI (QJ prog w) A ask Q E s:=fun Γ p hΓ=>h _ rfl
theorem L8(a:Qz):checkBuiltinCall "set.__new__" {pos:=[.type "set",a]}=pure ():=by kernel_rfl
theorem Mp(a:Qz)(h:Q₁ (.ref s.heap.objs.size) {s with heap:=s.heap.push (bH (ij w))}):
 SW (QJ prog w) A (.call (.builtin "set.__new__") {pos:=[.type "set",a]}) (wants Q₁ E) s:=by
 refine T6 PySem.F.plain_set_new PySem.F.entry_set_new ?_;rw[L8];refine QB ?_;unfold TB.«set.__new__» YK;have m2:=QS.sub
 wp_walk
 refine Be λst e=>QB ?_;rw[e]
 wp_walk
 exact h
theorem JT(ks:List QD)(k:QD):dl (ks++[k])=if k∈dl ks then dl ks else dl ks++[k]:=Da ks k
theorem SX.keep(x:SX prog w h a l)(k:∀o,h.get? a=Qq o->h'.get? a=Qq o):SX prog w h' a l:=by
 obtain⟨o,es,ep,t,ho,r⟩:=x;exact⟨o,es,ep,t,k _ ho,r⟩
theorem Jk{St:Nat->RS->Prop}(W:YC prog w A.in1 I fp wr n P St)(hD:D∉fp)(hn:ks.length=n)(hval:∀i v k,P i v->ks[i]?=Qq k->∃t,v=Rl k t)(hb:n+1<RW):
 ∀  j i  (z:QF),n-i=j->i<=n->St i z.heap->SX prog w z.heap D (dl (ks.take i)) ->
  (∀h' tk,(∀b o,b∉D::wr->z.heap.get? b=Qq o->h'.get? b=Qq o)->SX prog w h' D (dl ks)->R (.ok (.ret .none)) {z with heap:=h',toks:=tk}) ->
  SW (QJ prog w) A (.builtin "set.update.loop" ⟨[.ref D,.ref I],[]⟩) R z:=by
 have hDw:=λh=>hD (W.sub _ h);intro j
 induction j with
 |zero =>
  intro i z hj hi st hS hR;obtain rfl:i=n:=by omega
  refine Rn RG ?_;rw[Ra Rb _];refine Qt (W.done z _ _ st λh' tk kk=>?_);rw[Rj (W7 hn)]at hS;exact QB (hR h' tk (λb o hb e=>kk b o (λm=>hb (Z4 _ m)) e) (hS.keep λo e=>kk D _ hDw e))
 |succ j ih =>
  intro i z hj hi st hS hR;have lt:i<n:=by omega
  refine Rn RG ?_;rw[Ra Rb _];refine Qt (W.item i z _ _ lt st λv h1 tk1 hP st1 k1=>?_);have hk:ks[i]?=Qq (ks[i]'(by omega)):=Z2 _;obtain⟨tk,rfl⟩:=hval i v _ hP hk;refine Qt (Q8 ?_);unfold setAdd;refine Q8 (Qt ((strKind prog w).pyHash (UY _ _ _ _) ?_));refine kS (s:={z with heap:=h1,toks:=tk1+1}) (hS.keep λo e=>k1 D _ hDw e) ?_ λh2 sb2 hS2=>?_
  ·have a1:=xW (ks.take i);have a2:(ks.take i).length<=i:=Ve _ _;omega
  have et:ks.take (i+1)=ks.take i++[ks[i]'(by omega)]:=by simp_all
  rw[<- JT,<- et]at hS2;refine QB ⟨SA Rb _,ih (i+1) _ (by omega) lt (W.frame _ h1 _ st1 λb hb o e=>?_) hS2 λh' tk kk hS'=>hR h' tk (λb o hb e=>kk b o hb ?_) hS'⟩
  ·rw[sb2.2 b (λq=>hD (by rw[<- q];exact hb))];exact e
  ·rw[sb2.2 b (λq:b=D=>hb (by rw[q];exact Za))];exact k1 b o (λm=>hb (Z4 _ m)) e
noncomputable def ja(P:QW)(w:Rm)(ks:List QD)(z:QF)(r:Qz)(z':QF):Prop :=
 r=.none/\∃h' tk,z'={z with heap:=h',toks:=tk}/\SX P w h' z.heap.objs.size (dl ks)/\∀b o,b<z.heap.objs.size->z.heap.get? b=Qq o->h'.get? b=Qq o
set_option maxHeartbeats 6400000 in
theorem NV{z:QF}{l:QC}{its:Array Qz}{ks:List QD}{Q:Qz->QF->Prop}(hh:A.handled=Qs)(hl:z.heap.IsList l its)(hn:ks.length=its.size)
 (hv:∀(i:Nat) (v:Qz) (k:QD),its[i]?=Qq v->ks[i]?=Qq k->∃t,v=Rl k t) (hb:its.size+1<RW)
 (h:∀z',ja prog w ks z .none z'->Q (.ref z.heap.objs.size) z'):QI (QJ prog w) A (call (.type "set") [.ref l]) Q E z:=by
 obtain⟨mc,mt,m0⟩:=QS.mro;have m1:=QS.made;have m2:=QS.sub;refine VP (codeAny_of_tree ?_);show QI _ _ (callAny (.type "set") _) _ _ _;refine QB ⟨XG _ (by decide +kernel),Rn Wg ?_⟩;rw[Xk (X4 "set" [.ref l] []) rfl];have m3:=QS.notType;have m4:=QS.canCreate;have m5:=Ws (.ref l)
 repeat (any_goals (first|assumption|wp_step))
 refine Sv (Mp (.ref l) (E:=E) (Q₁:=λr z1=>r=.ref z.heap.objs.size/\z1={z with heap:=z.heap.push (bH (ij w))}) ⟨rfl,rfl⟩) λr z1 hr=>?_;cases r with
 |error e=>exact hr
 |ok fl =>
  cases fl with
  |next=>exact hr.elim
  |brk=>exact hr.elim
  |cont=>exact hr.elim
  |ret r =>
   obtain⟨rfl,rfl⟩:=hr;have g0:(z.heap.push (bH (ij w))).get? z.heap.objs.size=Qq (bH (ij w)):=Z5 _ rfl;have ty:Wd {z with heap:=z.heap.push (bH (ij w))} (.ref z.heap.objs.size) "set":=⟨_,g0,rfl⟩;have i1:=QS.init.lookup;have i2:=QS.init.bind (.ref z.heap.objs.size)
   repeat (any_goals (first|assumption|wp_step))
   refine Sv (T6 (R:=wants (ja prog w ks z) E) QS.init.plain Wt (Za4 ty ?_)) λr2 z2 hr2=>?_
   ·obtain⟨⟨oc,od,odt,osl⟩,ho,c1,nl,d1⟩:=hl;simp only at c1 d1;subst c1 d1;have ho1:(z.heap.push (bH (ij w))).get? l=Qq {cls:=.type "list",dict:=od,data:=.seq its nl,slots:=osl}:=Z1 _ ho;have s1:=WK;have s2:=VT;have s3:(Uy "list" == Uy "dict")=Qv:=by decide
    have hl1:(z.heap.push (bH (ij w))).IsList l its:=⟨_,ho1,rfl,nl,rfl⟩;unfold TB.«set.__init__» noKeywords UM;generalize ePI:UF=PI
    wp_walk
    subst ePI;refine R8 hl1 ?_;refine Qt (WU ?_);have lt:l<z.heap.objs.size:=Z6 ho;have sz1:(z.heap.push (bH (ij w))).objs.size=z.heap.objs.size+1:=Zs _ _;have neI:l≠(z.heap.push (bH (ij w))).objs.size:=by rw[sz1];exact Zc (Zo lt)
    have nD:z.heap.objs.size∉[(z.heap.push (bH (ij w))).objs.size,l]:=by
     rw[sz1];simp only[Yq,Yn,or_false,not_or];exact⟨Zc (Y0 _),Y5 lt⟩
    refine Jk (T9 (by simp[hh]) _ l neI its) nD (ks:=ks) hn hv hb (its.size-0) 0 _ (by omega) (Y1 _) ⟨⟨_,Z5 _ rfl,rfl,rfl⟩,hl1.push _⟩ ?_ λh' tk kk hS=>?_
    ·exact⟨_,#[],0,_,Z1 _ g0,⟨rfl,rfl,rfl⟩,rfl,λe he=>by simp at he,by unfold RW;decide,rfl,rfl,λ_=>rfl,[],.refl _,.nil⟩
    ·show QI _ _ _ _ _ _;refine QB ?_;show QI _ _ (ret R6) _ _ _;refine QB ⟨rfl,h',tk,rfl,hS,λc o hc e=>kk c o ?_ (Z1 _ (Z1 _ e))⟩;rw[sz1];simp only[Yq,Yn,or_false,not_or];exact⟨Zc hc,Zc (Zo hc)⟩
   ·cases r2 with
    |error e=>exact hr2
    |ok fl2 =>
     cases fl2 with
     |next=>exact hr2.elim
     |brk=>exact hr2.elim
     |cont=>exact hr2.elim
     |ret r =>
      have hs:=hr2;obtain⟨rfl,h',tk,rfl,hS,kk⟩:=hr2
      repeat (any_goals (first|assumption|wp_step))
      exact h _ hs
end
noncomputable def sX(P:QW)(w:Rm)(p:QC)(ks:List QD):HO:=.ext λh=>SX P w h p (dl ks)
section
theorem Jf(hc:X.calm=Qr):bL X (.type "set") (λxs H Q=>∃(p:QC) (ks:List QD),xs=[.ref p]/\cF X.K H p (ks.map V.str)/\ks.length<=4000/\∀d,H d=Qs->Q (.ref d) (upd H d (sX X.prog X.w d ks))):=by
 intro pins s σ H xs us Q I r h;obtain⟨p,ks,rfl,hp,hz,q⟩:=h;obtain⟨u,rfl,ru⟩:=v1 r;cases (ru);obtain⟨its,rv,pl,_⟩:=I.list hp;have hlen:its.length=ks.length:=by rw[<- rv.length,Z0]
 refine NV (I.ok.hd hc) pl.isList (by simp_all) (λi v k h1 h2=>yQ rv (by simpa using h1) h2) (by rw[Zn,hlen];unfold RW;omega) λz' hs=>?_;obtain⟨_,h',tk,rfl,hS,kk⟩:=hs;refine⟨.ref s.heap.objs.size,_,I.laid (λb o e=>kk b o (Z6 e) e) (Z3 _) ?_,rfl,q _ (I.hok.fresh (Z3 _))⟩;refine⟨hS,?_,λh1 h2 hs1 k12=>SX.keep hs1 k12⟩;obtain⟨o,_,_,_,e,_⟩:=hS;exact⟨o,e⟩
end
section
theorem PM:V5 ZL "set.__iter__" = Qq TB.«frozenset.__iter__»:=entryFor_alias (id':="frozenset.__iter__") (by kernel_rfl) (by kernel_rfl) (by kernel_rfl) (by kernel_rfl)
theorem Ky:V5 ZL "set_iterator.__next__" = Qq TB.«set_iterator.__next__»:=Wl (by kernel_rfl)
noncomputable abbrev eh(f:Qz)(i:Int)(a:QC)(n ep:Nat):Ts:={cls:=.type "set_iterator",data:=.fields #[f,.int i 0,.ref a,.int n 0,.int ep 0]}
theorem Mq(k:s.heap.get? a=Qq o)(B:o.ExactSet)(n:o.data=Td b m t)(q:t.fits b.size=Qr)(C:b.size<RW)
 (x:∀(l:List Nat) d,l.Perm (Q7 b.size)->w.params.followText "set-order" = Qv->R (.done (.ret (.ref (s.heap.objs.size+1)))) {s with heap:=(s.heap.push (Su "tuple" (l.map λ(i:Nat)=>T5 i 0).toArray 0)).push (eh (.ref s.heap.objs.size) 0 a b.size m),drawn:=d})
 (y:(w.params.followText "set-order" = Qr\/t.plain=Qr\/b.size<=1)->R (.done (.ret (.ref s.heap.objs.size))) {s with heap:=s.heap.push (eh (.int 0 0) 0 a b.size m)}):QI (QJ g w) A (TB.«frozenset.__iter__» {pos:=[.ref a]}) R E s:=by
 have c:∀  f   z   _ ,R (.done (.ret (.ref z.heap.objs.size))) { z with heap:=z.heap.push (eh f 0 a b.size m) }->QI (QJ g w) A (do
  let e<-setEpoch a
  let r<-newFields "set_iterator" [f,rawInt 0,QV a,rawInt b.size,rawInt e]
  ret r) R E z:=λf z D h=>by
  refine Qt (wpAny_setEpoch_of D n q ?_)
  wp_walk
  exact h
 refine Qt (QB ?_);refine Qt (Qt (wpAny_setEntries_of k n q (QB ?_)));refine Qt (Qt (SH k n q ?_));refine Qt (vh (QB ?_));show QI _ _ (if(!w.params.followText "set-order" && (!t.plain&&decide (b.size > 1)))=Qr then _ else _) _ _ _;split
 ·next j =>
  refine Qt (Dh _ _ _ _ Y2 λl d p=>?_);have u:l.length=b.size:=by rw[p.length_eq,Y2]
  simp at j;refine Qt (wpAny_newTuple (c _ _ (Z1 _ k) ?_) (by rw[Z0,u];exact UC C));have F:(s.heap.push {cls:=Uy "tuple",data:=Data.seq (Ud (λ(i:Nat)=>rawInt i) l).toArray}).objs.size=s.heap.objs.size+1:=Zs _ _;rw[F];exact x l d p j.1
 ·next j =>
  refine Qt (QB (c _ s k (y ?_)));cases v:w.params.followText "set-order" with
  |true=>exact .inl rfl
  |false =>
   rw[v]at j;cases G:t.plain<;>simp_all
theorem uR:Slot "set_iterator" "__next__" "set_iterator.__next__":=Slot.of (owner:="set_iterator") (n:="__next__") (by rfl) (by kernel_rfl) (by kernel_rfl) (by kernel_rfl) (TC (by kernel_rfl)) (by rfl) (by kernel_rfl)
theorem Px(a:Qz):ZA "set_iterator.__next__" ⟨[a],[]⟩:=by unfold ZA;kernel_rfl
theorem Ii:isSubtype (.type "StopIteration") (.type "StopIteration")=pure Qr:=by rfl
theorem p7(g:s.TypeIs (.ref I) "set_iterator")
 (h:QI (QJ c w) A.in1 (TB.«set_iterator.__next__» {pos:=[.ref I]}) (λb a=>∃v,b=.done (.ret v)/\Q (Qq v) a) (λe a=>∃x,e=.ref x/\a.TypeIs (.ref x) "StopIteration"/\Q Qs a) s) :
 QI (QJ c w) A (WY (.ref I)) Q E s:=by
 have k:=uR.lookup;have j:=uR.bind (.ref I);unfold WY callSpecial?
 wp_walk
 refine T6 uR.plain Ky (uR.check _ _ _ _ _ _ _ _ g (Px _) ?_);refine RL h (λb a f=>?_) λe a d=>?_
 ·obtain⟨v,rfl,q⟩:=f;exact QB (QB q)
 ·obtain⟨x,rfl,i,q⟩:=d;have l:=Ii;dsimp only
  wp_walk
  exact q
end
section
variable {s:QF}
theorem Ki{t:V9}{a:Array (Int×Qz)}(b:t.fits a.size=Qr):(t.place.size != a.size||decide (t.fill > t.mask))=Qv:=by
 unfold V0 at b
 simp_all
theorem MF(d:A.handled=Qs)(h:∀a e,(∀b o,s.heap.get? b=Qq o->a.get? b=Qq o)->(∃o,a.get? e=Qq o/\o.cls=.type "StopIteration")->E (.ref e) {s with heap:=a}):
 QI (QJ c w) A (do
  let e<-newExc (.type "StopIteration") []
  WX e:ZT f) Q E s:=by
 unfold newExc WX
 wp_walk
 exact h _ _ (λb o e=>Z1 _ (Z1 _ e)) ⟨_,Z5 _ rfl,rfl⟩
theorem pC(d:s.heap.get? I=Qq {cls:=cl,data:=.fields b})(e:k<b.size)
 (h:∀a,a.get? I=Qq {cls:=cl,data:=.fields (b.setIfInBounds k v)}->Sk I s.heap a->Q () {s with heap:=a}) :
 QI (QJ c w) A (UQ (.ref I) k v) Q E s:=by
 wp_walk
 exact h _ (Ss _ d rfl) (Tj _ _ _)
noncomputable abbrev yr(Q:Option Qz->QF->Prop):PySem.Fin->QF->Prop:=λfin s'=>∃v,fin=.done (.ret v)/\Q (Qq v) s'
noncomputable abbrev zJ(Q:Option Qz->QF->Prop):Qz->QF->Prop:=λe s'=>∃x,e=.ref x/\s'.TypeIs (.ref x) "StopIteration"/\Q Qs s'
variable {i ep:Nat}{es:Array (Int×Qz)}{Q:Option Qz->QF->Prop}
theorem qg(m:s.heap.get? I=Qq (eh f i a es.size ep))(n:s.heap.get? a=Qq o)(k:o.data=Td es ep t)(l:t.fits es.size=Qr)
 (h:QI (QJ g w) A (match f with
  | .int j _=>do
   let r<-setNext a j.toNat (i:Int).toNat (ep:Int).toNat
   match r with
   |some (x,d)=>do
    UQ (.ref I) 0 (rawInt d)
    UQ (.ref I) 1 (rawInt (i+1))
    ret x
   |none=>do
    UQ (.ref I) 2 .none
    let e<-newExc (.type "StopIteration") []
    WX e
  |_=>do
   let q<-seqItems? f
   match q with
   |some b =>
    match b[(i:Int).toNat]? with
    |some (.int c _)=>do
     let x<-setNextDrawn a c.toNat (ep:Int).toNat
     UQ (.ref I) 1 (rawInt (i+1))
     ret x
    |some _=>unsupported "internal:set_iterator"
    |none=>do
     UQ (.ref I) 0 (rawInt 0)
     UQ (.ref I) 2 .none
     let e<-newExc (.type "StopIteration") []
     WX e
   |_=>unsupported "internal:set_iterator") (yr Q) (zJ Q) s) :
 QI (QJ g w) A (TB.«set_iterator.__next__» {pos:=[.ref I]}) (yr Q) (zJ Q) s:=by
 wp_walk
 rw[k];dsimp only;rw[Ki l,if_neg (by decide)];refine QB (QB ?_);rw[if_neg (by simp)];exact h
theorem lD(p:A.handled=Qs)(m:s.heap.get? I=Qq (eh f j a es.size ep))(h:∀c,(∀b o,b∉[I]->s.heap.get? b=Qq o->c.get? b=Qq o)->Q Qs {s with heap:=c})(q:k<5):
 QI (QJ d w) A (do
  UQ (.ref I) k v
  let e<-newExc (.type "StopIteration") []
  WX e) (yr Q) (zJ Q) s:=by
 refine Qt (pC m q λc ω u=>MF p λl e r t=>⟨e,rfl,t,h l λb o n g=>r b o ?_⟩);rw[u.2 b (by simpa using n)];exact g
theorem NC:Slot "set_iterator" "__iter__" "set_iterator.__iter__":=Slot.of (owner:="set_iterator") (n:="__iter__") (by rfl) (by kernel_rfl) (by kernel_rfl) (by kernel_rfl) (TC (by kernel_rfl)) (by rfl) (by kernel_rfl)
theorem HY(a:Qz):ZA "set_iterator.__iter__" ⟨[a],[]⟩:=by unfold ZA;kernel_rfl
theorem Ie:V5 ZL "set_iterator.__iter__" = Qq TB.«dict_keyiterator.__iter__»:=entryFor_alias (id':="dict_keyiterator.__iter__") (by kernel_rfl) (by kernel_rfl) (by kernel_rfl) (by kernel_rfl)
theorem Cb{T id:String}{Q:Qz->QF->Prop}(k:Slot T "__iter__" id)(r:(YN id==R6)=Qv)(n:V5 ZL id=Qq b)(l:ZA id ⟨[.ref a],[]⟩)(t:s.TypeIs (.ref a) T)
 (h:QI (QJ d w) A.in1 (b {pos:=[.ref a]}) (λf j=>∃g,f=.done (.ret (.ref g))/\j.TypeIs (.ref g) "set_iterator"/\Q (.ref g) j) E s):QI (QJ d w) A (UF (.ref a)) Q E s:=by
 have B:=k.lookup;have m:=k.bind (.ref a);have C:=uR.lookup
 wp_walk
 refine Be λst e=>?_;rw[m];have o:∀(c:Prop) [Decidable c]  x y  (R:Option (Qz×List Qz)->QF->Prop),x=pure (Qq (.builtin id,[.ref a]))->y=x->QI (QJ d w) A x R E s->QI (QJ d w) A (if c then x else y) R E s:=λc ω x y R v z h=>by
  simp_all
 refine o _ _ _ _ rfl rfl ?_;refine QB ?_;dsimp only;rw[if_neg (by rw[r];decide)];refine Qt (TN k t n ?_ l);refine RL h (λf j p=>?_) λ_ ω h=>h;obtain⟨g,rfl,u,q⟩:=p;refine⟨_,rfl,QB ?_⟩
 wp_walk
 exact q
theorem AB{Q:Qz->QF->Prop}(b:s.heap.get? I=Qq (eh f j a es.size ep))(h:Q (.ref I) s):QI (QJ c w) A (UF (.ref I)) Q E s:=by
 refine Cb NC (by decide) Ie (HY _) ⟨_,b,rfl⟩ ?_
 wp_walk
 exact⟨_,rfl,⟨_,b,rfl⟩,h⟩
end
section
theorem sI(L:A.handled=Qs)(r:o.data=Td c H t)(y:t.fits c.size=Qr)(l:List Nat)(G:List Qz)(M:l.length=c.size)(N:∀(i p:Nat),l[i]?=Qq p->∃z x,c[p]?=Qq (z,x)/\G[i]?=Qq x)(P:I≠a)(R:I≠m):
 YC F w A I [I,a,m] [I] c.size (fun  i  v=>G[i]?=Qq v) λ(i:Nat) h=>h.get? I=Qq (eh (.ref m) i a c.size H)/\h.get? a=Qq o/\h.get? m=Qq (Su "tuple" (l.map λ(i:Nat)=>T5 i 0).toArray 0):=by
 refine⟨λb f=>by simp at f;simp[f],λi h q st k=>⟨k _ (by simp) _ st.1,k _ (by simp) _ st.2.1,k _ (by simp) _ st.2.2⟩,λi s Q E S st h=>?_,λs Q E st h=>?_,λi s Q E st h=>AB st.1 h⟩
 ·obtain⟨d,g,C⟩:=st;obtain⟨p,D⟩:∃p,l[i]?=Qq p:=⟨_,Z2 (by omega)⟩;obtain⟨z,x,O,B⟩:=N i p D;refine p7 ⟨_,d,rfl⟩ (qg d g r y ?_);dsimp only;unfold seqItems?
  wp_walk
  rw[show(Ud (λ(i:Nat)=>T5 i 0) l).toArray[((i:Nat):Int).toNat]?=Qq (T5 p 0) by simp[D]];refine Qt (Qt (SH g r y ?_));dsimp only;rw[if_neg (by simp),show c[( p  : Int).toNat]?=Qq (z,x)from O];refine QB (Qt (pC d (by simp) λq n u=>QB ⟨x,rfl,h x q s.toks B ⟨?_,?_,?_⟩ λb o f e=>?_⟩))
  ·rw[n];rfl
  ·rw[u.2 a (Rf P)];exact g
  ·rw[u.2 m (Rf R)];exact C
  ·rw[u.2 b (by simpa using f)];exact e
 ·obtain⟨d,g,C⟩:=st;refine p7 ⟨_,d,rfl⟩ (qg d g r y ?_)
  wp_walk
  rw[show(Ud (λ(i:Nat)=>T5 i 0) l).toArray[( c.size  : Int).toNat]?=Qs by simp[M]];refine Qt (pC d (by simp) λq n u=>?_);refine lD (j:=c.size) L (by rw[n];rfl) (λJ k=>h J s.toks λb o f e=>k b o f ?_) (by decide);rw[u.2 b (by simpa using f)];exact e
theorem BQ(f:Nat->Nat):∀  n k   l  (a:Array c),l.length=n->(UZ f n k l a).toList.Perm (a.toList++l)
 | 0,k,l,a,h=>by
  rw[Uw.mp h,QP];exact .refl _
 |n+1,k,l,a,h=>by
  have b:f k%l.length<l.length:=Yj _ (by omega);have e:UZ f (n+1) k l a=UZ f n (k+1) (l.eraseIdx (f k%l.length)) (a.push l[f k%l.length]):=by
   show (match l[f k % l.length]? with
    |some x=>UZ f n (k+1) (l.eraseIdx (f k%l.length)) (a.push x)
    |none=>a)=_
   rw[Z2 b]
  rw[e];refine(BQ f n (k+1) _ _ (by rw[Ue b];omega)).trans ?_;rw[Array.toList_push,RP];exact(yF l _ b).append_left _
theorem Gc(f:Nat->Nat)(a:Array b):(Vu f a).toList.Perm a.toList:=BQ f _ 0 _ #[] (by simp)
theorem qD(G:A.handled=Qs)(n:o.data=Td c f t)(p:t.fits c.size=Qr)(q:w.params.followText "set-order" = Qr)(z:I≠a):
 YC m w A I [I,a] [I] c.size (fun  i  v=>((Vu (w.params.setOrder a f) c).toList.map (·.2))[i]?=Qq v) fun  i  h=>h.get? I=Qq (eh (.int 0 0) i a c.size f)/\h.get? a=Qq o:=by
 have l:∀(i:Nat)  s   R   E ,s.heap.get? a=Qq o->R (ZU (λe=>(e.2,0)) (Vu (w.params.setOrder a f) c)[i]?) s->QI (QJ m w) A.in1 (setNext a 0 i f) R E s:=λi s R E d h=>by
  refine Qt (SH d n p ?_);refine Qt (vh ?_);rw[q,if_pos rfl];rw[if_neg (by simp)];refine Qt (Qt (SH d n p ?_));refine Qt (vh ?_);rw[q,if_pos rfl];refine Qt (Be λst e=>QB (QB ?_));rw[e];exact h
 have H:(Vu (w.params.setOrder a f) c).size=c.size:=by have:=(Gc (w.params.setOrder a f) c).length_eq;simpa using this
 refine⟨λb j=>by simp at j;simp[j],λi h r st k=>⟨k _ (by simp) _ st.1,k _ (by simp) _ st.2⟩,λi s Q E M st h=>?_,λs Q E st h=>?_,λi s Q E st h=>AB st.1 h⟩
 ·obtain⟨g,d⟩:=st;refine p7 ⟨_,g,rfl⟩ (qg g d n p ?_);refine Qt (l i _ _ _ d ?_);obtain⟨⟨L,x⟩,y⟩:∃e,(Vu (w.params.setOrder a f) c)[i]?=Qq e:=⟨_,RC (by omega)⟩;rw[y];refine Qt (pC g (by simp) λJ C B=>Qt (pC C (by simp) λr D u=>QB ⟨x,rfl,h x r s.toks ?_ ⟨?_,?_⟩ λb o j e=>?_⟩))
  ·rw[Zk,Y9,y];rfl
  ·rw[D];rfl
  ·rw[u.2 a (Rf z),B.2 a (Rf z)];exact d
  ·rw[u.2 b (by simpa using j),B.2 b (by simpa using j)];exact e
 ·obtain⟨g,d⟩:=st;refine p7 ⟨_,g,rfl⟩ (qg g d n p ?_);refine Qt (l c.size _ _ _ d ?_);rw[show(Vu (w.params.setOrder a f) c)[c.size]?=Qs by simp[H]];exact lD G g (λF k=>h F s.toks k) (by decide)
theorem Pv(j:Nat)(a:Array Nat)(h:a.size=0):S6 a j=0:=by
 unfold S6;rw[h];rfl
theorem DR(j p:Nat)(a:Array Nat)(h:a=#[p]):S6 a j=if p<j then 1 else 0:=by
 subst h;show(if 0<1 then if(#[p]).getD ((0+1)/2) j<j then V8 #[p] j 0 ((0+1)/2+1) 1 else V8 #[p] j 0 0 ((0+1)/2)else 0)=_;rw[if_pos (by decide)];rfl
theorem Ge{p:Nat}(b:a[0]?=Qq p)(h:a.size<=1):a=#[p]:=by
 refine Array.ext' (Sw λn=>?_);cases n with
 |zero=>simpa using b
 |succ n =>
  simp;omega
theorem qT(O:A.handled=Qs)(y:o.data=Td c z t)(m:t.fits c.size=Qr)(H:w.params.followText "set-order" = Qv)(ld:t.led=Qr)(M:c.size<=1)(F:I≠a):
 YC r w A I [I,a] [I] c.size (λ(i:Nat) v=>(c.toList.map (·.2))[i]?=Qq v) λ(i:Nat) h=>(∃d:Nat,h.get? I=Qq (eh (.int d 0) i a c.size z)/\S6 t.place d=i)/\h.get? a=Qq o:=by
 have q:∀ (i d:Nat)  s   R  (E:Qz->QF->Prop),s.heap.get? a=Qq o->S6 t.place d=i->R (match c[i]?,t.place[i]? with
  |some (_,x),Qq j=>Qq (x,j+1)
  |_,_=>Qs) s->QI (QJ r w) A.in1 (setNext a d i z) R E s:=λi d s R E g l h=>by
  refine Qt (SH g y m ?_);refine Qt (vh ?_);rw[H,if_neg (by decide)];show QI _ _ (if(!t.plain&&decide (c.size > 1))=Qr then _ else _) _ _ _;rw[if_neg (by simp;omega)];refine Qt (?_:QI _ _ (if(!t.led&&!c.isEmpty)=Qr then _ else pure ()) _ _ _);rw[ld,if_neg (by simp)];refine QB (QB ?_);rw[l];exact h
 have T:t.place.size=c.size:=by
  unfold V0 at m;simp at m;exact m.1
 refine⟨λb n=>by simp at n;simp[n],λi h B st k=>⟨?_,k _ (by simp) _ st.2⟩,λi s Q E S st h=>?_,λs Q E st h=>?_,λi s Q E st h=>?_⟩
 ·obtain⟨⟨d,e,l⟩,_⟩:=st;exact⟨d,k _ (by simp) _ e,l⟩
 ·obtain⟨⟨d,f,l⟩,g⟩:=st;obtain rfl:i=0:=by omega
  refine p7 ⟨_,f,rfl⟩ (qg f g y m ?_);refine Qt (q 0 d _ _ _ g l ?_);obtain⟨⟨P,x⟩,D⟩:∃e,c[0]?=Qq e:=⟨_,RC (by omega)⟩;obtain⟨p,C⟩:∃p,t.place[0]?=Qq p:=⟨_,RC (by omega)⟩;rw[D,C];refine Qt (pC f (by simp) λM J G=>Qt (pC J (by simp) λB L u=>QB ⟨x,rfl,h x B s.toks ?_ ⟨⟨p+1,?_,?_⟩,?_⟩ λb o n e=>?_⟩))
  ·rw[Zk,Y9,D];rfl
  ·rw[L];rfl
  ·rw[DR (p+1) p t.place (Ge C (by omega)),if_pos (Y0 _)]
  ·rw[u.2 a (Rf F),G.2 a (Rf F)];exact g
  ·rw[u.2 b (by simpa using n),G.2 b (by simpa using n)];exact e
 ·obtain⟨⟨d,f,l⟩,g⟩:=st;refine p7 ⟨_,f,rfl⟩ (qg f g y m ?_);refine Qt (q c.size d _ _ _ g l ?_);rw[show c[c.size]?=Qs by simp];exact lD O f (λN k=>h N s.toks k) (by decide)
 ·obtain⟨⟨d,f,l⟩,g⟩:=st;exact AB f h
end
section
theorem Ht:V5 ZL "list.__iadd__" = Qq TB.«list.__iadd__»:=Wl (by kernel_rfl)
theorem Pw:plainId "list.__iadd__" = Qr:=by kernel_rfl
theorem M3(R:B.handled=Qs)(k:s.heap.get? a=Qq o)(u:o.ExactSet)(M:o.data=Td c J t)(y:t.fits c.size=Qr)(hs:c.size<RW)(U:t.led=(!w.params.followText "set-order"))(hp:t.plain=Qr->c.size=0)
 (h:∀  I  (O:List QC) (Y:List Qz)  St   L   d ,YC F w B I O [I] c.size (λi v=>Y[i]?=Qq v) St->St 0 L->(∀b∈O,b=a\/s.heap.objs.size<=b)->(∀b∈O,b<L.objs.size)->s.heap.objs.size<=I->b5 s.heap L->Y.Perm (c.toList.map (·.2))->Q (.ref I) {s with heap:=L,drawn:=d}) :
 QI (QJ F w) A (UF (.ref a)) Q E s:=by
 have C:=Z6 k;refine Cb PySem.F.slot_set_iter (by decide) PM (PySem.F.args_set_iter_1 _) ⟨_,k,u.1⟩ (Mq k u M y hs (λl d S H=>?_) λr=>?_)
 ·have G:∀D,(s.heap.push D).objs.size=s.heap.objs.size+1:=λ_=>Zs _ _;have ll:l.length=c.size:=by rw[S.length_eq,Y2]
  have j:∀D N,Obj.isFreed N=Qv->((s.heap.push D).push N).get? (s.heap.objs.size+1)=Qq N:=λD N P=>by rw[<- G D];exact Z5 _ P
  refine⟨_,rfl,⟨_,j _ _ rfl,rfl⟩,h _ _ (l.map λp=>((c.toList.map (·.2))[p]?).getD .none) _ _ d (sI R M y l _ ll (λi p T=>?_) ?_ ?_) ⟨j _ _ rfl,?_,?_⟩ ?_ ?_ (Yv _) (λb o e=>?_) ?_⟩
  ·have g:=R9.mp (S.mem_iff.mp (Ze T));obtain⟨⟨hk,x⟩,W⟩:∃e,c[p]?=Qq e:=⟨_,RC g⟩;exact⟨hk,x,W,by simp[T,W]⟩
  ·exact Y5 (Zo C)
  ·simp_all
  ·exact Z1 _ (Z1 _ k)
  ·exact Z1 _ (Z5 _ rfl)
  ·simp_all
  ·intro b f;rw[Zs,G];simp at f;rcases f with rfl|rfl|rfl
   ·exact Y0 _
   ·exact Zo (Zo C)
   ·exact Zo (Y0 _)
  ·exact Z1 _ (Z1 _ e)
  ·refine(S.map _).trans ?_;have:(Q7 c.size).map (λp=>((c.toList.map (·.2))[p]?).getD .none)=c.toList.map (·.2):=by
    refine Sw λn=>?_;rw[Zk];by_cases hn:n<c.size
    all_goals simp_all
   rw[this]
 ·have j:(s.heap.push (eh (.int 0 0) 0 a c.size J)).get? s.heap.objs.size=Qq (eh (.int 0 0) 0 a c.size J):=Z5 _ rfl;have m:∀b∈[s.heap.objs.size,a],b=a\/s.heap.objs.size<=b:=λb f=>by
   simp at f
   grind
  have q:∀b∈[s.heap.objs.size,a],b<(s.heap.push (eh (.int 0 0) 0 a c.size J)).objs.size:=λb f=>by
   rw[Zs];simp at f;rcases f with rfl|rfl
   ·simp_all
   ·exact Zo C
  have X:b5 s.heap (s.heap.push (eh (.int 0 0) 0 a c.size J)):=λb o e=>Z1 _ e;refine⟨_,rfl,⟨_,j,rfl⟩,?_⟩;cases H:w.params.followText "set-order" with
  |true=>exact h _ _ _ _ _ s.drawn (qD R M y H (Y5 C)) ⟨j,Z1 _ k⟩ m q (Z3 _) X ((Gc _ _).map _)
  |false =>
   rw[H]at U r;have h1:c.size<=1:=by
    rcases r with r|r|r
    all_goals simp_all
   have z:S6 t.place 0=0:=by
    have ps:t.place.size=c.size:=by
     unfold V0 at y
     simp_all
    cases Z:c.size with
    |zero=>exact Pv 0 _ (by rw[ps,Z])
    |succ n =>
     obtain⟨p,g⟩:∃p,t.place[0]?=Qq p:=⟨_,RC (by omega)⟩;rw[DR 0 p t.place (Ge g (by omega)),if_neg (Wb _)]
   refine h _ _ _ _ _ s.drawn (qT R M y H U h1 (Y5 C)) ⟨⟨0,j,z⟩,Z1 _ k⟩ m q (Z3 _) X (.refl _)
theorem JI(p:o.Perm q):∀ {l:List QD},aG (l.map V.str) o->∃c:List QD,c.Perm l/\aG (c.map V.str) q:=by
 induction p with
 |nil=>exact fun {l} h=>⟨l,.refl _,h⟩
 |cons x _ i =>
  intro l h;cases l with
  |nil=>cases h
  |cons k r =>
   obtain⟨a,t⟩:=(show aM (V.str k) x/\aG (r.map V.str) _ by cases h;exact⟨by assumption,by assumption⟩);obtain⟨c,p,v⟩:=i t;exact⟨k::c,p.cons k,.cons a v⟩
 |swap x y r =>
  intro l h
  match l,h with
  |a::b::l,.cons d (.cons e t)=>exact⟨b::a::l,.swap _ _ _,.cons e (.cons d t)⟩
 |trans _ _ f g =>
  intro l h;obtain⟨s,m,v1⟩:=f h;obtain⟨j,n,v2⟩:=g v1;exact⟨j,n.trans m,v2⟩
theorem K6:splitId "set.__len__" = Qq ("set", "__len__"):=by kernel_rfl
theorem Jt(e:s.heap.get? a=Qq o)(c:o.ExactSet)(h:Q Qv s):QI (QJ d w) A (Vl (.ref a)) Q E s:=by
 have j:s.TypeIs (.ref a) "set":=⟨_,e,c.1⟩;have g:=PySem.F.slot_set_len.lookup;have i:=QS.sub;unfold Vl;generalize b:splitId=SP;have f:SP "set.__len__" = Qq ("set", "__len__"):=by rw[<- b];exact K6
 wp_walk
 rw[f];dsimp only
 wp_walk
 exact h
theorem Oh(x:SX m w s.heap a l)(hh:A.handled=Qs)
 (h:∀  L  (d:Drawn)  tk  (f:List Qz) (u:List QD),b5 s.heap L->u.Perm l->aG (u.map V.str) f->Q f {s with heap:=L,drawn:=d,toks:=tk}):QI (QJ m w) A (collect (.ref a)) Q E s:=by
 obtain⟨o,p,ep,t,M,g,hd,he,N,hf,hl,hp,us,pu,vu⟩:=x;refine Qt (WU ?_);refine Rn entry_proto_collect' ?_;rw[Ra PySem.F.plain_proto_collect _];unfold TB.«proto.collect»;refine Qt (VJ ?_ (by simp));refine QB ⟨by kernel_rfl,?_⟩;refine Rn Ht ?_;rw[Ra Pw _];have i:(s.heap.push (Su "list" #[] 0)).get? a=Qq o:=Z1 _ M;have ty:Wd {s with heap:=s.heap.push (Su "list" #[] 0)} (.ref a) "set":=⟨_,i,g.1⟩;have P:a<s.heap.objs.size:=Z6 M;have Y:(s.heap.push (Su "list" #[] 0)).objs.size=s.heap.objs.size+1:=Zs _ _;generalize Z:UF=PI
 wp_walk
 rw [if_neg (by
  have y:Zbu (.ref s.heap.objs.size) (.ref a)=Qv:=by
   exact beq_false_of_ne (Y5 P)
  rw[y];decide)]
 refine Qt (M3 (B:=A.in1) hh i g hd hf N hl hp λI fp J St q d W st f1 f2 gI H pv=>?_);refine Qt (Q8 (Jt (H _ _ i) g ?_));have hL:q.get? s.heap.objs.size=Qq (Su "list" #[] 0):=H _ _ (Z5 _ rfl);have hn:p.size<=QG:=UC N;dsimp only;rw[if_pos (by decide)];refine Qt (VO ?_);refine Qt ?_;unfold Zbt
 wp_walk
 have F:((q.update s.heap.objs.size (R7 λx=>x.push R6)).update s.heap.objs.size (R7 λx=>x.pop)).get? s.heap.objs.size=Qq (Su "list" #[] 2):=Ss _ (Ss _ hL rfl) rfl;have X:s.heap.objs.size∉fp:=λhm=>by
  rcases f1 _ hm with e|e
  ·exact absurd P (by rw[<- e];exact Zv _)
  ·exact absurd (show s.heap.objs.size+1<=s.heap.objs.size from Y▸e) (Nat.not_succ_le_self _)
 have O:∀b o,b≠s.heap.objs.size->q.get? b=Qq o->((q.update s.heap.objs.size (R7 λx=>x.push R6)).update s.heap.objs.size (R7 λx=>x.pop)).get? b=Qq o:=λb o r e=>by
  rw[Vh _ _ _ _ r,Vh _ _ _ _ r];exact e
 refine⟨by kernel_rfl,codeAny_extend_loopS W.toS hn s.heap.objs.size X (.ref s.heap.objs.size) (p.size-0) 0 _ #[] 2 (by omega) (Y1 _) (W.frame _ _ _ st λb r o e=>O b o (λz=>X (z▸r)) e) F ⟨rfl,λj v e=>by simp at e⟩ λk f c U hS D=>?_⟩;dsimp only
 wp_walk
 have ev:f.toList=J:=by
  have vl:J.length=p.size:=by rw[pv.length_eq];simp
  refine Sw λn=>?_;by_cases G:n<p.size
  ·obtain⟨v,e⟩:∃v,f[n]?=Qq v:=⟨_,RC (by rw[D.1];exact G)⟩;rw[Y9,e,D.2 n v e]
  ·rw[Ya (by simp[D.1];omega),Ya (by omega)]
 rw[ev];obtain⟨u,p',v'⟩:=JI (pu.trans pv.symm) vu;have y:k={s with heap:=k.heap,drawn:=d,toks:=k.toks}:=by
  obtain⟨_,R,S,T,_⟩:=U;cases k;simp only at R S T;subst R S T;rfl
 rw[y];refine h k.heap d k.toks J u (λb o e=>U.heap b o ?_ (O b o (Zc (Z6 e)) (H b o (Z1 _ e)))) p' v';simp only[Yq,Yn,or_false,not_or];have:=Z6 e;have C:s.heap.objs.size+1<=I:=by rw[<- Y];exact gI
 exact⟨Zc this,Zc (Zd (Zo this) C)⟩
end
section
theorem J0:bL X (.builtin "sorted") (λB H Q=>∃(d:QC) (n:List QD),B=[.ref d]/\H d=Qq (sX X.prog X.w d n)/\(dl n).length<64/\X.calm=Qr /\
 ∀p (j:List QD),H p=Qs->j.Perm (dl n)->j.Pairwise (λa b=>¬fI b a)->Q (.ref p) (upd H p (.lst (j.map V.str)))):=by
 intro l s σ H B us Q I Z h;obtain⟨d,n,rfl,P,N,O,q⟩:=h;obtain⟨u,rfl,Y⟩:=v1 Z;cases (Y);obtain⟨x,_,_⟩:=I.hok d _ P;refine UU kind_sorted plain_sorted entry_sorted (args_sorted1 _) ?_;refine Qt (QB ?_);refine Qt (Oh x (I.ok.hd O) λg L A f W R y z=>?_);have G:f.length=W.length:=by rw[<- z.length,Z0]
 have ll:=y.length_eq;have r:=wW z;refine Qt (VJ ?_ (by rw[G,sizeLine_eq];omega));have i:(g.push (Su "list" f.toArray 0)).get? g.objs.size=Qq (Su "list" f.toArray 0):=Z5 _ rfl;refine Qt (Q8 (TN slot_list_sort ⟨_,i,rfl⟩ entry_list_sort (list_sort_treeK strKind_oneLt i r.keysOf (λC D rest e=>keyKind_strs (by rw[<- e];exact r)) (by omega) λm S T=>⟨_,rfl,?_⟩) (args_list_sort _)));obtain⟨k,E,t,F⟩:=sorted_out_str r S T;obtain⟨e,he⟩:=sortedHeap_at i;have c:=I.kept (t':=A) R;have J:aD X l σ H {s with heap:=g,drawn:=L,toks:=A}:=⟨c.ok,c.os,c.bare,c.base,c.loc,c.cell,c.free,c.freeC,c.pin,c.hok,c.len⟩;have U:∀b o,g.get? b=Qq o->(sortedHeap (g.push (Su "list" f.toArray 0)) g.objs.size f ((arrOf m).map (·.2))).get? b=Qq o:=λb o v=>by
  have w:=Z6 v;rw[sortedHeap_old (Zc w) (by rw[Zs];exact Zo w)];exact Z1 _ v
 have M:=J.hok.fresh (Z3 _);refine QB ⟨_,rfl,.ref g.objs.size,_,J.laid (o:=.lst (k.map V.str)) U (Z3 _) ⟨by rw[Z0,t.length_eq,sizeLine_eq];omega,((arrOf m).map (·.2)).toList,e,xu E,by omega⟩,rfl,q _ k M (t.trans y) (zK k F)⟩
end
end L2
namespace L2.F
open PySem PySem.Spec PyProof.Rows L2
section
noncomputable def ec(c:FE):FE:=λb S=>(c b S).bind λd S=>match b0 S d with
 |some e=>match dw e with
  |some a=>if a.length<=4000/\(dl a).length<64 then .ok (.d (.lst ((bE (dl a)).map D.str))) S else .st
  |none=>.st
 |none=>.st
set_option tactic.hygienic true in
theorem Lh(L:X.mg "sorted" = Qs)(j:X.mg "set" = Qs)(l:X.calm=Qr)(M:DE y X Z o E)(I:autoParam (Gl X "sorted") A10._auto_1)(i:autoParam (Gl X "set") A10._auto_1)(m:autoParam (Qy [o] X.env=(Qv,eval o X.env)::Qy [] X.env) A10._auto_1)(b:autoParam (Qy [.Call (.Name "set" n) [o] [] k] X.env=(Qv,eval (.Call (.Name "set" n) [o] [] k) X.env)::Qy [] X.env) A10._auto_1)(e:autoParam (∀q ,(Rc q (Qy [] X.env)).any (·.1)=Qv) A19._auto_1):DE y X Z (.Call (.Name "sorted" lp) [.Call (.Name "set" n) [o] [] k] [] T) (ec E):=by
 obtain⟨to,R,z⟩:=M.ex;refine .of ⟨_,L2.zCp J0 I L boot_sorted (L2.zCc (L2.zHb (Jf l) i j VW (L2.zCc R L2.zEl m) (by decide) (by decide) m (e _)) L2.zEl b) (by decide) (by decide) b (e _),λW S t B Q w r h=>z W S t B _ w r (PO.bind h λd S1 W1 v e1 s r1 a=>?_)⟩;split at a
 ·next xs C =>
  split at a
  ·next g A =>
   split at a
   ·next c =>
    obtain⟨p,vs,rfl,G,g2,H⟩:=jj (K:=X.K) s r1 C;obtain⟨rfl,J⟩:=qp H A;refine⟨p,g,rfl,G,c.1,λx f=>⟨x,g,rfl,dm,c.2,l,λq O N P Y=>?_⟩⟩;rw[yS P Y];exact vT (Z:=Z t) (s.oth f) (λx f=>J x (vo.mp ((gw (dl g)).mem_iff.mp f))) (by rw[(gw (dl g)).length_eq];exact Z9 (Ys c.2) (by decide)) (λu v e2 w2 r2=>a u v (aX.trans (aX.oth f) e2) w2 r2) q N
   ·exact a.elim
  ·exact a.elim
 ·exact a.elim
theorem B1(h:Fx T c)(j:DE c.cl X Z o d)(e:autoParam (T.bl.contains "sorted" = Qr) A12._auto_1)(a:autoParam (T.bl.contains "set" = Qr) A12._auto_1)(I:autoParam (Ic X c) A14._auto_1)(f:autoParam (X.calm=Qr) A10._auto_1)(i:autoParam (Gl X "sorted") A10._auto_1)(b:autoParam (Gl X "set") A10._auto_1)(g:autoParam (Qy [o] X.env=(Qv,eval o X.env)::Qy [] X.env) A10._auto_1):DE c.cl X Z (.Call (.Name "sorted" p) [.Call (.Name "set" m) [o] [] l] [] k) (ec d):=Lh (jr h I e) (jr h I a) f j i b g rfl λ_=>rfl
theorem Ap(n:DI c X Z (.Name x p) a l)(S:dh X b d [x])(h:∀C s H k,n9 c (br X b d [x] C s H k) ZN j t/\DE c (br X b d [x] C s H k) ZN e f)(m:autoParam (X.calm=Qr) A10._auto_1)(r:autoParam ((X.N++[x]).Nodup) A18._auto_1)(q:autoParam ((X.N++[x])[i]?=Qq x) A10._auto_1)(g:autoParam (∀C,(Sz b d C X.env).scope.names.lookup x=Qq .local) A13._auto_1)(o:autoParam (∀x,Rt a X.env x=pure x) A13._auto_1):DE c X Z (.ListComp e [⟨.Name x p,a,j,0⟩] b u) (aK [x].length l (gN i) t f):=hY i n h m S r q g o
end
section
theorem bG.rev:∀ {b:List V}{a:List U},bG c W b a->bG c W b.reverse a.reverse
 |_,_,.nil=>.nil
 |_,_,.cons r t=>by
  rw[Yt,Yt];exact(bG.rev t).append (.cons r .nil)
noncomputable def mE(d:U)(S:aE):aJ U:=match b0 S d with
 |some a=>eU a.reverse S
 |none=>.st
set_option tactic.hygienic true in
theorem zV(n:DE f X Z a j):DE f X Z (.Subscript a (.Slice Qs Qs (Qq (.UnaryOp .USub (.Constant (.int 1) k B) C)) E) q) (d1 mE j):=by
 obtain⟨G,o,e⟩:=n.ex;refine .of ⟨_,L2.yDr o,λW S u g Q w r h=>e W S u g _ w r (PO.bind h λd x y v z c s b=>?_)⟩;unfold mE at b;split at b
 ·next H i =>
  obtain⟨p,t,rfl,l,A,m⟩:=jj (K:=X.K) c s i;exact⟨p,t,rfl,l,(ni c m.rev b).2⟩
 ·exact b.elim
noncomputable def jG(a b:List D):List U:=(a.zip b).map λp=>.d (.tup [p.1,p.2])
noncomputable def rY(c:iu):FI:=λb S=>(c b S).bind λa S=>match a with
 |[.d (.lst e),.d (.lst f)]=>.ok (.items (jG e f)) S
 |_=>.st
set_option tactic.hygienic true in
theorem P6(hm:X.mg "zip" = Qs)(ha:DA P X Z [a,b] T)(hg:autoParam (Gl X "zip") A10._auto_1)(hs:autoParam (Qy [a,b] X.env=[(Qv,eval a X.env),(Qv,eval b X.env)]) A10._auto_1)(E:autoParam (Qy [b] X.env=[(Qv,eval b X.env)]) A10._auto_1):DI P X Z (.Tuple es x1 tp) (.Call (.Name "zip" p) [a,b] [] aa) (rY T):=by
 obtain⟨ta,pa,O⟩:=ha.ex;refine .of ⟨_,L2.yDk hg hm pa hs E,λW S σ R Q w r h=>O W S σ R _ w r (PO.bind h λds S1 W1 n e1 w1 r1 f=>?_)⟩;split at f
 ·next L M =>
  obtain⟨v,u,rfl,I,H⟩:=r1.two;cases I with
  |d I =>
  cases H with
  |d H =>
  cases I with
  | @lst p n _ g e l J =>
  cases H with
  | @lst q B _ Y e2 l2 m =>
   refine⟨p,q,rfl,⟨n,.of e⟩,⟨B,.of e2⟩,f.now w1 λN S' o w' k=>?_⟩;have C:=o.k _ _ g rfl e;have c:=o.k _ _ Y rfl e2;show match (Qq (jG L M)[k]?)with|some (Qq d)=>_|some Qs=>_|none=>True
   cases s:(jG L M)[k]? with
   |some d =>
    unfold jG at s;rw[Zk]at s;obtain⟨⟨x,y⟩,f,rfl⟩:=QA.mp s;obtain⟨hx,hy⟩:=SM.mp f;obtain⟨vx,i,rx⟩:=J.get hx;obtain⟨vy,j,ry⟩:=m.get hy;refine⟨⟨n,B,vx,vy,.of C,.of c,i,j⟩,λv H' yl=>?_⟩;obtain⟨t,z,z2,rfl,A,rfl,hz,G⟩:=yl;have:=hz n (.of C);rw[i]at this;cases this;have:=G B (.of c);rw[j]at this;cases this;exact⟨N.add t _,aX.add A,w'.add A,rfl,.d (.tup (.inr rfl) dm (by show 2<=LM;decide) (.cons ((rx.mono o).mono (aX.add A)) (.cons ((ry.mono o).mono (aX.add A)) .nil)))⟩
   |none =>
    have:=Q2.mp s;unfold jG at this;rw[Z0,YH]at this;exact⟨n,B,.of C,.of c,by rw[J.length,m.length];omega⟩
 ·exact f.elim
noncomputable def nB(c:TE):TI:=λe H R=>lB c e H λx b=>∃v d a,x=.ref v/\b v=Qq (g5 v d)/\Rd b d (.dK a)/\((b d=Qq (.dK a)->∀o,R (rh d a o) (upd b d (.frz o (.dK a))))/\∀o,b d=Qq (.frz o (.dK a))->R (rh d a o) b)
theorem IE(O:L2.PE X o Z)(j:autoParam (Q6 o "items" X.env (eval o X.env)=eval o X.env) A10._auto_1)(k:autoParam ((t.endLine==w.line)=Qr) A10._auto_1):L2.PI X (.Tuple B x1 tp) (.Call (.Attribute o "items" t) [] [] w) (nB Z):=by
 intro f s C H R I h;refine bt (L2.zVh O j k f s C H _ I h) λv l ⟨x,H1,r,W,T⟩=>?_;obtain⟨a,d,z,rfl,P,Y,q⟩:=T;obtain rfl:v=QV a:=W;have y:∀  o   m   i   A ,o.data=.dict m i->aD X f C A l->A d=Qq (.frz o (.dK z))->R (rh d z o) A->QI (QJ X.prog X.w) X.A (UF (.ref a)) (sQ X f C (.Tuple B x1 tp) R) X.xe l:=λo m i A n J p q=>by
  obtain⟨vs,Q,L,lo⟩:=J.dictAt p n;obtain⟨vw,_,_⟩:=r.hok a _ P;refine wpAny_pyIter_items (vw) L ?_;have G:=J.kept (t':=l.toks) (h':=l.heap.push {cls:=.type "dict_itemiterator",data:=.fields #[.none,.bool Qv,.ref d,.int 0 0,.int vs.length 0,.int i 0,.none,.none]}) λb u e=>Z1 _ e;refine⟨l.heap.objs.size,[l.heap.objs.size],_,_,_,rfl,G,NI n,⟨.none,.none,by rw[Q.len];exact Z5 _ rfl⟩,λc N=>?_,q⟩;have:c=l.heap.objs.size:=by simpa using N
  subst this;exact J.fpOk (Z3 _) (J.hok.fresh (Z3 _))
 rcases Y with E|⟨S,p⟩
 ·obtain⟨o,m,i,n,g,J⟩:=r.freeze (.inl E);exact y o m i _ n J dm (q.1 E o)
 ·obtain⟨o,m,i,n,g,J⟩:=r.freeze (.inr ⟨S,p⟩);obtain⟨M,_⟩:=r.hok d _ p;rw[M]at g;cases g;exact y _ m i _ n r p (q.2 _ p)
noncomputable def jm(b:List (aR×D)):List U:=b.map λa=>.d (.tup [jY a.1,a.2])
theorem RpK.get:∀ {b:List (aR×V)}{a:List (aR×D)}{i:Nat}{k:aR}{d:D},RpK c W b a->a[i]?=Qq (k,d)->∃v,b[i]?=Qq (k,v)/\Rp c W v d
 |_,_,0,k,d,.cons r t,h=>by simp_all
 |_,_,i+1,k,d,.cons r t,h=>RpK.get (i:=i) t (by simpa using h)
theorem RpK.len:∀ {vs:List (aR×V)}{a:List (aR×D)},RpK b W vs a->vs.length=a.length
 |_,_,.nil=>rfl
 |_,_,.cons r t=>by rw[Zg,Zg,t.len]
theorem Iz(h:dD k=Qr):Rp a W (kV k) (jY k):=by
 cases k with
 |inl i=>exact .int i
 |inr x=>exact .str x (mv h)
theorem Gk{p:QC}{o:Ts}(n:W.G p)(q:W.H p=Qq (.frz o (.dK j)))(r:RpK m W j c)(s:(c.all λe=>dD e.1)=Qr):RI m W (rh p j o) (.items (jm c)):=λl B e w k=>by
 have b:=e.k p _ n rfl q;show match (Qq (jm c)[k]?)with|some (Qq d)=>_|some Qs=>_|none=>True
 cases a:(jm c)[k]? with
 |some d =>
  unfold jm at a;rw[Zk]at a;obtain⟨⟨C,d1⟩,g,rfl⟩:=QA.mp a;obtain⟨v,h,u⟩:=r.get g;refine⟨⟨b,(Qw.mp h).1⟩,λx A y=>?_⟩;obtain⟨t,E,z,rfl,f,rfl,i⟩:=y;rw[h]at i;cases i;exact⟨l.add t _,aX.add f,w.add f,rfl,.d (.tup (.inr rfl) dm (by show 2<=LM;decide) (.cons (Iz (QM.mp s _ (Ze g))) (.cons ((u.mono e).mono (aX.add f)) .nil)))⟩
 |none =>
  refine⟨b,?_⟩;have:=Q2.mp a;unfold jm at this;rw[Z0]at this;rw[r.len];exact this
noncomputable def oD(c:FE):FI:=λb S=>(c b S).bind λd S=>match d with
 | .d (.dct a)=>if(a.all λe=>dD e.1)=Qr then .ok (.items (jm a)) S else .st
 |_=>.st
set_option tactic.hygienic true in
theorem J4(I:DE A X Z o H)(a:autoParam (Q6 o "items" X.env (eval o X.env)=eval o X.env) A10._auto_1)(b:autoParam ((i.endLine==j.line)=Qr) A10._auto_1):DI A X Z (.Tuple E Y T) (.Call (.Attribute o "items" i) [] [] j) (oD H):=by
 obtain⟨R,J,B⟩:=I.ex;refine .of ⟨_,IE J a b,λW S M G Q w r h=>B W S M G _ w r (PO.bind h λd N k v O L q f=>?_)⟩;split at f
 ·next P =>
  split at f
  ·next t =>
   cases q with
   |d q =>
   cases q with
   | @dct p s _ g e l u =>
    refine⟨p,s,rfl,e,λx n=>?_⟩;have e2:aX k (k.put x (g5 x p)):=aX.oth n;have z:=L.oth (o:=g5 x p) n;have c:=e2.g _ g;refine⟨x,p,s,rfl,dm,?_,λm o=>?_,λo C=>?_⟩
    ·rcases e with e|⟨y,e⟩
     ·exact .inl (by rw[bS (eK e n)];exact e)
     ·exact .inr ⟨y,by rw[bS (eK e n)];exact e⟩
    ·exact f ((k.put x (g5 x p)).put p (.frz o (.dK s))) _ (aX.trans e2 (aX.frz c m)) (z.frz c m) (Gk ((aX.frz c m).g _ c) dm ((u.mono e2).mono (aX.frz c m)) t)
    ·exact f (k.put x (g5 x p)) _ e2 z (Gk c C (u.mono e2) t)
  ·exact f.elim
 ·exact f.elim
theorem JG(h:Fx T d)(f:DA d.cl X Z [a,b] e)(g:autoParam (T.bl.contains "zip" = Qr) A12._auto_1)(I:autoParam (Ic X d) A14._auto_1)(i:autoParam (Gl X "zip") A10._auto_1)(j:autoParam (Qy [a,b] X.env=[(Qv,eval a X.env),(Qv,eval b X.env)]) A10._auto_1)(c:autoParam (Qy [b] X.env=[(Qv,eval b X.env)]) A10._auto_1):DI d.cl X Z (.Tuple l m n) (.Call (.Name "zip" p) [a,b] [] k) (rY e):=P6 (jr h I g) f i j c
end
noncomputable def sP:D->Option (QD×dX)
 | .tup [.str n,_,.non]=>Qq (n,Qs)
 | .tup [.str n,_,.str o]=>Qq (n,Qq o)
 |_=>Qs
noncomputable def sT:U->Option (QD×Int)
 | .d (.tup [.str k,.int m,_])=>Qq (k,m)
 |_=>Qs
noncomputable def gi{a b:Type}(f:a->Option b):List a->Option (List b)
 |[]=>Qq []
 |x::r=>match f x,gi f r with
  |some y,Qq l=>Qq (y::l)
  |_,_=>Qs
noncomputable def iA(a:List (QD×Int))(k:QD):Int:=((a.filter λw=>decide (w.1=k)).map (·.2)).sum
noncomputable def i8(b:List (QD×Int))(a:List (dX×V))(p:QD×dX):Option (List (dX×V)):=match du a p.2 with
 |some (.int m)=>if bJ (iA b p.1)=Qr then Qq (dg a (Qq p.1) (.int (m*iA b p.1)))else Qs
 |_=>Qs
noncomputable def cR(b:List (QD×Int)):List (QD×dX)->List (dX×V)->Option (List (dX×V))
 |[],a=>Qq a
 |p::r,a=>match i8 b a p with
  |some a=>cR b r a
  |none=>Qs
noncomputable def gu:List (dX×V)->Option (List Int)
 |[]=>Qq []
 |(_,.int i)::r=>(gu r).map (i::·)
 |_=>Qs
noncomputable def hU:FS:=λe S=>match e with
 |some (.d (.lst c))::Qq b::Qs::r=>match gi sP c,b0 S b with
  |some h,Qq a=>match gi sT a with
   |some i=>match cR i h [(Qs,.int 1)]with
    |some g=>match gu g with
     |some f=>if c.length<=1000/\a.length<=1000/\r.length=3 then .rt (.d (.int (f.sum-1))) S else .st
     |none=>.st
    |none=>.st
   |none=>.st
  |_,_=>.st
 |_=>.st
set_option tactic.hygienic true in
theorem zv:∀ {c:List e}{b:List j}{i:Nat}{x:e},gi f c=Qq b->c[i]?=Qq x->∃y,b[i]?=Qq y/\f x=Qq y
 |a::r,b,i,x,h,d=>by
  unfold gi at h;split at h
  ·next y l g e2 =>
   cases h;cases i with
   |zero=>simp_all
   |succ i=>exact zv (i:=i) e2 (by simpa using d)
  ·cases h
set_option tactic.hygienic true in
theorem Ac:∀ {c:List e}{b:List g},gi f c=Qq b->b.length=c.length
 |[],b,h=>by cases h;rfl
 |a::r,b,h=>by
  unfold gi at h;split at h
  ·next y l d e2 =>
   cases h;rw[Zg,Zg,Ac e2]
  ·cases h
theorem Fk:∀ {b:List (dX×V)}{a:List Int},gu b=Qq a->b=(b.map (·.1)).zip (a.map V.int)/\b.length=a.length
 |[],a,h=>by cases h;exact⟨rfl,rfl⟩
 |(k,v)::r,a,h=>by
  cases v with
  |int i =>
   obtain⟨l,e,rfl⟩:=QA.mp (h);obtain⟨c,d⟩:=Fk e;exact⟨by rw[Z8,Z8,XC,<- c],by rw[Zg,Zg,d]⟩
  |_=>cases h
noncomputable def jV(P:QW)(w:Rm)(K:aV)(c:Bool):TS:=oQ (nH (lM P w (tC .non) (tC (.int 1))) (fq 2))
 (oQ (rD (lz K (gD 0)) (tA K 3 (ku (fq 3) (ku (fq 4) (ku (fq 5) uY))))
  (oi P w (gD 2) (gD 3) (nG (rI mL λi j=>V.int (i * j)) (oj P w (gD 2) (gD 5))
   (u4 (λb H Q=>∃ (l:QC) (a:List Int),b=[V.ref l]/\cF K H l (a.map V.int)/\c=Qr/\Q (V.int a.sum) H)
    (lL (lY 1 (lz K (gD 1)) (fq 6) (lO (nG EK (nG (kJ K) (gD 6) (tC (V.int 0))) (gD 3))) (nG (kJ K) (gD 6) (tC (V.int 1)))) nJ)))))
  (uQ (nG (ov λi j=>V.int (i-j)) (u4 (λb H Q=>∃(v d:QC) (e:List dX) (a:List Int),b=[V.ref v]/\H v=Qq (fY v d)/\H d=Qq (L2.DO P w d (e.zip (a.map V.int)))/\e.length=a.length/\c=Qr/\Q (V.int a.sum) H) (lL (i6 P w (gD 2)) nJ)) (tC (V.int 1)))))
theorem aX.same(s:fg W.H H):aX W ⟨W.G,W.μ,H⟩:=by
 refine⟨λ_ g=>g,λb u ω ω e=>s b u e,λb c ω r=>?_,⟨[],(QP _).symm⟩,λb u e ω ω ω=>s b u e,λb a n=>absurd a n,λb g=>.inl g,λb u e=>⟨u,s b u e,id⟩⟩;rcases r with r|⟨x,r⟩
 ·exact .inl (s _ _ r)
 ·exact .inr ⟨x,s _ _ r⟩
theorem WR.same(w:WR f W S)(s:fg W.H H):WR f ⟨W.G,W.μ,H⟩ S:=by
 have e:=aX.same s;refine⟨w.len,w.nd,λb g=>?_,λn c b h e2=>?_,λt i=>(w.tb t i).stay λb u z=>s b u z⟩
 ·obtain⟨u,z,p⟩:=w.gd b g;exact⟨u,s b u z,p⟩
 ·have d:=w.cell n c b h e2;obtain⟨u,a,_⟩:=d.ex;exact d.keep e (λz=>z) (by show H b=W.H b;rw[a,s b u a])
theorem cF.same{K:aV}(h:cF K H a xs)(s:fg H b):cF K b a xs:=by
 rcases h with(h|⟨o,h⟩)|h
 ·exact .inl (.inl (s _ _ h))
 ·exact .inl (.inr ⟨o,s _ _ h⟩)
 ·exact .inr h
theorem M5(r:Rp k W v d)(h:sP d=Qq (n,o)):∃(t:QC) (f:V),v=.ref t/\W.H t=Qq (.tup [.str n,f,oV o]):=by
 unfold sP at h;split at h
 ·cases h;cases r with
  | @tup t j _ g e l a =>
   cases a with
   |cons b a=>cases a with
    |cons i a=>cases a with
     |cons c a =>
      cases a;cases b;cases c;exact⟨t,_,rfl,e⟩
 ·cases h;cases r with
  | @tup t j _ g e l a =>
   cases a with
   |cons b a=>cases a with
    |cons i a=>cases a with
     |cons c a =>
      cases a;cases b;cases c;exact⟨t,_,rfl,e⟩
 ·cases h
theorem Jj(r:RU i W v d)(h:sT d=Qq (k,m)):∃(t:QC) (f:V),v=.ref t/\W.H t=Qq (.tup [.str k,.int m,f]):=by
 unfold sT at h;split at h
 ·cases h;cases r with
  |d r =>
  cases r with
  | @tup t n _ g e l a =>
   cases a with
   |cons b a=>cases a with
    |cons c a=>cases a with
     |cons j a =>
      cases a;cases b;cases c;exact⟨t,_,rfl,e⟩
 ·cases h
theorem N3{a:Type}[DecidableEq a]{b:List (a×V)}{k:a}{v:V}:(dg b k v).length<=b.length+1:=by
 unfold dg;split
 all_goals simp_all
set_option tactic.hygienic true in
theorem O0{K:aV}{D:gM}{v0 v1:V}(hw:WR T W S)(r0:RU T W v0 (.d (.lst xs)))(r1:RU T W v1 b)(ep:gi sP xs=Qq O)(eu:b0 S b=Qq us)(ew:gi sT us=Qq q)(ek:cR q O [(Qs,.int 1)]=Qq kv)(ei:gu kv=Qq is)(c1:xs.length<=1000)(c2:us.length<=1000)(h:PF T W D Z (.rt (.d (.int (is.sum-1))) S)):jV P w K Qr D [Qq v0,Qq v1,a2,a3,a4,a5] W.H:=by
 cases r0 with
 |d r0 =>
 cases r0 with
 | @lst l vs _ g I hz hx =>
 obtain⟨lw,ys,rfl,J,ae,hy⟩:=jj (K:=K) hw r1 eu;have vl:=hx.length;have yl:=hy.length;have pl:=Ac ep;have wl:=Ac ew;have ag:=sizeLine_eq;refine λk G=>⟨dm,Qs,rfl,?_⟩;rw[N4];have s0:fg W.H (upd W.H k (L2.DO P w k [(Qs,.int 1)])):=fg.new G;have e0:(upd W.H k (L2.DO P w k [(Qs,.int 1)])) k=Qq (L2.DO P w k [(Qs,.int 1)]):=dm;generalize upd W.H k (L2.DO P w k [(Qs,.int 1)])=H0 at s0 e0 ⊢
 refine ⟨_,rfl,l,rfl,⟨_,cF.of (s0 _ _ I)⟩,Mn (K:=K) (a:=l) (λi R y=>∃ (x3 x4 x5:Option V) (s:List (dX×V)),R=[Qq (.ref l),Qq (.ref lw),Qq (.ref k),x3,x4,x5]/\y k=Qq (L2.DO P w k s)/\cR q (O.drop i) s=Qq kv/\s.length<=i + 1/\fg W.H y)
  ⟨a3,a4,a5,_,rfl,e0,ek,by simp,s0⟩ (λi R y ω hz=>by obtain⟨_,_,_,_,_,_,_,_,z⟩:=hz;exact cF.of (z _ _ I)) ?_ ?_⟩
 ·rintro i x R y Y ⟨x3,x4,x5,s,rfl,B,A,lk,z⟩;have il:=(Qw.mp Y).1;obtain⟨dd,H⟩:∃dd,xs[i]?=Qq dd:=⟨_,Z2 (by omega)⟩;obtain⟨x',r,rx⟩:=hx.get H;rw[Y]at r;cases r;obtain⟨⟨n,o⟩,hp,sp⟩:=zv ep H;obtain⟨t,f,rfl,ht⟩:=M5 rx sp;have dr:O.drop i=(n,o)::O.drop (i+1):=by
   rw[Uk (by omega)];rw[Z2 (by omega)]at hp;rw[Zr hp]
  rw[dr]at A;unfold cR at A;split at A
  ·next af C =>
   unfold i8 at C;split at C
   ·next m em =>
    split at C
    ·next sm =>
     cases C;refine⟨t,_,rfl,gC.of (z _ _ ht),rfl,_,_,rfl,_,_,rfl,_,_,rfl,rfl,?_⟩;refine⟨_,rfl,_,rfl,k,_,o,_,rfl,B,rfl,em,?_⟩;refine⟨_,rfl,lw,rfl,⟨_,cF.same J z⟩,Jz (λi M E=>y=E/\M=(((q.take i).filter λw=>decide (w.1=n)).map (·.2)).map V.int) ⟨rfl,rfl⟩ (λi M E p=>by rw[<- p.1];exact cF.same J z) (λj M E Y p=>?_) ?_ ?_⟩
     ·rw[p.2,Z0,Z0];have h1:=Zw (λw=>decide (w.1=n)) (q.take j);have h2:(q.take j).length<=q.length:=by simp_all
      omega
     ·rintro j x M E hj ⟨rfl,rfl⟩ N hN;have jl:=(Qw.mp hj).1;obtain⟨u,hu⟩:∃u,us[j]?=Qq u:=⟨_,Z2 (by omega)⟩;obtain⟨x',r,ru⟩:=hy.get hu;rw[hj]at r;cases r;obtain⟨⟨Q,wm⟩,ab,ac⟩:=zv ew hu;obtain⟨t',f',rfl,aa⟩:=Jj ru ac;have L:=z _ _ aa;refine⟨_,rfl,t',_,0,_,rfl,rfl,gC.of L,rfl,_,rfl,rfl,_,rfl,?_⟩;have fs:(q.take (j+1)).filter (λw=>decide (w.1=n))=if decide (Q=n)=Qr then(q.take j).filter (λw=>decide (w.1=n))++[(Q,wm)]else(q.take j).filter (λw=>decide (w.1=n)):=by
       rw[Ym,ab,Y4];cases e:decide (Q=n)<;>simp[e]
      by_cases c:Q=n
      ·rw[decide_eq_true (by simp_all)];refine Bk ⟨_,rfl,t',_,1,_,rfl,rfl,gC.of L,rfl,hN _ _ ⟨rfl,?_⟩⟩
       simp_all
      simp_all
     ·rintro M E ⟨rfl,rfl⟩ c hc;rw[yl,<- wl,Y8];have s3:fg y (upd y c (.lst (((q.filter λw=>decide (w.1=n)).map (·.2)).map V.int))):=fg.new hc;have e3:(upd y c (.lst (((q.filter λw=>decide (w.1=n)).map (·.2)).map V.int))) c=Qq (.lst (((q.filter λw=>decide (w.1=n)).map (·.2)).map V.int)):=dm;generalize upd y c (.lst (by omega))=H3 at s3 e3 ⊢;have X:=s3 _ _ B;refine⟨c,_,rfl,cF.of e3,rfl,_,_,rfl,rfl,?_,?_⟩
      ·unfold bJ iA at sm;simp at sm;exact .inr sm
      ·refine⟨_,rfl,_,rfl,k,_,Qq n,rfl,X,rfl,by omega,?_⟩;refine⟨_,_,_,_,rfl,dm,A,Z9 N3 (by omega),λb o e=>?_⟩;rw[bS (eK e G)];exact s3 _ _ (z _ _ e)
    ·cases C
   ·cases C
  ·cases A
 ·rintro R y ⟨x3,x4,x5,s,rfl,B,A,lk,z⟩;rw[UE (by omega)]at A;cases A;obtain⟨z1,z2⟩:=Fk ei;refine⟨_,rfl,k,_,rfl,B,λv hv=>⟨v,k,kv.map (·.1),is,rfl,dm,?_,by rw[Z0];exact z2,rfl,_,_,rfl,rfl,?_⟩⟩
  ·rw[bS (eK B hv),B,<- z1]
  ·exact h ⟨W.G,W.μ,_⟩ _ (aX.same (z.trans (fg.new hv))) (WR.same hw (z.trans (fg.new hv))) (.d (.int _))
set_option tactic.hygienic true in
theorem Kr{K:aV}{D:gM}(s:WR e W S)(r:ER e W d p)(h:PF e W D Z (hU p S)):jV P w K Qr D d W.H:=by
 unfold hU at h;split at h
 ·next L b rest =>
  split at h
  ·next G H n o =>
   split at h
   ·next J q =>
    split at h
    ·next E m =>
     split at h
     ·next C l =>
      split at h
      ·next c =>
       obtain⟨f,g,i⟩:=c;have a:=r.len;rw[Zg,Zg,Zg,i]at a;obtain⟨v,d,rfl⟩:=Re a;obtain⟨x,d,rfl⟩:=Re (by simpa using a);obtain⟨y,d,rfl⟩:=Re (by simpa using a);obtain⟨z,d,rfl⟩:=Re (by simpa using a);obtain⟨A,d,rfl⟩:=Re (by simpa using a);obtain⟨B,d,rfl⟩:=Re (by simpa using a);obtain rfl:d=[]:=Uw.mp (by simpa using a);obtain⟨I,j,t⟩:=r.get 0 _ rfl;obtain⟨v1,k,u⟩:=r.get 1 _ rfl;cases j;cases k;exact O0 s t u n o q m l f g h
      ·exact h.elim
     ·exact h.elim
    ·exact h.elim
   ·exact h.elim
  ·exact h.elim
 ·exact h.elim
theorem NO(h:L2.PSs X a (jV X.prog X.w X.K X.calm))(b:X.calm=Qr):j1 d X Z a hU:=.of ⟨_,h,λW S f e D w r c=>by rw[b];exact Kr w r c⟩
noncomputable def lK(d:U)(S:aE):aJ U:=match d with
 | .loc n=>match bI S n with
  |some b=>match cj b with
   |some a=>.ok (.d (.lst a)) (S.set n .dead)
   |none=>.st
  |none=>.st
 |_=>.st
set_option tactic.hygienic true in
theorem NW(H:DE A X Z a G):DE A X Z a (d1 lK G):=by
 obtain⟨ta,N,y⟩:=H.ex;refine .of ⟨_,N,λW S T E Q w r h=>y W S T E _ w r (PO.bind h λd x k v e1 i P f=>?_)⟩;unfold lK at f;split at f
 ·next n =>
  split at f
  ·next us C =>
   split at f
   ·next Y B =>
    obtain⟨p,vs,rfl,o,hg,q,J,R⟩:=my i P C;have O:=Ze o;have M:n<x.length:=by rw[<- i.len];exact(Qw.mp o).1
    have e2:aX k ⟨λb=>k.G b\/b=p,k.μ,k.H⟩:=⟨λb g=>.inl g,λb u ω ω e=>e,λb L ω e=>e,⟨[],(QP _).symm⟩,λb u e ω ω ω=>e,λb I t=>absurd I t,λb g=>by
     rcases g with g|rfl
     ·exact .inl g
     ·exact .inr (.inr O),λb u e=>⟨u,e,id⟩⟩
    refine f ⟨λb=>k.G b\/b=p,k.μ,k.H⟩ _ e2 ⟨by rw[RR];exact i.len,i.nd,λb g=>?_,λj c b m l=>?_,i.tb⟩ (.d (.lst (.inr rfl) q J ((R.pure B).mono e2)))
    ·rcases g with g|rfl
     ·exact i.gd b g
     ·exact⟨_,q,rfl⟩
    ·by_cases s:j=n
     ·subst s;rw[Q3 M]at m;cases m;rw[o]at l;cases l;exact⟨_,q,rfl⟩
     ·rw[Zy (Rf s)]at m;have t:b≠p:=λz=>by
       subst z;exact s ((XX (Qw.mp l).1 i.nd).mp (l.trans o.symm))
      exact(i.cell j c b m l).keep e2 (λz=>z.elim id λz=>absurd z t) rfl
   ·exact f.elim
  ·exact f.elim
 ·exact f.elim
section
noncomputable def jh:U->List U->aE->aJ U
 | .loc n,[.d (.int i)],S=>match bI S n with
  |some a=>if 0<=i/\i<(a.length:Int)then match a[i.toNat]? with
   |some x=>.ok x (S.set n (.lst (a.eraseIdx i.toNat)))
   |none=>.st
   else .st
  |none=>.st
 |_,_,_=>.st
theorem bG.erase:∀ {b:List V}{a:List U}  k ,bG c W b a->bG c W (b.eraseIdx k) (a.eraseIdx k)
 |_,_,_,.nil=>.nil
 |_,_,0,.cons _ t=>t
 |_,_,k+1,.cons r t=>.cons r (bG.erase k t)
set_option tactic.hygienic true in
theorem HP:ml t X "list" "list.pop" gJ jh:=⟨_,LB,λW S x d w r h=>vk w r h,λW S x A d u Q Z w r s h=>by
 unfold jh at h;split at h
 ·next n i =>
  split at h
  ·next B e =>
   obtain⟨p,f,rfl,m,l,j,k,a⟩:=my w r e;obtain⟨v,rfl,b⟩:=s.one;cases b with
   |d b =>
   cases b;split at h
   ·next c =>
    split at h
    ·next x g =>
     obtain⟨v,o,q⟩:=a.get g;have z:LM=1000000:=rfl;have y:i <  f.length:=by rw[a.length];exact c.2
     refine⟨p,f,i,i.toNat,v,rfl,rfl,j,by omega,by omega,?_,o,AC w m l (Z9 (List.length_eraseIdx_le _ _) k) (a.erase _) q h⟩;exact(AK (by unfold iS;simp_all)).1
    ·exact h.elim
   ·exact h.elim
  ·exact h.elim
 ·exact h.elim⟩
theorem JX:MB a X "list" "list.pop" "pop" gJ jh:=⟨SS,PySem.F.slot_list_pop,PySem.F.type_list_pop,HP⟩
end
open PySem L2
inductive l3 {α:Type} (a:α):Type where
 |mk
inductive pN {α β:Type} (a:α) (b:β):Type where
 |mk
noncomputable def vG{α β:Type}(o:aJ α)(k:α->aE->aJ β)(_:l3 k):aJ β:=o.bind k
noncomputable def bt{α:Type}(o:aJ α)(ev:Ev)(k:α->aE->Fl)(_:pN ev k):Fl:=bW o ev k
section
variable {α β:Type}{o o':aJ α}{k:α->aE->aJ β}{kf:α->aE->Fl}{a:α}{S S':aE}{c:QD}{ev e:Ev}{d x y u:U}{fa fb fc fo:FE}{ga:iu}{t t':FT}{f g:FS}{i n m:Nat}
@[simp ↓] theorem xl:o.bind k=vG o k .mk:=rfl
@[simp ↓] theorem uK:bW o ev kf=bt o ev kf .mk:=rfl
theorem oK:(aJ.ok a S).bind k=k a S:=rfl
@[simp] theorem zd{t:l3 k}:vG (.ok a S) k t=k a S:=rfl
@[simp] theorem Ah{t:l3 k}:vG (.ex c S:aJ α) k t=.ex c S:=rfl
@[simp] theorem zr{t:l3 k}:vG (.st:aJ α) k t=.st:=rfl
theorem rR:bW (.ok a S) ev kf=kf a S:=rfl
@[simp] theorem zQ{t:pN ev kf}:bt (.ok a S) ev kf t=kf a S:=rfl
@[simp] theorem xB{t:pN ev kf}:bt (.ex c S:aJ α) ev kf t=.ex c ev S:=rfl
@[simp] theorem A7{t:pN ev kf}:bt (.st:aJ α) ev kf t=.st:=rfl
noncomputable def jS(o:Fl)(g:FS)(_:l3 g):Fl:=match o with
 | .nx e S=>g e S
 |o=>o
@[simp] theorem vf:aO f g ev S=jS (f ev S) g .mk:=rfl
@[simp] theorem xh{t:l3 g}:jS (.nx e S) g t=g e S:=rfl
@[simp] theorem xw{t:l3 g}:jS (.rt d S) g t=.rt d S:=rfl
@[simp] theorem wB{t:l3 g}:jS (.ex c e S) g t=.ex c e S:=rfl
@[simp] theorem xk{t:l3 g}:jS (.bk e S) g t=.bk e S:=rfl
@[simp] theorem wK{t:l3 g}:jS (.ct e S) g t=.ct e S:=rfl
@[simp] theorem xg{t:l3 g}:jS .st g t=.st:=rfl
@[simp] theorem vV:dF (.nx e S)=.ok (.d .non) S:=rfl
@[simp] theorem v7:dF (.rt d S)=.ok d S:=rfl
@[simp] theorem vQ:dF (.ex c e S)=.ex c S:=rfl
@[simp] theorem CU{z:D}:dC z ev S=.ok (.d z) S:=rfl
@[simp] theorem Ft{h:U->aE->aJ U}:d1 h fa ev S=(fa ev S).bind h:=rfl
@[simp] theorem Ey{h:U->U->aE->aJ U}:d2 h fa fb ev S=(fa ev S).bind λx S=>(fb ev S).bind λy S=>h x y S:=rfl
@[simp] theorem LK:cW fa ev S=(fa ev S).bind kj:=rfl
@[simp] theorem yT:nu fa ev S=(fa ev S).bind lI:=rfl
@[simp] theorem Aj{b:Bool}:kj (.d (.bl b)) S=.ok b S:=rfl
@[simp] theorem vL:jb t ev S=(t ev S).bind λb S=>.ok (!b) S:=rfl
noncomputable def jc{α:Type}(b:Bool)(p q:α)(_:pN p q): α:=match b with
 |true=>p
 |false=>q
@[simp] theorem AH{α:Type}{p q:α}{t:pN p q}:jc Qr p q t=p:=rfl
@[simp] theorem Bz{α:Type}{p q:α}{t:pN p q}:jc Qv p q t=q:=rfl
@[simp] theorem vt:eJ t t' ev S=(t ev S).bind λb S=>jc b (t' ev S) (.ok Qv S) .mk:=by
 rfl
@[simp] theorem Al:iG t t' ev S=(t ev S).bind λb S=>jc b (.ok Qr S) (t' ev S) .mk:=by
 rfl
@[simp] theorem wU:ug fa ev S=(fa ev S).bind λd S=>(kj d S).bind λb S=>.ok (.d (.bl (!b))) S:=rfl
@[simp] theorem wF:sG fa fb ev S=(fa ev S).bind λd S=>(kj d S).bind λb S=>jc b (fb ev S) (.ok (.d (.bl Qv)) S) .mk:=by
 rfl
@[simp] theorem Ba:Pr fa fb ev S=(fa ev S).bind λd S=>(kj d S).bind λb S=>jc b (.ok (.d (.bl Qr)) S) (fb ev S) .mk:=by
 rfl
@[simp] theorem zX:pD t fa fb ev S=(t ev S).bind λb S=>jc b (fa ev S) (fb ev S) .mk:=by
 rfl
@[simp] theorem vD:aw ev S=.ok [] S:=rfl
@[simp] theorem uE:au fa ga ev S=(fa ev S).bind λx S=>(ga ev S).bind λxs S=>.ok (x::xs) S:=rfl
@[simp] theorem vE:dW ga ev S=(ga ev S).bind iV:=rfl
@[simp] theorem ND:b9 ga ev S=(ga ev S).bind eU:=rfl
@[simp] theorem xt{h:List U->aE->aJ U}:bQ h ga ev S=(ga ev S).bind h:=rfl
@[simp] theorem AL{R:pO}{F:Fn}:bN R F ga ev S=(ga ev S).bind λds S=>R F ds S:=rfl
@[simp] theorem xc:iQ ev S=.ok (.loc S.length) (S++[.dct []]):=rfl
@[simp] theorem wA:BD ev S=.ok (.d (.dct [])) S:=rfl
@[simp] theorem AS:hZ ev S=.nx ev S:=rfl
@[simp] theorem vm:aY i fa ev S=bW (fa ev S) ev λd S=>.nx (ev.set i (Qq d)) S:=rfl
@[simp] theorem wa:fB fa ev S=bW (fa ev S) ev λ_ S=>.nx ev S:=rfl
@[simp] theorem w8:cD fa ev S=bW (fa ev S) ev λd S=>.rt d S:=rfl
@[simp] theorem wO:zx ev S=.rt (.d .non) S:=rfl
@[simp] theorem z9:gP t f g ev S=bW (t ev S) ev λb S=>jc b (f ev S) (g ev S) .mk:=by
 rfl
@[simp] theorem zj{ds:List U}:b8 n m f ds S=if ds.length=m then dF (f (ds.map Qq++QE (n-m) Qs) S)else .st:=rfl
@[simp] theorem Cj(h:ev[i]?=Qq (Qq d)):dV i ev S=.ok d S:=by unfold dV;rw[h]
@[simp] theorem yDc:cj []=Qq []:=rfl
@[simp] theorem yCo{z:D}{us:List U}:cj (.d z::us)=(cj us).map (z::·):=rfl
@[simp] theorem yDd{us:List U}:cj (.loc n::us)=Qs:=rfl
@[simp] theorem sE{zs:List D}:cj (zs.map .d)=Qq zs:=mz zs
@[simp] theorem yDe{es:List (aR×D)}:iy (bz es)=Qq es:=Ec es
@[simp] theorem B2{γ:Type}{p q:QD}{b:γ}{r:List (QD×γ)}:TF p ((q,b)::r)=if p=q then Qq b else TF p r:=by
 rw[Zq];by_cases h:p=q
 ·subst h;simp
 ·rw[if_neg h];have:(p==q)=Qv:=by simpa using h
  rw[this]
theorem Nj{κ:Type}(n:Nat)(es:List (κ×D)):((bz es).all λe=>h8 n e.2)=Qr:=by
 unfold bz;rw[Yu];exact QM.mpr λx ω=>rfl
@[simp] theorem zU{n:Nat}{es:List (aR×D)}:iX n (.dct (bz es))=Qr:=Nj n es
theorem vR{κ:Type}{f:U->Option D}(hf:∀x,f (.d x)=Qq x):∀es:List (κ×D),bP f (bz es)=Qq es
 |[]=>rfl
 |(k,x)::r=>by
  have:bz ((k,x)::r)=(k,.d x)::bz r:=rfl;rw[this,bP,hf,vR hf r]
@[simp] theorem qW{n0 n:Nat}{x:D}:cz n0 n S (.d x)=Qq x:=by cases n<;>rfl
@[simp] theorem AZ{κ:Type}{es:List (κ×D)}:(bz es).length=es.length:=by unfold bz;rw[Z0]
@[simp] theorem wY{κ:Type}:bz ([]:List (κ×D))=[]:=rfl
@[simp] theorem uA{κ:Type}{k:κ}{x:D}{r:List (κ×D)}:bz ((k,x)::r)=(k,.d x)::bz r:=rfl
@[simp] theorem wZ:cq n []=Qr:=rfl
@[simp] theorem sC{z:cG}:cq n (z::S)=(iX n z&&cq n S):=rfl
@[simp] theorem B8{x:D}:h8 n (.d x)=Qr:=rfl
@[simp] theorem GJ{k:Nat}:h8 n (.loc k)=decide (k<n):=rfl
@[simp] theorem wu:iX n (.ins c [])=Qr:=rfl
@[simp] theorem uB{k:QD}{fs:List (QD×U)}:iX n (.ins c ((k,u)::fs))=(h8 n u&&iX n (.ins c fs)):=rfl
@[simp] theorem vN:iX n (.lst [])=Qr:=rfl
@[simp] theorem qE{us:List U}:iX n (.lst (u::us))=(h8 n u&&iX n (.lst us)):=rfl
@[simp] theorem yD1{f:U->Option D}:di f []=Qq []:=rfl
@[simp] theorem yCn{f:U->Option D}{us:List U}:di f (u::us)=match f u,di f us with|some x,Qq xs=>Qq (x::xs)|_,_=>Qs:=rfl
@[simp] theorem zO{κ:Type}{f:U->Option D}:bP f ([]:List (κ×U))=Qq []:=rfl
@[simp] theorem yf{κ:Type}{f:U->Option D}{k:κ}{us:List (κ×U)}:bP f ((k,u)::us)=match f u,bP f us with|some x,Qq xs=>Qq ((k,x)::xs)|_,_=>Qs:=rfl
@[simp] theorem yG7{z:D}(h:cq n (S'.take n)=Qr)(h2:cz n 4 S' u=Qq z):eY n (.ok u S')=.ok (.d z) (S'.take n):=by
 show(if cq n (S'.take n)=Qr then match cz n 4 S' u with|some d=>aJ.ok (U.d d) (S'.take n)|none=>.st else .st)=_;rw[if_pos h,h2]
@[simp] theorem yG8(h:cq n (S'.take n)=Qr):eY n (.ex c S')=.ex c (S'.take n):=by
 show(if cq n (S'.take n)=Qr then aJ.ex c (S'.take n)else .st)=_;rw[if_pos h]
@[simp] theorem sJ{z:D}(h:cq n (S'.take n)=Qr)(h2:cz n 4 S' (.loc n)=Qq z):j5 n (.ok (.d .non) S')=.ok (.d z) (S'.take n):=by
 show(if cq n (S'.take n)=Qr then match cz n 4 S' (.loc n)with|some d=>aJ.ok (U.d d) (S'.take n)|none=>.st else .st)=_;rw[if_pos h,h2]
theorem yH{F:Fn}{ds:List U}(h:cj ds=Qs):rC F ds S=eY S.length (F ds S):=by unfold rC;rw[h]
@[simp] theorem oN{F:Fn}{us:List U}:rC F (.loc n::us) S=eY S.length (F (.loc n::us) S):=yH rfl
@[simp] theorem yx{F:Fn}{x:D}{us:List U}:rC F (.d x::.loc n::us) S=eY S.length (F (.d x::.loc n::us) S):=yH rfl
@[simp] theorem IU{F:Fn}{x y:D}{us:List U}:rC F (.d x::.d y::.loc n::us) S=eY S.length (F (.d x::.d y::.loc n::us) S):=yH rfl
theorem gq{F:Fn}{xs:List D}{z:D}(h:F (xs.map .d) []=.ok (.d z) S'):rC F (xs.map .d) S=.ok (.d z) S:=by
 unfold rC;rw[mz];show fX (F (xs.map .d) []) S=_;rw[h];rfl
theorem vI(d:U)(es:List (aR×D))(h:bK S d=Qq (bz es))(hl:es.length<=LM):fP Qv [d] S=.ok (.d (.dct es)) S:=by
 have e:jf Qv [d] S=.ok (.d (.dct es)) S:=by
  show(match bK S d with|some es=>if Qv=Qr then aJ.ok (U.loc S.length) (S++[cG.dct es])else tM es S|none=>.st)=_;rw[h];simp[tM,hl]
 unfold fP;rw[e];rfl
noncomputable def hI(g:GT)(b:FS):List U->Ev->aE->Fl
 |[],ev,S=>.nx ev S
 |d::r,ev,S=>match g d ev with
  |some ev'=>match b ev' S with
   | .nx e S=>hI g b r e S
   | .ct e S=>hI g b r e S
   | .bk e S=>.nx e S
   | .rt d S=>.rt d S
   | .ex c e S=>.ex c e S
   | .st=>.st
  |none=>.st
theorem ya{g:GT}{b:FS}(ds:List U):∀(r k:Nat) (ev:Ev) (S:aE),r+k=ds.length->eM (.items ds) g b r k ev S=hI g b (ds.drop k) ev S
 | 0,k,ev,S,h=>by
  have:ds[k]?=Qs:=by rw[Q2];omega
  rw[eM,UE (by omega)];simp[i5,this,hI]
 |r+1,k,ev,S,h=>by
  have hk:k<ds.length:=by omega
  rw[eM,Uk hk,hI];simp only[i5,Z2 hk];cases g ds[k] ev with
  |none=>rfl
  |some ev' =>
   simp only;cases hb:b ev' S with
   |nx e S=>simp only;exact ya ds r (k+1) e S (by omega)
   |ct e S=>simp only;exact ya ds r (k+1) e S (by omega)
   |_=>rfl
theorem HK{g:GT}{b:FS}{ds:List U}:eM (.items ds) g b ds.length 0 ev S=hI g b ds ev S:=ya ds ds.length 0 ev S rfl
@[simp] theorem CC{fi:FI}{g:GT}{b:FS}:dP fi g b ev S=bW (fi ev S) ev λit S=>eM it g b (dY it S) 0 ev S:=rfl
@[simp] theorem vU{g:GT}{b:FS}{ds:List U}:eM (.items ds) g b (dY (.items ds) S') 0 ev S=hI g b ds ev S:=HK
noncomputable def dy(g:GT)(t:FT)(f:FE)(ev:Ev):List U->List U->aE->aJ (List U)
 |[],acc,S=>.ok acc S
 |d::r,acc,S=>match g d ev with
  |some ev'=>(t ev' S).bind λb S=>match b with
   |true=>(f ev' S).bind λy S=>dy g t f ev r (acc++[y]) S
   |false=>dy g t f ev r acc S
  |none=>.st
theorem uO{g:GT}{t:FT}{f:FE}{ev:Ev}(ds:List U):∀(r k:Nat) (acc:List U) (S:aE),r+k=ds.length->fv (.items ds) g t f ev r k acc S=dy g t f ev (ds.drop k) acc S
 | 0,k,acc,S,h=>by
  have:ds[k]?=Qs:=by rw[Q2];omega
  rw[fv,UE (by omega)];simp[i5,this,dy]
 |r+1,k,acc,S,h=>by
  have hk:k<ds.length:=by omega
  rw[fv,Uk hk,dy];simp only[i5,Z2 hk];cases g ds[k] ev with
  |none=>rfl
  |some ev' =>
   simp only
   congr
   funext b S;cases b with
   |true=>simp only;congr;funext y S;exact uO ds r (k+1) _ S (by omega)
   |false=>exact uO ds r (k+1) _ S (by omega)
theorem GF{g:GT}{t:FT}{f:FE}{ev:Ev}{S:aE}(p:U->Bool)(q:U->U):∀(ds acc:List U),(∀d∈ds,∃ev',g d ev=Qq ev'/\t ev' S=.ok (p d) S/\(p d=Qr->f ev' S=.ok (q d) S))->dy g t f ev ds acc S=.ok (acc++(ds.filter p).map q) S
 |[],acc,_=>by simp[dy]
 |d::r,acc,h=>by
  obtain⟨ev',h1,h2,h3⟩:=h d Za;rw[dy,h1];simp only[h2,oK];have ih:=λacc=>GF p q r acc λx hx=>h x (Z4 _ hx);cases hp:p d with
  |true=>simp only[h3 hp,oK];rw[ih];simp[hp]
  |false=>simp only;rw[ih];simp[hp]
theorem Ka{T:Nat}{fi:FI}{g:GT}{t:FT}{f:FE}{ev:Ev}{S:aE}{ds:List U}(p:U->Bool)(q:U->U)(hi:fi ev S=.ok (.items ds) S)(hl:ds.length<=LM)(h:∀d∈ds,∃ev',g d (ev++QE T Qs)=Qq ev'/\t ev' S=.ok (p d) S/\(p d=Qr->f ev' S=.ok (q d) S)):aK T fi g t f ev S=eU ((ds.filter p).map q) S:=by
 unfold aK;rw[hi];simp only[oK];rw[if_pos (show dY (.items ds) S<=LM from hl),show dY (.items ds) S=ds.length from rfl,uO ds ds.length 0 [] S rfl,UW,GF p q ds [] h];rfl
end
section
variable {S:aE}{i j:Int}{a b:QD}{n:Nat}
@[simp] theorem z8:cN (.d (.int i)) (.d (.int j)) S=.ok (.d (.int (i+j))) S:=rfl
@[simp] theorem Az:i0 (.d (.int i)) (.d (.int j)) S=.ok (.d (.int (i-j))) S:=rfl
theorem p6(h:0<j):ie (.d (.int i)) (.d (.int j)) S=.ok (.d (.int (i%j))) S:=by
 show(if decide (0<j)=Qr then aJ.ok (U.d (D.int (i%j))) S else .st)=_;rw[if_pos (decide_eq_true h)]
theorem tf(h:0<j)(h':j<2^64):jT (.d (.int i)) (.d (.int j)) S=.ok (.d (.int (i/j))) S:=by
 show(if(decide (0<j)&&decide (j<2^64))=Qr then aJ.ok (U.d (D.int (i/j))) S else .st)=_;rw[if_pos (by rw[decide_eq_true h,decide_eq_true h'];rfl)]
theorem EN(h:bJ j=Qr):dI (.d (.int i)) (.d (.int j)) S=.ok (.d (.int (i*j))) S:=by
 have:ly (.d (.int i)) (.d (.int j)) S=.ok (.d (.int (i*j))) S:=by
  show(if(bJ i||bJ j)=Qr then aJ.ok (U.d (D.int (i*j))) S else .st)=_;rw[if_pos (by simp[h])]
 unfold dI;rw[this];rfl
@[simp] theorem CV:GD (.d (.int i)) (.d (.int j)) S=.ok (.d (.bl (decide (i<j)))) S:=rfl
@[simp] theorem Gn:Ew (.d (.int i)) (.d (.int j)) S=.ok (.d (.bl (decide (i<=j)))) S:=rfl
@[simp] theorem Cp:k7 (.d (.int i)) (.d (.int j)) S=.ok (.d (.bl (decide (j<i)))) S:=rfl
@[simp] theorem GP:Nf (.d (.int i)) (.d (.int j)) S=.ok (.d (.bl (decide (j<=i)))) S:=rfl
@[simp] theorem Fw:gU (.d (.int i)) (.d (.int j)) S=.ok (.d (.bl (decide (i=j)))) S:=by simp[gU,uu,p5,nZ,sN,lH,aJ.or]
@[simp] theorem G4:gU (.d (.str a)) (.d (.str b)) S=.ok (.d (.bl (decide (a=b)))) S:=by simp[gU,uu,p5,nZ,sN,lH,aJ.or]
@[simp] theorem DU:gU (.d .non) (.d .non) S=.ok (.d (.bl Qr)) S:=rfl
@[simp] theorem Cq:gU (.d (.int i)) (.d .non) S=.ok (.d (.bl Qv)) S:=rfl
@[simp] theorem FL:gU (.d .non) (.d (.int i)) S=.ok (.d (.bl Qv)) S:=rfl
@[simp] theorem Gb:gU (.d (.str a)) (.d .non) S=.ok (.d (.bl Qv)) S:=rfl
@[simp] theorem EF:gU (.d .non) (.d (.str a)) S=.ok (.d (.bl Qv)) S:=rfl
@[simp] theorem D0:fZ (.d (.int i)) (.d (.int j)) S=.ok (.d (.bl (!decide (i=j)))) S:=by simp[fZ,pd,n6,nZ,sN,lH,aJ.or]
@[simp] theorem BR:fZ (.d (.str a)) (.d (.str b)) S=.ok (.d (.bl (!decide (a=b)))) S:=by simp[fZ,pd,n6,nZ,sN,lH,aJ.or]
@[simp] theorem Fg:fZ (.d .non) (.d .non) S=.ok (.d (.bl Qv)) S:=rfl
@[simp] theorem Ga:fZ (.d (.int i)) (.d .non) S=.ok (.d (.bl Qr)) S:=rfl
@[simp] theorem DD:fZ (.d .non) (.d (.int i)) S=.ok (.d (.bl Qr)) S:=rfl
@[simp] theorem D4:fZ (.d (.str a)) (.d .non) S=.ok (.d (.bl Qr)) S:=rfl
@[simp] theorem EZ:fZ (.d .non) (.d (.str a)) S=.ok (.d (.bl Qr)) S:=rfl
@[simp] theorem yi{neg:Bool}{u:U}:fj neg u (.d .non) S=.ok (.d (.bl (XJ neg (h9 u)))) S:=rfl
@[simp] theorem AR:h9 (.d .non)=Qr:=rfl
@[simp] theorem z7:h9 (.d (.str a))=Qv:=rfl
@[simp] theorem Bx:h9 (.d (.int i))=Qv:=rfl
@[simp] theorem yM{xs:List D}:h9 (.d (.tup xs))=Qv:=rfl
@[simp] theorem Ex{b:Bool}:lI (.d (.bl b)) S=.ok b S:=rfl
@[simp] theorem EJ:lI (.d .non) S=.ok Qv S:=rfl
@[simp] theorem j2{x:D}{xs:List D}:bF (.d (.tup (x::xs))) (.d (.int 0)) S=.ok (.d x) S:=by
 simp[bF,bK,fM,iS]
@[simp] theorem mO{x y:D}{xs:List D}:bF (.d (.tup (x::y::xs))) (.d (.int 1)) S=.ok (.d y) S:=by
 have e:iS (xs.length+1+1) 1=Qq 1:=by
  unfold iS;rw[if_pos (by decide),if_pos (by omega)];rfl
 simp[bF,bK,fM,e]
end
end L2.F
namespace My
open PySem PySem.Spec PyProof.Rows L2 L2.F
noncomputable def cH:QD:="abcdefghijklmnopqrstuvwxyz"
noncomputable def gz(c:Nat):Bool:=decide (c∈cH.cps.toList)
noncomputable def bu(x:QD):Bool:=decide (1<=x.length)&&(decide (x.length<=8)&&x.cps.toList.all gz)
theorem qv(h:bu x=Qr):1<=x.length/\x.length<=8/\∀c∈x.cps.toList,gz c=Qr:=by
 unfold bu at h;rw[Zl,Zl,decide_eq_true_eq,decide_eq_true_eq,Zp]at h;exact h
noncomputable abbrev Pa:=List (QD×Nat)
structure PathOk(p:Pa):Prop where
 ne:p≠[]
 le:p.length<=10
 ok:∀q∈p,bu q.1=Qr/\q.2<=999999
theorem Kx(h:bu x=Qr):gh 46 x:=λd b e=>by
 have a:=(qv h).2.2 d b;rw[e]at a;exact absurd a (by decide +kernel)
theorem Lb(n:Nat):gh 46 (bw n):=λd a e=>by
 have:=Ab a;omega
theorem rJ{R:QD->Prop}:∀ {p:Pa},(∀q∈p,R q.1/\R (bw q.2))->∀w∈aC p,R w
 |[],_,w,b=>nomatch b
 |(k,n)::t,h,w,b=>by
  have a:=h (k,n) Za;rcases QL.mp b with e|b
  ·rw[e];exact a.1
  ·rcases QL.mp b with e|b
   ·rw[e];exact a.2
   ·exact rJ (λq c=>h q (Z4 _ c)) w b
theorem HD(h:p≠[]):aC p≠[]:=λe=>h (by
 have:=mG p;rw[e]at this
 cases p<;>simp_all)
theorem PathOk.free(h:PathOk p):∀w∈aC p,gh 46 w:=rJ λq a=>⟨Kx (h.ok q a).1,Lb q.2⟩
theorem PathOk.split(h:PathOk p):R4 (ax p) "." = aC p:=by
 rw[Ll];exact MS h.free (HD h.ne)
theorem PathOk.le8(h:PathOk p):∀w∈aC p,w.length<=8:=rJ λq a=>⟨(qv (h.ok q a).1).2.1,Z9 (wk (h.ok q a).2) (by decide)⟩
theorem PathOk.len(h:PathOk p):(ax p).length<=180:=by
 have a:=Cw (s:=".") (by decide +kernel) h.le8;rw[mG]at a;have:=h.le;unfold ax;omega
theorem FK(b:Q9 x=Qr)(d:Q9 y=Qr):Q9 (x++y)=Qr:=by
 rw[kH]at *;intro c a;rw[j8,QO]at a;exact a.elim (b c) (d c)
theorem BH(h:bu x=Qr):Q9 x=Qr:=by
 rw[kH];intro c a;have:=(qv h).2.2 c a;exact(kH cH).mp (by decide +kernel) c (of_decide_eq_true this)
theorem C2(n:Nat):Q9 (bw n)=Qr:=by
 rw[kH];intro c a;have b:=Ab a
 grind
theorem BJ(b:Q9 s=Qr):∀ {a:List QD},(∀w∈a,Q9 w=Qr)->Q9 (Rv s a)=Qr
 |[],_=>by show Q9 R5=Qr;decide +kernel
 |[w],h=>h w (by simp)
 |w::d::a,h=>by
  exact FK (FK (h w (by simp)) b) (BJ b λx c=>h x (Z4 _ c))
theorem vH(a:x.length<=100000)(b:Q9 x=Qr):dZ x=Qr:=by
 unfold dZ
 simp_all
theorem GV(h:bu x=Qr):dZ x=Qr:=vH (by have:=(qv h).2.1;omega) (BH h)
theorem PathOk.sok(h:PathOk p):Q9 (ax p)=Qr:=BJ (by decide +kernel) (rJ λq a=>⟨BH (h.ok q a).1,C2 q.2⟩)
theorem PathOk.txt(h:PathOk p):dZ (ax p)=Qr:=vH (by have:=h.len;omega) h.sok
theorem FM(h:n<=999999):dZ (bw n)=Qr:=vH (by have:=wk h;omega) (C2 n)
theorem OM(a:PathOk p)(b:PathOk q)(h:ax p=ax q):aC p=aC q:=by rw[<- a.split,<- b.split,h]
theorem mJ(h:∀x∈d,x.length<=8)(k:d.length<=100):SE "." d=Qr:=by
 have d1:("." : QD).length=1:=by decide +kernel
 have b:∀(l:List QD) (n:Nat),(∀x∈l,x.length<=8)->l.foldl (λa x=>a+x.length+("." : QD).length) n<=n+l.length*9:=by
  intro l
  induction l with
  |nil=>intro n _;exact Z3 _
  |cons c r i =>
   intro n e;have f:=i (n+c.length+("." : QD).length) λx g=>e x (Z4 _ g);have j:=e c Za;rw[Zz,Zg];rw[d1]at f ⊢;omega
 have:=b d 0 h;have m:900<QG:=(by decide +kernel);unfold SE;rw[XE];unfold Wi;simp;omega
open PySem L2 L2.F
section
@[simp] theorem Gq{α:Type}{a:α}{o:aJ α}:(aJ.ok a S).or o=.ok a S:=rfl
@[simp] theorem Ek{α:Type}{o:aJ α}:(aJ.st:aJ α).or o=o:=rfl
theorem hW(h:ds.length<=LM):eU (ds.map .d) S=.ok (.d (.lst ds)) S:=by
 unfold eU;rw[mz];simp[h]
theorem H7(b:List D)(p:D->Bool)(q:D->D)(i:fi ev S=.ok (.items (b.map .d)) S)(j:b.length<=LM)(h:∀d∈b,∃a,g (.d d) (ev++QE T Qs)=Qq a/\t a S=.ok (p d) S/\(p d=Qr->f a S=.ok (.d (q d)) S)):aK T fi g t f ev S=.ok (.d (.lst ((b.filter p).map q))) S:=by
 have z:=Ka (λu=>match u with | .d d=>p d | _=>Qv) (λu=>match u with | .d d=>.d (q d) | u=>u) i (by simp_all) (λu k=>by
  obtain⟨d,c,rfl⟩:=Qx.mp k
  exact h d c)
 rw[z];have e:((b.map U.d).filter λu=>match u with|.d d=>p d|_=>Qv)=(b.filter p).map U.d:=by
  rw[List.filter_map];rfl
 rw[e,Z7];rw[show((λu=>match u with|.d d=>U.d (q d)|u=>u) ∘ U.d)=U.d ∘ q from rfl,<- Z7];exact hW (by rw[Z0];exact Z9 (Zw _ _) j)
theorem qc(b:List D)(q:D->D)(k:fi ev S=.ok (.items (b.map .d)) S)(l:b.length<=LM)(h:∀d∈b,∃a,g (.d d) (ev++QE T Qs)=Qq a/\f a S=.ok (.d (q d)) S):aK T fi g dE f ev S=.ok (.d (.lst (b.map q))) S:=by
 have z:=H7 (t:=dE) b (λ_=>Qr) q k l λd j=>let⟨e,c,i⟩:=h d j;⟨e,c,rfl,λ_=>i⟩;rw[z,SN.mpr λ_ ω=>rfl]
theorem FW:∀a ,lX ((a.map D.bl).map U.d)=Qq a
 |[]=>rfl
 |b::r=>by
  show(lX ((r.map D.bl).map U.d)).map (b::·)=_;rw[FW r];rfl
theorem nN{a:List Bool}:i4 lA [.d (.lst (a.map .bl))] S=.ok (.d (.bl (a.all id))) S:=by
 show lA ((a.map D.bl).map U.d) S=_;unfold lA;rw[FW]
theorem qt:∀a ,dw ((a.map D.str).map U.d)=Qq a
 |[]=>rfl
 |b::r=>by
  show(dw ((r.map D.str).map U.d)).map (b::·)=_;rw[qt r];rfl
theorem p0{x:QD}:bZ [.d (.str x)] S=.ok (.d (.int x.length)) S:=rfl
theorem k8:bZ [.d (.lst xs)] S=.ok (.d (.int xs.length)) S:=by
 simp[bZ,mV,lN,b0,iK]
theorem yJ:bZ [.d (.tup a)] S=.ok (.d (.int a.length)) S:=by
 rfl
theorem r9:jx (.d (.str ⟨#[c]⟩)) (.d (.str t)) S=.ok (.d (.bl (decide (c∈t.cps.toList)))) S:=by
 have e:l0 Qv (.d (.str ⟨#[c]⟩)) (.d (.str t)) S=.ok (.d (.bl (decide (c∈t.cps.toList)))) S:=by
  show aJ.ok (U.d (.bl (XJ Qv (!(QR t ⟨#[c]⟩ 0 t.length 1).isEmpty)))) S=_;rw[Za9];simp
 unfold jx;rw[e];rfl
noncomputable def dK{a:Type}(n:a->QD)(v:a->D)(l:List a):List (aR×D):=l.map λx=>(.inr (n x),v x)
theorem pQ:∀l ,b6 (bz (dK n v l)) (.inr k)=(l.find? λx=>decide (n x=k)).map λx=>.d (v x)
 |[]=>rfl
 |a::r=>by
  have b:=pQ (n:=n) (v:=v) (k:=k) r;unfold b6 at b ⊢;show(List.find? _ ((Ua (n a),U.d (v a))::bz (dK n v r))).map _=_;rw[Yr,Yr];by_cases h:n a=k
  ·simp[h]
  ·simp[h,b]
theorem Dt(h:PathOk p):g8 (.d (.str (ax p))) [.d (.str ".")] S=.ok (.d (.lst ((aC p).map .str))) S:=by
 have l:(("." : QD).length==0)=Qv:=by decide +kernel
 have t:gY (R4 (ax p) ".")=Qr:=by
  rw[h.split];exact QM.mpr (rJ λq a=>⟨GV (h.ok q a).1,FM (h.ok q a).2⟩)
 have n:(R4 (ax p) ".").length<=LM:=by
  rw[h.split,mG];have:=h.le;have:LM=1000000:=rfl;omega
 show(if(("." : QD).length==0)=Qv/\gY (R4 (ax p) ".")=Qr/\(R4 (ax p) ".").length<=LM then _ else _)=_;rw[if_pos ⟨l,t,n⟩,h.split]
theorem zl(a:∀x,f (.d x)=Qq x):∀b ,di f (b.map .d)=Qq b
 |[]=>rfl
 |x::r=>by rw[Z8,di,a,zl a r]
theorem vj:cZ n S (.d x)=Qq x:=by cases n<;>rfl
theorem E3(h:S[n]?=Qq (.lst (xs.map .d))):hQ S (.loc n)=Qq (.lst xs):=by
 show(match S[n]? with|some (.lst e)=>(di (cZ 3 S) e).map D.lst|some (.dct a)=>(bP (cZ 3 S) a).map D.dct|some (.ins c b)=>(bP (cZ 3 S) b).map (D.obj c)|_=>Qs)=_;rw[h];simp only;rw[zl λx=>vj];rfl
@[simp] theorem AO{x y:List D}(h:x.length+y.length<=LM):cN (.d (.tup x)) (.d (.tup y)) S=.ok (.d (.tup (x++y))) S:=by
 have:jH (.d (.tup x)) (.d (.tup y)) S=.ok (.d (.tup (x++y))) S:=by
  show(if x.length+y.length<=LM then _ else _)=_;rw[if_pos h]
 show(aJ.st).or ((aJ.st).or ((jH (.d (.tup x)) (.d (.tup y)) S).or _))=_;rw[this];rfl
theorem sZ{xs:List D}(h:F (xs.map .d) []=.ok u S')(a:hQ S' u=Qq z):rC F (xs.map .d) S=.ok (.d z) S:=by
 unfold rC;rw[mz];show fX (F (xs.map .d) []) S=_;rw[h];show(match hQ S' u with|some d=>aJ.ok (U.d d) S|none=>.st)=_;rw[a]
theorem CK{c:Type}(f:c->U)(p:c->Bool)(q:c->D):∀(e:List c)  a ,(∀x∈e,∃b,g (f x) i=Qq b/\t b S=.ok (p x) S/\(p x=Qr->j b S=.ok (.d (q x)) S))->dy g t j i (e.map f) a S=.ok (a++((e.filter p).map q).map .d) S
 |[],a,_=>by simp[dy]
 |x::r,a,h=>by
  obtain⟨b,k,l,n⟩:=h x Za;rw[Z8,dy,k];simp only[l,oK];have s:=λa=>CK f p q r a λx m=>h x (Z4 _ m);cases o:p x<;>simp_all
theorem mZ{c:Type}(a:List c)(f:c->D)(p:c->Bool)(q:c->D)(i:fi ev S=.ok (.items ((a.map f).map .d)) S)(e:a.length<=LM)(h:∀x∈a,∃b,g (.d (f x)) (ev++QE T Qs)=Qq b/\t b S=.ok (p x) S/\(p x=Qr->fe b S=.ok (.d (q x)) S)):aK T fi g t fe ev S=.ok (.d (.lst ((a.filter p).map q))) S:=by
 unfold aK;rw[i];simp only[oK];have j:((a.map f).map U.d).length=a.length:=by simp_all
 rw[if_pos (show dY (.items ((a.map f).map U.d)) S<=LM by show((a.map f).map U.d).length<=LM;rw[j];exact e),show dY (.items ((a.map f).map U.d)) S=((a.map f).map U.d).length from rfl,uO _ _ 0 [] S rfl,UW,Z7,CK (U.d ∘ f) p q a [] h];exact hW (by rw[Z0];exact Z9 (Zw _ _) e)
end
section
mutual
theorem yN:∀ {x:D}{p:SR},gX x=Qq p->Q5 p p=Qr
 | .non,p,h=>by cases h;simp[Q5]
 | .bl b,p,h=>by cases h;simp[Q5]
 | .int i,p,h=>by cases h;simp[Q5]
 | .str i,p,h=>by cases h;simp[Q5]
 | .tup xs,p,h=>by
  obtain⟨ps,e,rfl⟩:=QA.mp (show(toPs xs).map SB=Qq p from h)
  simpa[Q5]using eqvs_self e
 | .lst xs,p,h=>by
  obtain⟨ps,e,rfl⟩:=QA.mp (show(toPs xs).map RV=Qq p from h)
  simpa[Q5]using eqvs_self e
 | .frl xs,p,h=>by
  obtain⟨ps,e,rfl⟩:=QA.mp (show(toPs xs).map RV=Qq p from h)
  simpa[Q5]using eqvs_self e
 | .dct _,p,h=>by cases h
 | .obj _ _,p,h=>by cases h
theorem eqvs_self:∀ {xs:List D}{ps:List SR},toPs xs=Qq ps->Sm ps ps=Qr
 |[],ps,h=>by cases h;simp[Sm]
 |x::r,ps,h=>by
  have h:(match gX x with|some p=>(toPs r).map (p::·)|none=>Qs)=Qq ps:=h;split at h
  ·next p e =>
   obtain⟨qs,e2,rfl⟩:=QA.mp h;simp[Sm,yN e,eqvs_self e2]
  ·cases h
end
noncomputable def mK(x:D):Bool:=match x with
 | .tup _=>Qr
 | .lst _=>Qr
 | .frl _=>Qr
 |_=>Qv
theorem yG(h:mK x=Qr):nZ (.d x) (.d y)=Qs:=by cases x<;>first|(cases h;done)|rfl
theorem Ls(c:mK x=Qr)(h:gX x=Qq p)(a:p.depth<=60):fZ (.d x) (.d x) S=.ok (.d (.bl Qv)) S:=by
 have e:lb Qr (.d x) (.d x) S=.ok (.d (.bl Qv)) S:=by
  unfold lb;rw[show f5 S (.d x)=Qq p from h];simp only;rw[if_pos ⟨a,a⟩,yN h];rfl
 have b:n6 (.d x) (.d x) S=.st:=by unfold n6 lH;rw[yG c]
 unfold fZ pd;rw[b,e];rfl
theorem Ik(f:mK x=Qr)(h:gX x=Qq p)(b:gX y=Qq q)(g:p.depth<=60)(c:q.depth<=60):gU (.d x) (.d y) S=.ok (.d (.bl (Q5 p q))) S:=by
 have e:lb Qv (.d x) (.d y) S=.ok (.d (.bl (Q5 p q))) S:=by
  unfold lb;rw[show f5 S (.d x)=Qq p from h,show f5 S (.d y)=Qq q from b]
  simp_all
 have a:p5 (.d x) (.d y) S=.st:=by unfold p5 lH;rw[yG f]
 unfold gU uu;rw[a,e];rfl
theorem Kn(f:mK x=Qr)(h:gX x=Qq p)(b:gX y=Qq q)(g:p.depth<=60)(c:q.depth<=60):fZ (.d x) (.d y) S=.ok (.d (.bl (!PyData.eqv p q))) S:=by
 have e:lb Qr (.d x) (.d y) S=.ok (.d (.bl (!PyData.eqv p q))) S:=by
  unfold lb;rw[show f5 S (.d x)=Qq p from h,show f5 S (.d y)=Qq q from b]
  simp_all
 have a:n6 (.d x) (.d y) S=.st:=by unfold n6 lH;rw[yG f]
 unfold fZ pd;rw[a,e];rfl
noncomputable def tD(a:List QD):D:=.tup (a.map .str)
theorem vB:∀b:List QD,toPs (b.map D.str)=Qq (b.map Vd)
 |[]=>rfl
 |a::r=>by
  show(match gX (.str a)with|some p=>(toPs (r.map D.str)).map (p::·)|none=>Qs)=_;rw[vB r];rfl
theorem A3:∀ {a:List SR}{n:Nat},(∀p∈a,p.depth<=n)->Q4 a<=n
 |[],n,_=>by simp[Q4]
 |p::r,n,h=>by
  have c:=h p Za;have d:=A3 λq b=>h q (Z4 _ b);simp only[Q4];omega
theorem G6(b:List QD):Q4 (b.map Vd)<=1:=A3 λp a=>by
 obtain⟨x,_,rfl⟩:=Qx.mp a;simp[RA]
theorem HZ(a:List QD):gX (tD a)=Qq (.tuple (a.map .str)):=by
 show(toPs (a.map D.str)).map SB=_;rw[vB];rfl
theorem xU(a:List QD):gX (.lst (a.map .str))=Qq (.list (a.map .str)):=by
 show(toPs (a.map D.str)).map RV=_;rw[vB];rfl
theorem Dj:∀b:List (List QD),toPs (b.map tD)=Qq (b.map λa=>.tuple (a.map .str))
 |[]=>rfl
 |a::r=>by
  show(match gX (tD a)with|some p=>(toPs (r.map tD)).map (p::·)|none=>Qs)=_;rw[HZ,Dj r];rfl
theorem CA:∀a b:List QD,Sm (a.map .str) (b.map .str)=decide (a=b)
 |[],[]=>by simp[Sm]
 |[],_::_=>by simp[Sm]
 |_::_,[]=>by simp[Sm]
 |x::a,y::b=>by
  have e:Q5 (.str x) (.str y)=decide (x=y):=by
   rfl
  simp only[Z8,Sm,e,CA a b]
  simp_all
theorem LO(a:List QD):(SB (a.map .str)).depth<=2:=by
 have:=G6 a;simp[RA];omega
theorem t8(a:List QD):(RV (a.map .str)).depth<=2:=by
 have:=G6 a;simp[RA];omega
theorem Li(b:List (List QD)):(RV (b.map λa=>.tuple (a.map .str))).depth<=3:=by
 have:Q4 (b.map λa=>SB (a.map .str))<=2:=A3 λp c=>by
  obtain⟨x,_,rfl⟩:=Qx.mp c;exact LO x
 simp[RA];omega
theorem ET(x:QD)(b:List QD):((b.map Vd).any λy=>Q5 y (.str x))=decide (x∈b):=by
 induction b with
 |nil=>rfl
 |cons a r d =>
  rw[Z8,Vj,d];have:Q5 (.str a) (.str x)=decide (a=x):=by
   rfl
  rw[this];by_cases h:a=x
  ·subst h;simp
  ·have c:¬x=a:=λz=>h z.symm;simp[h,c]
theorem Dq{a:List QD}:kq b (.d (.str x)) (.d (.lst (a.map .str))) S=.ok (.d (.bl (XJ b (decide (x∈a))))) S:=by
 unfold kq;rw[show f5 S (.d (.str x))=Qq (.str x)from rfl,show f5 S (.d (.lst (a.map .str)))=Qq (.list (a.map .str))from xU a];simp only[jX];rw[if_pos ⟨by simp[RA],Z9 (t8 a) (by decide)⟩,ET]
theorem FG{ks:List QD}:jx (.d (.str x)) (.d (.lst (ks.map .str))) S=.ok (.d (.bl (decide (x∈ks)))) S:=by
 have e:kq Qv (.d (.str x)) (.d (.lst (ks.map .str))) S=.ok (.d (.bl (decide (x∈ks)))) S:=by rw[Dq];simp
 show(aJ.st).or ((aJ.st).or (kq Qv (.d (.str x)) (.d (.lst (ks.map .str))) S))=_;rw[e];rfl
theorem GY{ks:List QD}:kC (.d (.str x)) (.d (.lst (ks.map .str))) S=.ok (.d (.bl (!decide (x∈ks)))) S:=by
 have e:kq Qr (.d (.str x)) (.d (.lst (ks.map .str))) S=.ok (.d (.bl (!decide (x∈ks)))) S:=by rw[Dq];simp
 show(aJ.st).or ((aJ.st).or (kq Qr (.d (.str x)) (.d (.lst (ks.map .str))) S))=_;rw[e];rfl
theorem tK(h:bK S u=Qq a):jx (.d (.str x)) u S=.ok (.d (.bl (b6 a (.inr x)).isSome)) S:=by
 have b:l0 Qv (.d (.str x)) u S=.st:=by cases u with
  |d z=>cases z<;>first|rfl|(cases h;done)
  |loc _=>rfl
 have e:lg Qv (.d (.str x)) u S=.ok (.d (.bl (b6 a (.inr x)).isSome)) S:=by
  unfold lg;rw[h];simp[fU]
 unfold jx;rw[b,e];rfl
theorem CH(h:bK S u=Qq es):kC (.d (.str x)) u S=.ok (.d (.bl (!(b6 es (.inr x)).isSome))) S:=by
 have a:l0 Qr (.d (.str x)) u S=.st:=by cases u with
  |d z=>cases z<;>first|rfl|(cases h;done)
  |loc _=>rfl
 have e:lg Qr (.d (.str x)) u S=.ok (.d (.bl (!(b6 es (.inr x)).isSome))) S:=by
  unfold lg;rw[h];simp[fU]
 unfold kC;rw[a,e];rfl
end
section
theorem zY(h:F (.loc 0::(xs++dd).map .d) [.ins c []]=.ok (.d .non) [.ins c (bz a)])(f:e b S=.ok (xs.map .d) S):eC c F dd e b S=.ok (.d (.obj c a)) S:=by
 unfold eC;rw[f];simp only[oK,mz];rw[h];show(match hQ [.ins c (bz a)] (.loc 0)with|some d=>aJ.ok (U.d d) S|none=>.st)=_;have s:hQ [.ins c (bz a)] (.loc 0)=Qq (.obj c a):=by
  show(bP (cZ 3 [.ins c (bz a)]) (bz a)).map (D.obj c)=_;rw[vR λx=>vj];rfl
 rw[s]
theorem yw(h:cq N S=Qr)(a:iX N c=Qr):cq N (S.set n c)=Qr:=by
 unfold cq at h ⊢;rw[Zp]at h ⊢
 grind
noncomputable abbrev src(a b c:Int):cG:=.lst [.d (.int a),.d (.int b),.d (.int c)]
noncomputable def fR(S:aE)(n:Nat):Prop:=∃a b c,S[n]?=Qq (src a b c)
theorem mT(h:F (.loc n::c) S=.ok (.d d) a)(b:a.length=S.length)(e:cq S.length a=Qr):rC F (.loc n::c) S=.ok (.d d) a:=by
 have t:a.take S.length=a:=by rw[<- b];exact Y8
 simp_all
theorem Bm(h:F (.loc n::b) S=.ok u (a++R))(e:a.length=S.length)(c:cq S.length a=Qr)(f:cz S.length 4 (a++R) u=Qq d):rC F (.loc n::b) S=.ok (.d d) a:=by
 simp_all
end
theorem MG{j:Nat}:(Sf y Qs (Qq  j )).cps.toList=y.cps.toList.take j:=by
 have a:∀j ,j<=y.length->(Sf y Qs (Qq  j )).cps.toList=y.cps.toList.take j:=λj h=>by
  have:=beq_iff_eq.mp (Zbf (x:=y) (j:=j ) ⟨by omega,by rw[tR];omega⟩);rw[this];simp
 by_cases h:j<=y.length
 ·exact a j h
 ·have e:Sf y Qs (Qq  j )=Sf y Qs (Qq  y.length ):=by
   unfold Sf;rw[Zbg y.length (by omega)]
  rw[e,a _ (Z3 _),Rj (by rw[tR];exact Z3 _),Rj (by rw[tR];omega)]
noncomputable def bD(i:Nat):Stmt:=PySem.Challenge.pw_cometorest_k17_whole_wishes_from_any_row.main.body.getD i (.Pass ⟨0,0,0,0⟩)
noncomputable def ct:kI:=[("Kind",["name", "fields", "owner"]),("Kinds",["by_name"]),("Wishes",["kinds", "rows", "by_name"])]
noncomputable def cX:List QD:=["Kind", "Kinds", "Wishes"]
noncomputable def qj:List (QD×QD):=[("Kind", "Kind"),("Kinds", "Kinds")]
noncomputable def N2:List (QD×QD):=[]
noncomputable def T:Tx:=⟨ct,["Kind", "Kinds"],qj,["NoKind", "NoName", "NoWish", "TooMany"],N2,["all", "bool", "dict", "enumerate", "int", "isinstance", "len", "list", "min", "range", "set", "sorted", "str", "sum", "tuple", "zip"],[("MOST_FIGURES",6),("MOST_LETTERS",8),("MOST_MANY",60),("MOST_NUMBER",999999),("MOST_STATES",8),("MOST_WISHED",60)],[("FIGURES", "0123456789"),("LETTERS", "abcdefghijklmnopqrstuvwxyz")],["Kind", "Kinds", "Wishes", "RestError", "NoKind", "TooMany", "NoName", "NoWish"],[⟨"", "_law_digits", "_law_digits",bD 46⟩,⟨"", "_law_mixed", "_law_mixed",bD 45⟩,⟨"", "_law_next", "_law_next",bD 47⟩,⟨"", "_law_sign", "_law_sign",bD 48⟩,⟨"", "_law_names", "_law_names",bD 49⟩,⟨"", "_law_fields", "_law_fields",bD 50⟩,⟨"", "_law_specs", "_law_specs",bD 51⟩,⟨"", "placed_by_owners", "placed_by_owners",bD 21⟩,⟨"", "is_name", "is_name",bD 11⟩,⟨"", "are_unlike_names", "are_unlike_names",bD 13⟩,⟨"", "are_kinds", "are_kinds",bD 20⟩,⟨"Kinds", "__init__", "Kinds.__init__",aW (bD 22) 0⟩,⟨"", "is_pair_with_values", "is_pair_with_values",bD 14⟩,⟨"", "are_fields", "are_fields",bD 15⟩,⟨"", "count_states", "count_states",bD 16⟩,⟨"Kind", "__init__", "Kind.__init__",aW (bD 17) 0⟩,⟨"", "_law_made", "_law_made",bD 53⟩,⟨"", "_law_cares", "_law_cares",bD 54⟩,⟨"", "_law_rows", "_law_rows",bD 55⟩,⟨"", "_law_many", "_law_many",bD 57⟩,⟨"", "_law_few_rows", "_law_few_rows",bD 58⟩,⟨"", "is_written_number", "is_written_number",bD 27⟩,⟨"", "has_form", "has_form",bD 28⟩,⟨"Kinds", "of", "Kinds.of",aW (bD 22) 2⟩,⟨"", "parts_of", "parts_of",bD 29⟩,⟨"Wishes", "wished", "Wishes.wished",aW (bD 42) 1⟩,⟨"Wishes", "names", "Wishes.names",aW (bD 42) 2⟩,⟨"", "_law_table", "_law_table",bD 60⟩,⟨"Kinds", "order", "Kinds.order",aW (bD 22) 1⟩,⟨"", "wished_of_each", "wished_of_each",bD 40⟩,⟨"", "is_whole", "is_whole",bD 12⟩,⟨"", "name_of", "name_of",bD 30⟩,⟨"", "wished_by_name", "wished_by_name",bD 41⟩,⟨"", "place_of", "place_of",bD 18⟩,⟨"", "has_value", "has_value",bD 19⟩,⟨"", "is_pair_of", "is_pair_of",bD 34⟩,⟨"", "are_pairs_of", "are_pairs_of",bD 35⟩,⟨"", "is_row", "is_row",bD 36⟩,⟨"", "are_rows", "are_rows",bD 37⟩,⟨"", "count_of_each", "count_of_each",bD 38⟩,⟨"", "count_wished", "count_wished",bD 39⟩,⟨"Wishes", "__init__", "Wishes.__init__",aW (bD 42) 0⟩,⟨"", "_law_turned", "_law_turned",bD 52⟩,⟨"", "_law_otherwise", "_law_otherwise",bD 59⟩,⟨"", "_law_under", "_law_under",bD 62⟩,⟨"", "_law_closed", "_law_closed",bD 61⟩,⟨"", "law", "law",bD 63⟩],[15],[("Kind",15),("Kinds",11),("Wishes",41)],[("Kinds", "of",23),("Wishes", "wished",25),("Wishes", "names",26),("Kinds", "order",28)],[],Qq (7,⟨71,31,71,53⟩, "placed_by_owners.<locals>.<lambda>")⟩
section
variable {σ:Sg}
theorem Jp(h:Fx T σ):∃t,σ.mg "FIGURES" = Qq (.str "0123456789" t):=h.cx _ _ rfl
theorem K2(h:Fx T σ):∃t,σ.mg "LETTERS" = Qq (.str "abcdefghijklmnopqrstuvwxyz" t):=h.cx _ _ rfl
theorem KN(h:Fx T σ):∃t,σ.mg "MOST_FIGURES" = Qq (.int 6 t):=h.ci _ _ rfl
theorem K4(h:Fx T σ):∃t,σ.mg "MOST_LETTERS" = Qq (.int 8 t):=h.ci _ _ rfl
theorem Oq(h:Fx T σ):∃t,σ.mg "MOST_MANY" = Qq (.int 60 t):=h.ci _ _ rfl
theorem JN(h:Fx T σ):∃t,σ.mg "MOST_NUMBER" = Qq (.int 999999 t):=h.ci _ _ rfl
theorem Po(h:Fx T σ):∃t,σ.mg "MOST_STATES" = Qq (.int 8 t):=h.ci _ _ rfl
theorem KC(h:Fx T σ):∃t,σ.mg "MOST_WISHED" = Qq (.int 60 t):=h.ci _ _ rfl
noncomputable def A4:Dn T "_law_digits" (bD 46) 0 1:=⟨_,λh ω ω ω ω ω ω nd hr=>have hu:=dq hr;(bC (cw (nh (kU (c0 l7 (c0 uG (av 0) aZ) (c0 wI aZ (c0 lR (av 0) aZ))) (av 0) aZ))))⟩
noncomputable def sA:Fn:=b8 1 1 A4.F
theorem Pl(h:Fx T σ):Od T σ "" "_law_digits" 0 2 sA:=od h A4
noncomputable def Bw:Dn T "_law_mixed" (bD 45) 1 1:=⟨_,λh ω ω ω ω ω ω nd hr=>have hu:=dq hr;(bq (cC 2 nd (c0 lR (c0 l7 (c0 ip (c0 ip (c0 lR (av 0) aZ) (c0 l7 aZ (av 1))) aZ) aZ) aZ))
 (bq (cC 2 nd (c0 lR (c0 l7 (av 2) (c0 ip (c0 uG (av 2) aZ) aZ)) aZ))
 (bq (cC 2 nd (c0 lR (c0 l7 (av 2) (c0 ip (c0 ip (c0 uG (av 2) aZ) aZ) (av 1))) aZ))
 (bC (cw (c0 lR (c0 l7 (av 2) (c0 ip (c0 uG (av 2) aZ) aZ)) aZ))))))⟩
noncomputable def zI:Fn:=b8 3 2 Bw.F
theorem Kj(h:Fx T σ):Od T σ "" "_law_mixed" 1 2 zI:=od h Bw
noncomputable def xA:Dn T "_law_next" (bD 47) 2 2:=⟨_,λh ω ω ω ω ω ω nd hr=>have hu:=dq hr;(bq (dR (dt lP (cP hu (av 0) aZ) aZ) (bq (cC 2 nd (c0 lR (cP hu (av 0) aZ) (av 1)))
 (bq (Cr (av 0) aZ (c0 uG (cP hu (av 0) aZ) (av 1)))
 (bC (cw (av 2))))) dQ)
 (bq (Cr (av 0) aZ (c0 ip (cP hu (av 0) aZ) aZ))
 (bC (cw (c0 lR (bX h (Kj h) bY hr bO (ck (cP hu (av 0) aZ) (cP hu (av 0) aZ))) (av 1))))))⟩
noncomputable def gV:Fn:=b8 3 2 xA.F
theorem iw(h:Fx T σ):Od T σ "" "_law_next" 2 3 gV:=od h xA
noncomputable def zy:Dn T "_law_sign" (bD 48) 3 1:=⟨_,λh ω ω ω ω ω ω nd hr=>have hu:=dq hr;(bq (cC 2 nd gF)
 (bC (cw (cP hu (av 2) (c0 lR (c0 ip (fJ I8 (av 2) (bB (av 0))) (av 1)) aZ)))))⟩
noncomputable def pY:Fn:=b8 3 2 zy.F
theorem Mv(h:Fx T σ):Od T σ "" "_law_sign" 3 2 pY:=od h zy
noncomputable def zP:Dn T "_law_names" (bD 49) 4 3:=⟨_,λh ω ω ω ω ω ω nd hr=>have hu:=dq hr;(bq (cC 2 nd (gy (eD gF (eD gF (eD gF (eD gF (eD gF (eD gF (eD gF (eD gF (eD gF (eD gF jt))))))))))))
 (bq (cC 2 nd (c0 ip (av 2) (gy (eD gF (eD gF (eD gF (eD gF (eD gF (eD gF (eD gF (eD gF (eD gF jt))))))))))))
 (bq (cC 3 nd (bX h (iw h) bY hr bO (ck (av 0) aZ)))
 (bq (cC 4 nd (c0 ip aZ (bX h (iw h) bY hr bO (ck (av 0) aZ))))
 (bq (cC 5 nd (cP hu (gy (ck aZ (bX h (iw h) bY hr bO (ck (av 0) aZ)))) (bX h (iw h) bY hr bO (ck (av 0) aZ))))
 (bq (vO 6 7 (C5 h (bB (av 1))) (λ_ ω ω ω=>⟨hG,(cP hu (av 2) (c0 lR (c0 ip (av 3) (c0 l7 (av 4) (av 7))) aZ))⟩) nd)
 (bC (cw (Ap (i:=7) (eQ (av 6)) dh.auto λ_ ω ω ω=>⟨hG,(fJ GE gF (bB (hY 8 (zz (av 7)) λ_ ω ω ω=>⟨hG,(bX h (Mv h) bY hr mM (ck (av 8) (av 5)))⟩)))⟩)))))))))⟩
noncomputable def ma:Fn:=b8 7 2 zP.F
theorem xJ(h:Fx T σ):Od T σ "" "_law_names" 4 4 ma:=od h zP
noncomputable def AE:Dn T "_law_fields" (bD 50) 5 4:=⟨_,λh ω ω ω ω ω ω nd hr=>have hu:=dq hr;(bq (cC 1 nd (gy (eD (gy jt) (eD (gy (bB aZ)) (eD (gy (bB aZ)) (eD (gy (bB aZ)) (eD (gy (bB aZ)) (eD (gy (ck aZ aZ)) (eD (gy (ck aZ aZ)) (eD (gy (ck aZ aZ)) (eD (gy (kU aZ aZ aZ)) (eD (gy (kU aZ aZ aZ)) (eD (gy (kU aZ aZ aZ)) (eD (gy (bB aZ)) (eD (gy (ck aZ aZ)) jt)))))))))))))))
 (bq (cC 2 nd (cP hu (av 1) (bX h (iw h) bY hr bO (ck (av 0) aZ))))
 (bC (cw (E5 3 4 (JG h (ck (bX h (xJ h) bY hr bO (ck (av 0) (kB hX QU h (bB (av 2))))) (av 2))) λ_ ω ω ω=>⟨hG,(me (ck (av 3) (bX h (xJ h) bY hr mM (ck (av 0) (av 4)))))⟩)))))⟩
noncomputable def tI:Fn:=b8 3 1 AE.F
theorem Jo(h:Fx T σ):Od T σ "" "_law_fields" 5 5 tI:=od h AE
noncomputable def Gv:Dn T "_law_specs" (bD 51) 6 5:=⟨_,λh ω ω ω ω ω ω nd hr=>have hu:=dq hr;(bq (cC 1 nd (nh jt))
 (bq (jq QQ rfl (CN h (bB (bX h (xJ h) bY hr bO (ck (av 0) (c0 ip aZ (bX h (iw h) bY hr bO (ck (av 0) aZ))))))) (mx rfl (gE (eO 2 nd) (gE (eO 3 nd) mh)) (gH (gH mD))) (bq (cC 4 nd jE)
 (bq (dR (dG (oH (dt lP (av 2) aZ) (dH (dt lP (bX h (iw h) bY hr bO (ck (av 0) aZ)) aZ)))) (bC (cC 4 nd (cP hu (cP hu (av 1) (bX h (iw h) bY hr bO (ck (av 0) (av 2)))) aZ))) dQ)
 (bC (mX (fJ pW (av 1) (bB (me (kU (av 3) (bX h (Jo h) bY hr bO (bB (av 0))) (av 4))))))))))
 (bC (cw (av 1)))))⟩
noncomputable def p9:Fn:=b8 5 1 Gv.F
theorem Pf(h:Fx T σ):Od T σ "" "_law_specs" 6 6 p9:=od h Gv
noncomputable def D9:Ea T "placed_by_owners" (bD 21) 7 2:=⟨_,λh ω ω ω ω ω nd hr=>have hu:=dq hr;(bq (cC 1 nd xf)
 (bq (vO 2 4 (eQ (av 0)) (λ_ ω ω ω=>⟨(rL (dt qi (iB ct h (av 4)) jE)),(av 4)⟩) nd)
 (bq (G3 (n:=64) QQ (gB (av 2)) (bq (cC 3 nd (Lo ct h hr (bB (av 2)) _))
 (bq (vA hu (av 1) (iB ct h (av 3)) (av 3))
 (bC (vO 2 4 (eQ (av 0)) (λ_ ω ω ω=>⟨(rL (dG (oH (dt (qz hr) (iB ct h (av 4)) (av 1)) (dH (dG (kn (dt qi (iB ct h (av 4)) jE) (dH (dt (kin hr) (iB ct h (av 4)) (av 1))))))))),(av 4)⟩) nd)))))
 (bC (cw (av 1))))))⟩
noncomputable def vY:Fn:=b8 4 1 D9.F
theorem PP(h:Fx T σ):Od T σ "" "placed_by_owners" 7 3 vY:=Mi h D9
noncomputable def sL:Dn T "is_name" (bD 11) 8 1:=⟨_,λh ω ω ω ω ω ω nd hr=>have hu:=dq hr;(bq (dR (gm (gB (kW cX S4 h (av 0)))) (bC (cw ig)) dQ)
 (bC (cw (mY (qA oy oy aZ (kB hX QU h (bB (av 0))) (qq (K4 h))) (jQ (kB (nI rfl) Ri h (bB (hY 1 (zz (av 0)) λ_ ω ω ω=>⟨hG,(pV (kin hr) (av 1) (B3 (K2 h)))⟩))))))))⟩
noncomputable def mB:Fn:=b8 1 1 sL.F
theorem n7(h:Fx T σ):Od T σ "" "is_name" 8 2 mB:=od h sL
noncomputable def zg:Dn T "are_unlike_names" (bD 13) 9 2:=⟨_,λh ω ω ω ω ω ω nd hr=>have hu:=dq hr;(bC (cw (mY (kB (nI rfl) Ri h (bB (hY 1 (eQ (av 0)) λ_ ω ω ω=>⟨hG,(bX h (n7 h) bY hr mM (bB (av 1)))⟩))) (jQ (pV (om hr) (A0 h (av 0)) (kB hX QU h (bB (av 0))))))))⟩
noncomputable def yY:Fn:=b8 1 1 zg.F
theorem wj(h:Fx T σ):Od T σ "" "are_unlike_names" 9 3 yY:=od h zg
noncomputable def yj:Dn T "are_kinds" (bD 20) 10 3:=⟨_,λh ω ω ω ω ω ω nd hr=>have hu:=dq hr;(bq (dR (dG (kn (gm (gB (kW cX Q1 h (av 0)))) (dH (dt (om hr) (kB hX QU h (bB (av 0))) aZ)))) (bC (cw ig)) dQ)
 (bq (dR (gm (gB (kB (nI rfl) Ri h (bB (hY 1 (eQ (av 0)) λ_ ω ω ω=>⟨hG,(De cX qj h (av 1))⟩))))) (bC (cw ig)) dQ)
 (bC (cw (bX h (wj h) bY hr bO (bB (hY 1 (eQ (av 0)) λ_ ω ω ω=>⟨hG,(iB ct h (av 1))⟩)))))))⟩
noncomputable def z6:Fn:=b8 1 1 yj.F
theorem OE(h:Fx T σ):Od T σ "" "are_kinds" 10 4 z6:=od h yj
noncomputable def Ar:Dn T "Kinds.__init__" (aW (bD 22) 0) 11 4:=⟨_,λh ω ω ω ω ω ω nd hr=>have hu:=dq hr;(bq (dR (gm (gB (bX h (OE h) bY hr bO (bB (av 1))))) (bC jU) dQ)
 (bq (cC 2 nd (bX h (PP h) bY hr bO (bB (av 1))))
 (bq (dR (dt OV (kB hX QU h (bB (av 2))) (kB hX QU h (bB (av 1)))) (bC jU) dQ)
 (bC (jP ct h (av 0) (av 2))))))⟩
noncomputable def sF:Fn:=b8 3 2 Ar.F
theorem JH(h:Fx T σ):Od T σ "Kinds" "__init__" 11 5 sF:=od h Ar
noncomputable def zF:Dn T "is_pair_with_values" (bD 14) 12 3:=⟨_,λh ω ω ω ω ω ω nd hr=>have hu:=dq hr;(bq (dR (dG (kn (gm (gB (kW cX SF h (av 0)))) (dH (dt (mN hr) (kB hX QU h (bB (av 0))) aZ)))) (bC (cw ig)) dQ)
 (bq (cC 1 nd (cP hu (av 0) aZ))
 (bC (cw (mY (kW cX Q1 h (av 1)) (mY (pV lP (kB hX QU h (bB (av 1))) aZ) (jQ (bX h (wj h) bY hr bO (bB (av 1))))))))))⟩
noncomputable def vi:Fn:=b8 2 1 zF.F
theorem IF(h:Fx T σ):Od T σ "" "is_pair_with_values" 12 4 vi:=od h zF
noncomputable def Bo:Dn T "are_fields" (bD 15) 13 4:=⟨_,λh ω ω ω ω ω ω nd hr=>have hu:=dq hr;(bq (dR (dG (kn (gm (gB (kW cX Q1 h (av 0)))) (dH (gm (gB (kB (nI rfl) Ri h (bB (hY 1 (eQ (av 0)) λ_ ω ω ω=>⟨hG,(bX h (IF h) bY hr mM (bB (av 1)))⟩)))))))) (bC (cw ig)) dQ)
 (bC (cw (bX h (wj h) bY hr bO (bB (hY 1 (eQ (av 0)) λ_ ω ω ω=>⟨hG,(cP hu (av 1) aZ)⟩))))))⟩
noncomputable def wN:Fn:=b8 1 1 Bo.F
theorem MR(h:Fx T σ):Od T σ "" "are_fields" 13 5 wN:=od h Bo
noncomputable def AY:Dn T "count_states" (bD 16) 14 1:=⟨_,λh ω ω ω ω ω ω nd hr=>have hu:=dq hr;(bq (cC 1 nd aZ)
 (bq (jq QQ rfl (eQ (av 0)) (eO 2 nd) (bC (cC 1 nd (c0 l7 (av 1) (kB hX QU h (bB (cP hu (av 2) aZ)))))))
 (bC (cw (av 1)))))⟩
noncomputable def wg:Fn:=b8 3 1 AY.F
theorem Hn(h:Fx T σ):Od T σ "" "count_states" 14 2 wg:=od h AY
noncomputable def xv:Dn T "Kind.__init__" (aW (bD 17) 0) 15 5:=⟨_,λh ω ω ω ω ω ω nd hr=>have hu:=dq hr;(bq (dR (gm (gB (bX h (n7 h) bY hr bO (bB (av 1))))) (bC jU) dQ)
 (bq (dR (gm (gB (bX h (MR h) bY hr bO (bB (av 2))))) (bC jU) dQ)
 (bq (dR (dG (oH (dt wL (av 3) jE) (dH (dG (kn (gm (gB (bX h (n7 h) bY hr bO (bB (av 3))))) (dH (dt (om hr) (av 3) (av 1)))))))) (bC jU) dQ)
 (bq (dR (dt lP (bX h (Hn h) bY hr bO (bB (av 2))) (qq (Po h))) (bC jU) dQ)
 (bq (jP ct h (av 0) (av 1))
 (bq (jP ct h (av 0) (hY 4 (eQ (av 2)) λ_ ω ω ω=>⟨hG,(me (ck (cP hu (av 4) aZ) (kT (pX rfl) Q1 h (bB (cP hu (av 4) aZ)))))⟩))
 (bC (jP ct h (av 0) (av 3)))))))))⟩
noncomputable def qa:Fn:=b8 4 4 xv.F
theorem Nz(h:Fx T σ):Od T σ "Kind" "__init__" 15 6 qa:=od h xv
noncomputable def Gf:Dn T "_law_made" (bD 53) 16 7:=⟨_,λh ω ω ω ω ω ω nd hr=>have hu:=dq hr;(bq (cC 1 nd (nh jt))
 (bq (jq QQ rfl (eQ (av 0)) (mx rfl (gE (eO 2 nd) (gE (eO 3 nd) (gE (eO 4 nd) mh))) (gH (gH (gH mD)))) (bC (mX (fJ pW (av 1) (bB (se h (Nz h) hr bO (kU (av 2) (E5 5 6 (eQ (av 3)) λ_ ω ω ω=>⟨hG,(me (ck (av 5) (kT (pX rfl) Q1 h (bB (av 6)))))⟩) (av 4))))))))
 (bC (cw (se h (JH h) hr bO (bB (NW (av 1))))))))⟩
noncomputable def oW:Fn:=b8 5 1 Gf.F
theorem EC(h:Fx T σ):Od T σ "" "_law_made" 16 8 oW:=od h Gf
noncomputable def BM:Dn T "_law_cares" (bD 54) 17 3:=⟨_,λh ω ω ω ω ω ω nd hr=>have hu:=dq hr;(bq (cC 2 nd (nh jt))
 (bq (jq QQ rfl (eQ (av 1)) (mx rfl (gE (eO 3 nd) (gE (eO 4 nd) mh)) (gH (gH mD))) (bC (dR (dt (om hr) (bX h (iw h) bY hr bO (ck (av 0) aZ)) aZ) (bC (mX (fJ pW (av 2) (bB (me (ck (av 3) (cP hu (av 4) (bX h (iw h) bY hr bO (ck (av 0) (kB hX QU h (bB (av 4)))))))))))) dQ)))
 (bC (cw (cP hu (nh (ck (av 2) (zV (av 2)))) (bX h (iw h) bY hr bO (ck (av 0) aZ)))))))⟩
noncomputable def qy:Fn:=b8 5 2 BM.F
theorem KG(h:Fx T σ):Od T σ "" "_law_cares" 17 4 qy:=od h BM
noncomputable def DX:Dn T "_law_rows" (bD 55) 18 4:=⟨_,λh ω ω ω ω ω ω nd hr=>have hu:=dq hr;(bq (cC 2 nd (nh jt))
 (bq (jq QQ rfl (C5 h (bB (bX h (iw h) bY hr bO (ck (av 0) aZ)))) (eO 3 nd) (bq (FB (cP hu (av 1) (bX h (iw h) bY hr bO (ck (av 0) (kB hX QU h (bB (av 1)))))) (mx rfl (gE (eO 4 nd) (gE (eO 5 nd) (gE (eO 6 nd) mh))) (gH (gH (gH mD)))))
 (bq (cC 7 nd (c0 ip aZ (bX h (iw h) bY hr bO (ck (av 0) (cP hu (gy (kU aZ aZ aZ)) (bX h (iw h) bY hr bO (ck (av 0) aZ)))))))
 (bC (mX (fJ pW (av 2) (bB (me (kU (av 4) (av 7) (bX h (KG h) bY hr bO (ck (av 0) (av 5))))))))))))
 (bC (cw (av 2)))))⟩
noncomputable def uI:Fn:=b8 8 2 DX.F
theorem NS(h:Fx T σ):Od T σ "" "_law_rows" 18 5 uI:=od h DX
noncomputable def BZ:Dn T "_law_many" (bD 57) 19 1:=⟨hU,λh ω ω ω ω ω ω nd hr=>NO (L2.zJd (L2.zXv (i:=2) nd rfl (TC rfl) (L2.zVf L2.zY4 L2.zF8)) (L2.zJd (L2.zXx QQ rfl (L2.zMr (L2.pv 0)) (L2.zY0 rfl (L2.zGx (L2.zHa (i:=3) nd rfl (Vx rfl)) (L2.zGx (L2.zHa (i:=4) nd rfl (TC rfl)) (L2.zGx (L2.zHa (i:=5) nd rfl (TC rfl)) L2.zRs)))) (L2.zMp (L2.zZn (L2.pv 2) (L2.pv 3) (L2.zZy L2.zY7 (L2.zZz (L2.pv 2) (L2.pv 5) (λ_ ω=>rfl)) (L2.zCp (L2.zFp rfl) rfl (jr h ⟨rfl,rfl,rfl,rfl,rfl⟩ (by decide +kernel)) SY (L2.zCc (L2.zRx (T:=["_law_row"]) rfl dh.auto (L2.zMr (L2.pv 1)) (λ_ ω ω ω=>L2.zHa (i:=6) (by decide +kernel:(["_law_specs_here", "_law_rows_here", "_law_counts", "_law_kind", "_law_fields_here", "_law_owner", "_law_row"]:List QD).Nodup) rfl (TC rfl)) (λ_ ω ω ω=>L2.zY1 (L2.zRi L2.yEh (L2.yA1 (r:=kJ _) L2.zSr (L2.pv 6) L2.zF8 (λ_ ω=>rfl)) (L2.pv 3) (L2.nomark _))) (λ_ ω ω ω=>L2.yA1 (r:=kJ _) L2.zSr (L2.pv 6) L2.zF8 (λ_ ω=>rfl))) L2.zEl))) rfl))) (L2.zMp (L2.zXw (L2.zZy L2.zY6 (L2.zCp (L2.zIb rfl rfl) rfl (jr h ⟨rfl,rfl,rfl,rfl,rfl⟩ (by decide +kernel)) SY (L2.zCc (L2.zPp (L2.pv 2)) L2.zEl)) L2.zF8))))) rfl⟩
noncomputable def u9:Fn:=b8 6 2 BZ.F
theorem JS(h:Fx T σ):Od T σ "" "_law_many" 19 2 u9:=od h BZ
noncomputable def Eu:Dn T "_law_few_rows" (bD 58) 20 5:=⟨_,λh ω ω ω ω ω ω nd hr=>have hu:=dq hr;(bq (cC 2 nd (bX h (NS h) Bb hr bO (ck (av 0) (av 1))))
 (bq (G3 (n:=64) QQ (dt lP (bX h (JS h) bY hr bO (ck (av 1) (av 2))) aZ) (bC (mX (fJ JX (av 2) (bB (bX h (iw h) bY hr bO (ck (av 0) (kB hX QU h (bB (av 2))))))))))
 (bC (cw (av 2)))))⟩
noncomputable def p8:Fn:=b8 3 2 Eu.F
theorem Np(h:Fx T σ):Od T σ "" "_law_few_rows" 20 6 p8:=od h Eu
noncomputable def xa:Dn T "is_written_number" (bD 27) 21 1:=⟨_,λh ω ω ω ω ω ω nd hr=>have hu:=dq hr;(bq (dR (gm (Bf oy oy aZ (kB hX QU h (bB (av 0))) (av 1))) (bC (cw ig)) dQ)
 (bq (dR (dG (oH (dt lP (kB hX QU h (bB (av 0))) aZ) (dH (gB (fJ P8 (av 0) (bB gF)))))) (bC (cw ig)) dQ)
 (bC (cw (kB (nI rfl) Ri h (bB (hY 2 (zz (av 0)) λ_ ω ω ω=>⟨hG,(pV (kin hr) (av 2) (B3 (Jp h)))⟩)))))))⟩
noncomputable def p4:Fn:=b8 2 2 xa.F
theorem Ia(h:Fx T σ):Od T σ "" "is_written_number" 21 2 p4:=od h xa
noncomputable def yE:Dn T "has_form" (bD 28) 22 2:=⟨_,λh ω ω ω ω ω ω nd hr=>have hu:=dq hr;(bq (dR (gm (gB (kW cX S4 h (av 0)))) (bC (cw ig)) dQ)
 (bq (cC 1 nd (fJ G8 (av 0) (bB gF)))
 (bq (dR (dt (mN hr) (c0 lR (kB hX QU h (bB (av 1))) aZ) aZ) (bC (cw ig)) dQ)
 (bq (dR (gm (gB (kB (nI rfl) Ri h (bB (hY 2 (eQ (Fc (av 1))) λ_ ω ω ω=>⟨hG,(bX h (n7 h) bY hr mM (bB (av 2)))⟩))))) (bC (cw ig)) dQ)
 (bC (cw (kB (nI rfl) Ri h (bB (hY 2 (eQ (Nc (av 1))) λ_ ω ω ω=>⟨hG,(bX h (Ia h) bY hr mM (ck (av 2) (qq (KN h))))⟩)))))))))⟩
noncomputable def vP:Fn:=b8 2 1 yE.F
theorem Nx(h:Fx T σ):Od T σ "" "has_form" 22 3 vP:=od h yE
noncomputable def A1:Dn T "Kinds.of" (aW (bD 22) 2) 23 2:=⟨_,λh ω ω ω ω ω ω nd hr=>have hu:=dq hr;(bq (dR (dG (kn (gm (gB (bX h (n7 h) bY hr bO (bB (av 1))))) (dH (dt (qz hr) (av 1) (iB ct h (av 0)))))) (bC jU) dQ)
 (bC (cw (cP hu (iB ct h (av 0)) (av 1)))))⟩
noncomputable def tW:Fn:=b8 2 2 A1.F
theorem IH(h:Fx T σ):Od T σ "Kinds" "of" 23 3 tW:=od h A1
noncomputable def fK:List (QD×Fn):=[("Kinds",tW)]
theorem qd(h:Fx T σ):gf σ.P σ.w σ.K σ.mg σ.base fy σ.cl 3 "of" (cM (aW (bD 22) 2)) fK:=va h (vX h (IH h) (wb))
noncomputable def EE:Dn T "parts_of" (bD 29) 24 3:=⟨_,λh ω ω ω ω ω ω nd hr=>have hu:=dq hr;(bq (dR (gm (gB (bX h (Nx h) bY hr bO (bB (av 1))))) (bC jU) dQ)
 (bq (cC 2 nd (fJ G8 (av 1) (bB gF)))
 (bq (cC 3 nd jE)
 (bq (jq QQ rfl (eQ (Fc (av 2))) (eO 4 nd) (bq (dR (dt (mN hr) (iB ct h (pJ (qd h) hr bO (av 0) (bB (av 4)))) (av 3)) (bC jU) dQ)
 (bC (cC 3 nd (av 4)))))
 (bq (cC 5 nd (u1 (dt lP (kB hX QU h (bB (av 2))) aZ) (fJ GE gF (bB (pM (av 2) pL (pz (Ct aZ))))) jE))
 (bC (cw (me (kU (av 3) (av 5) (kT Hk VX h (bB (cP hu (av 2) (Ct aZ)))))))))))))⟩
noncomputable def lF:Fn:=b8 6 2 EE.F
theorem wc(h:Fx T σ):Od T σ "" "parts_of" 24 4 lF:=od h EE
noncomputable def yp:Dn T "Wishes.wished" (aW (bD 42) 1) 25 4:=⟨_,λh ω ω ω ω ω ω nd hr=>have hu:=dq hr;(bq (mX (bX h (wc h) bY hr bO (ck (iB ct h (av 0)) (av 1))))
 (bC (cw (vg hu (iB ct h (av 0)) (av 1)))))⟩
noncomputable def xp:Fn:=b8 2 2 yp.F
theorem Lc(h:Fx T σ):Od T σ "Wishes" "wished" 25 5 xp:=od h yp
noncomputable def u7:List (QD×Fn):=[("Wishes",xp)]
theorem Ip(h:Fx T σ):gf σ.P σ.w σ.K σ.mg σ.base fy σ.cl 5 "wished" (cM (aW (bD 42) 1)) u7:=va h (vX h (Lc h) (wb))
noncomputable def zG:Dn T "Wishes.names" (aW (bD 42) 2) 26 1:=⟨_,λh ω ω ω ω ω ω nd hr=>have hu:=dq hr;(bC (cw (kB (O7 rfl) Zbm h (bB (iB ct h (av 0))))))⟩
noncomputable def vF:Fn:=b8 1 1 zG.F
theorem Iq(h:Fx T σ):Od T σ "Wishes" "names" 26 2 vF:=od h zG
noncomputable def vv:List (QD×Fn):=[("Wishes",vF)]
theorem Mc(h:Fx T σ):gf σ.P σ.w σ.K σ.mg σ.base fy σ.cl 2 "names" (cM (aW (bD 42) 2)) vv:=va h (vX h (Iq h) (wb))
noncomputable def Gx:Dn T "_law_table" (bD 60) 27 5:=⟨_,λh ω ω ω ω ω ω nd hr=>have hu:=dq hr;(bC (cw (kT (EG (mu:=Qv) rfl) VL h (bB (hY 1 (eQ (mS (Mc h) hr bO (av 0))) λ_ ω ω ω=>⟨hG,(me (ck (av 1) (pJ (Ip h) hr mM (av 0) (bB (av 1)))))⟩)))))⟩
noncomputable def mw:Fn:=b8 1 1 Gx.F
theorem BE(h:Fx T σ):Od T σ "" "_law_table" 27 6 mw:=od h Gx
noncomputable def yU:Dn T "Kinds.order" (aW (bD 22) 1) 28 1:=⟨_,λh ω ω ω ω ω ω nd hr=>have hu:=dq hr;(bC (cw (kT (pX rfl) Q1 h (bB (iB ct h (av 0))))))⟩
noncomputable def uN:Fn:=b8 1 1 yU.F
theorem Nd(h:Fx T σ):Od T σ "Kinds" "order" 28 2 uN:=od h yU
noncomputable def oR:List (QD×Fn):=[("Kinds",uN)]
theorem zH(h:Fx T σ):gf σ.P σ.w σ.K σ.mg σ.base fy σ.cl 2 "order" (cM (aW (bD 22) 1)) oR:=va h (vX h (Nd h) (wb))
noncomputable def DC:Dn T "wished_of_each" (bD 40) 29 1:=⟨_,λh ω ω ω ω ω ω nd hr=>have hu:=dq hr;(bq (cC 2 nd (nh jt))
 (bq (jq QQ rfl (eQ (av 1)) (eO 3 nd) (bC (dR (dt (om hr) (cP hu (av 3) aZ) (iB ct h (av 0))) (bq (cC 4 nd (kT (EG (mu:=Qv) rfl) VL h (bB (cP hu (av 3) aZ))))
 (bq (cC 5 nd (kT Ho SF h (bB (hY 6 (eQ (iB ct h (av 0))) λ_ ω ω ω=>⟨hG,(vg hu (av 4) (cP hu (av 6) aZ))⟩))))
 (bC (mX (fJ Hb (av 2) (bB (c0 l7 (gy (bB (av 5))) (cP hu (av 3) aZ)))))))) dQ)))
 (bC (cw (av 2)))))⟩
noncomputable def ua:Fn:=b8 6 2 DC.F
theorem JJ(h:Fx T σ):Od T σ "" "wished_of_each" 29 2 ua:=od h DC
noncomputable def Dc:Dn T "is_whole" (bD 12) 30 1:=⟨_,λh ω ω ω ω ω ω nd hr=>have hu:=dq hr;(bC (cw (mY (kW cX VX h (av 0)) (jQ (LH (kW cX Zbo h (av 0)))))))⟩
noncomputable def Dd:Fn:=b8 1 1 Dc.F
theorem Dl(h:Fx T σ):Od T σ "" "is_whole" 30 2 Dd:=od h Dc
noncomputable def F0:Dn T "name_of" (bD 30) 31 4:=⟨_,λh ω ω ω ω ω ω nd hr=>have hu:=dq hr;(bq (cC 4 nd (iB ct h (pJ (qd h) hr bO (av 0) (bB (av 1)))))
 (bq (dR (dG (kn (gm (gB (bX h (Dl h) bY hr bO (bB (av 3))))) (dH (gm (Bf oy oy aZ (av 3) (qq (JN h))))))) (bC jU) dQ)
 (bq (dR (dt qi (av 4) jE) (bq (dR (dt wL (av 2) jE) (bC jU) dQ)
 (bC (cw (EI (tQ (av 1) (A2 (tQ (av 3) Eg))))))) dQ)
 (bq (dR (dt (mN hr) (cP hu (bX h (wc h) bY hr bO (ck (av 0) (av 2))) aZ) (av 4)) (bC jU) dQ)
 (bC (cw (EI (tQ (av 2) (A2 (tQ (av 1) (A2 (tQ (av 3) Eg))))))))))))⟩
noncomputable def oh:Fn:=b8 5 4 F0.F
theorem IT(h:Fx T σ):Od T σ "" "name_of" 31 5 oh:=od h F0
noncomputable def Fh:Dn T "wished_by_name" (bD 41) 32 5:=⟨_,λh ω ω ω ω ω ω nd hr=>have hu:=dq hr;(bq (cC 2 nd xf)
 (bq (cC 3 nd xf)
 (bq (jq QQ rfl (eQ (mS (zH h) hr bO (av 0))) (eO 4 nd) (bq (cC 5 nd (iB ct h (pJ (qd h) hr bO (av 0) (bB (av 4)))))
 (bq (cC 6 nd (u1 (dt qi (av 5) jE) (gy (bB jE)) (cP hu (av 2) (av 5))))
 (bq (cC 7 nd (bX h (JJ h) bY hr bO (ck (pJ (qd h) hr bO (av 0) (bB (av 4))) (av 1))))
 (bq (vA hu (av 2) (av 4) (nh jt))
 (bC (jq QQ rfl (eQ (av 6)) (eO 8 nd) (bC (jq QQ rfl (CN h (bB (av 7))) (mx rfl (gE (eO 9 nd) (gE (eO 10 nd) mh)) (gH (gH mD))) (bq (cC 11 nd (bX h (IT h) bY hr bO (eD (av 0) (eD (av 4) (eD (av 8) (eD (av 9) jt))))))
 (bq (mX (fJ pW (cP hu (av 2) (av 4)) (bB (av 11))))
 (bC (vA hu (av 3) (av 11) (av 10))))))))))))))
 (bC (cw (av 3))))))⟩
noncomputable def yg:Fn:=b8 12 2 Fh.F
theorem IQ(h:Fx T σ):Od T σ "" "wished_by_name" 32 6 yg:=od h Fh
noncomputable def wJ:Dn T "place_of" (bD 18) 33 1:=⟨_,λh ω ω ω ω ω ω nd hr=>have hu:=dq hr;(bq (vO 2 3 (eQ (iB ct h (av 0))) (λ_ ω ω ω=>⟨hG,(cP hu (av 3) aZ)⟩) nd)
 (bC (cw (u1 (dt (kin hr) (av 1) (av 2)) (fJ Kb (av 2) (bB (av 1))) jE))))⟩
noncomputable def xy:Fn:=b8 3 2 wJ.F
theorem KW(h:Fx T σ):Od T σ "" "place_of" 33 2 xy:=od h wJ
noncomputable def wR:Dn T "has_value" (bD 19) 34 2:=⟨_,λh ω ω ω ω ω ω nd hr=>have hu:=dq hr;(bq (cC 3 nd (bX h (KW h) bY hr bO (ck (av 0) (av 1))))
 (bC (cw (mY (pV wL (av 3) jE) (jQ (pV (kin hr) (av 2) (cP hu (cP hu (iB ct h (av 0)) (av 3)) aZ)))))))⟩
noncomputable def we:Fn:=b8 4 3 wR.F
theorem Mw(h:Fx T σ):Od T σ "" "has_value" 34 3 we:=od h wR
noncomputable def zN:Dn T "is_pair_of" (bD 34) 35 3:=⟨_,λh ω ω ω ω ω ω nd hr=>have hu:=dq hr;(bq (dR (dG (kn (gm (gB (kW cX SF h (av 1)))) (dH (dt (mN hr) (kB hX QU h (bB (av 1))) aZ)))) (bC (cw ig)) dQ)
 (bC (cw (mY (bX h (n7 h) bY hr bO (bB (cP hu (av 1) aZ))) (mY (bX h (n7 h) bY hr bO (bB (cP hu (av 1) aZ))) (jQ (bX h (Mw h) bY hr bO (kU (av 0) (cP hu (av 1) aZ) (cP hu (av 1) aZ)))))))))⟩
noncomputable def xj:Fn:=b8 2 2 zN.F
theorem KZ(h:Fx T σ):Od T σ "" "is_pair_of" 35 4 xj:=od h zN
noncomputable def xK:Dn T "are_pairs_of" (bD 35) 36 4:=⟨_,λh ω ω ω ω ω ω nd hr=>have hu:=dq hr;(bq (dR (dG (kn (gm (gB (kW cX Q1 h (av 1)))) (dH (gm (gB (kB (nI rfl) Ri h (bB (hY 2 (eQ (av 1)) λ_ ω ω ω=>⟨hG,(bX h (KZ h) bY hr mM (ck (av 0) (av 2)))⟩)))))))) (bC (cw ig)) dQ)
 (bC (cw (bX h (wj h) bY hr bO (bB (hY 2 (eQ (av 1)) λ_ ω ω ω=>⟨hG,(cP hu (av 2) aZ)⟩))))))⟩
noncomputable def Aa:Fn:=b8 2 2 xK.F
theorem Nr(h:Fx T σ):Od T σ "" "are_pairs_of" 36 5 Aa:=od h xK
noncomputable def zq:Dn T "is_row" (bD 36) 37 5:=⟨_,λh ω ω ω ω ω ω nd hr=>have hu:=dq hr;(bq (dR (dG (kn (gm (gB (kW cX SF h (av 1)))) (dH (dt (mN hr) (kB hX QU h (bB (av 1))) aZ)))) (bC (cw ig)) dQ)
 (bq (dR (dG (kn (gm (gB (bX h (n7 h) bY hr bO (bB (cP hu (av 1) aZ))))) (dH (dt (qz hr) (cP hu (av 1) aZ) (mS (zH h) hr bO (av 0)))))) (bC (cw ig)) dQ)
 (bq (dR (dG (kn (gm (gB (bX h (Dl h) bY hr bO (bB (cP hu (av 1) aZ))))) (dH (gm (Bf oy oy aZ (cP hu (av 1) aZ) (qq (Oq h))))))) (bC (cw ig)) dQ)
 (bC (cw (bX h (Nr h) bY hr bO (ck (pJ (qd h) hr bO (av 0) (bB (cP hu (av 1) aZ))) (cP hu (av 1) aZ))))))))⟩
noncomputable def vM:Fn:=b8 2 2 zq.F
theorem Ny(h:Fx T σ):Od T σ "" "is_row" 37 6 vM:=od h zq
noncomputable def AX:Dn T "are_rows" (bD 37) 38 6:=⟨_,λh ω ω ω ω ω ω nd hr=>have hu:=dq hr;(bC (cw (mY (kW cX Q1 h (av 1)) (jQ (kB (nI rfl) Ri h (bB (hY 2 (eQ (av 1)) λ_ ω ω ω=>⟨hG,(bX h (Ny h) bY hr mM (ck (av 0) (av 2)))⟩)))))))⟩
noncomputable def x9:Fn:=b8 2 2 AX.F
theorem O9(h:Fx T σ):Od T σ "" "are_rows" 38 7 x9:=od h AX
noncomputable def zt:Dn T "count_of_each" (bD 38) 39 1:=⟨_,λh ω ω ω ω ω ω nd hr=>have hu:=dq hr;(bC (cw (kB (PN rfl) SY h (bB (hY 2 (eQ (av 1)) λ_ ω ω ω=>⟨(rL (dt (om hr) (cP hu (av 2) aZ) (av 0))),(cP hu (av 2) aZ)⟩)))))⟩
noncomputable def rX:Fn:=b8 2 2 zt.F
theorem Jn(h:Fx T σ):Od T σ "" "count_of_each" 39 2 rX:=od h zt
noncomputable def BP:Dn T "count_wished" (bD 39) 40 3:=⟨_,λh ω ω ω ω ω ω nd hr=>have hu:=dq hr;(bq (cC 2 nd xf)
 (bq (jq QQ rfl (eQ (mS (zH h) hr bO (av 0))) (eO 3 nd) (bq (cC 4 nd (iB ct h (pJ (qd h) hr bO (av 0) (bB (av 3)))))
 (bq (cC 5 nd (u1 (dt qi (av 4) jE) aZ (cP hu (av 2) (av 4))))
 (bC (vA hu (av 2) (av 3) (c0 l7 (av 5) (bX h (Jn h) bY hr bO (ck (av 3) (av 1)))))))))
 (bC (cw (zC h (av 2))))))⟩
noncomputable def xE:Fn:=b8 6 2 BP.F
theorem Ow(h:Fx T σ):Od T σ "" "count_wished" 40 4 xE:=od h BP
noncomputable def yP:Dn T "Wishes.__init__" (aW (bD 42) 0) 41 7:=⟨_,λh ω ω ω ω ω ω nd hr=>have hu:=dq hr;(bq (dR (gm (gB (De cX qj h (av 1)))) (bC jU) dQ)
 (bq (dR (gm (gB (bX h (O9 h) bY hr bO (ck (av 1) (av 2))))) (bC jU) dQ)
 (bq (dR (dt lP (bX h (Ow h) bY hr bO (ck (av 1) (av 2))) (qq (KC h))) (bC jU) dQ)
 (bq (jP ct h (av 0) (av 1))
 (bq (jP ct h (av 0) (hY 3 (eQ (av 2)) λ_ ω ω ω=>⟨hG,(me (kU (cP hu (av 3) aZ) (cP hu (av 3) aZ) (kT (pX rfl) Q1 h (bB (cP hu (av 3) aZ)))))⟩))
 (bC (jP ct h (av 0) (bX h (IQ h) bY hr bO (ck (av 1) (av 2))))))))))⟩
noncomputable def oA:Fn:=b8 3 3 yP.F
theorem zS(h:Fx T σ):Od T σ "Wishes" "__init__" 41 8 oA:=od h yP
noncomputable def An:Dn T "_law_turned" (bD 52) 42 3:=⟨_,λh ω ω ω ω ω ω nd hr=>have hu:=dq hr;(bq (cC 2 nd (bX h (iw h) bY hr bO (ck (av 0) (kB hX QU h (bB (av 1))))))
 (bq (cC 3 nd (c0 ip (pM (av 1) (pz (av 2)) pL) (pM (av 1) pL (pz (av 2)))))
 (bC (cw (cP hu (gy (ck (av 3) (zV (av 3)))) (bX h (iw h) bY hr bO (ck (av 0) aZ)))))))⟩
noncomputable def l8:Fn:=b8 4 2 An.F
theorem BB(h:Fx T σ):Od T σ "" "_law_turned" 42 4 l8:=od h An
noncomputable def En:Dn T "_law_otherwise" (bD 59) 43 4:=⟨_,λh ω ω ω ω ω ω nd hr=>have hu:=dq hr;(bq (cC 2 nd (gy jt))
 (bq (jq QQ rfl (eQ (av 1)) (mx rfl (gE (eO 3 nd) (gE (eO 4 nd) (gE (eO 5 nd) mh))) (gH (gH (gH mD)))) (bq (cC 6 nd (bX h (iw h) bY hr bO (ck (av 0) (av 4))))
 (bC (cC 2 nd (c0 ip (av 2) (hY 9 (eQ (gy (ck (av 6) (c0 wI (av 4) (av 6))))) λ_ ω ω ω=>⟨(rL (dt lP (av 9) aZ)),(me (kU (av 3) (av 9) (zV (av 5))))⟩))))))
 (bq (cC 7 nd (B1 h (hY 9 (eQ (av 1)) λ_ ω ω ω=>⟨hG,(cP hu (av 9) aZ)⟩)))
 (bq (dR (dt (om hr) (av 7) (gy jt)) (bC (cw (av 2))) dQ)
 (bq (cC 8 nd (gy jt))
 (bq (jq QQ rfl (eQ (bX h (BB h) bY hr bO (ck (av 0) (av 7)))) (eO 3 nd) (bC (cC 8 nd (c0 ip (av 8) (hY 9 (eQ (av 2)) λ_ ω ω ω=>⟨(rL (dt (om hr) (cP hu (av 9) aZ) (av 3))),(av 9)⟩)))))
 (bC (cw (av 8)))))))))⟩
noncomputable def pR:Fn:=b8 9 2 En.F
theorem LG(h:Fx T σ):Od T σ "" "_law_otherwise" 43 5 pR:=od h En
noncomputable def BG:Dn T "_law_under" (bD 62) 44 1:=⟨_,λh ω ω ω ω ω ω nd hr=>have hu:=dq hr;(bq (cC 2 nd (nh (bB (av 1))))
 (bq (jq QQ rfl (eQ (av 0)) (mx rfl (gE (eO 3 nd) (gE (eO 4 nd) (gE (eO 5 nd) mh))) (gH (gH (gH mD)))) (bC (dR (dt (kin hr) (av 5) (av 2)) (bC (mX (fJ pW (av 2) (bB (av 3))))) dQ)))
 (bC (cw (av 2)))))⟩
noncomputable def sV:Fn:=b8 6 2 BG.F
theorem PH(h:Fx T σ):Od T σ "" "_law_under" 44 2 sV:=od h BG
noncomputable def Gu:Dn T "_law_closed" (bD 61) 45 4:=⟨_,λh ω ω ω ω ω ω nd hr=>have hu:=dq hr;(bq (jq QQ rfl (J4 (av 1)) (mx rfl (gE (eO 2 nd) (gE (eO 3 nd) mh)) (gH (gH mD))) (bq (FB (bX h (wc h) bY hr bO (ck (av 0) (av 2))) (mx rfl (gE (eO 4 nd) (gE (eO 5 nd) (gE (eO 6 nd) mh))) (gH (gH (gH mD)))))
 (bq (dR (dG (kn (dt qi (av 3) jE) (dH (dG (oH (dt wL (av 5) jE) (dH (dt (qz hr) (av 5) (av 1)))))))) (bC (cw ig)) dQ)
 (bC (dR (dG (oH (dt lP (av 6) aZ) (dH (dt (qz hr) (c0 ip (pM (av 2) pL (pz (c0 wI (kB hX QU h (bB (av 2))) (kB hX QU h (bB (kT DZ S4 h (bB (av 6)))))))) (kT DZ S4 h (bB (c0 wI (av 6) aZ)))) (av 1))))) (bC (cw ig)) dQ)))))
 (bC (cw ig)))⟩
noncomputable def tN:Fn:=b8 7 2 Gu.F
theorem JA(h:Fx T σ):Od T σ "" "_law_closed" 45 5 tN:=od h Gu
noncomputable def EY:Dn T "law" (bD 63) 46 9:=⟨_,λh ω ω ω ω ω ω nd hr=>have hu:=dq hr;(bq (jq QQ rfl (eQ (pM (av 0) pL (pz aZ))) (eO 1 nd) (bq (cC 2 nd (bX h (Pl h) Bb hr bO (bB (av 1))))
 (bq (cC 3 nd (bX h (Pf h) bY hr bO (bB (av 2))))
 (bq (cC 4 nd (bX h (EC h) bY hr bO (bB (bX h (BB h) bY hr bO (ck (av 2) (av 3))))))
 (bq (cC 5 nd (bX h (Np h) bY hr bO (ck (av 2) (av 3))))
 (bq (cC 6 nd (bX h (BE h) bY hr bO (bB (se h (zS h) hr bO (ck (av 4) (av 5))))))
 (bq (cC 7 nd (se h (zS h) hr bO (ck (bX h (EC h) bY hr bO (bB (bX h (BB h) bY hr bO (ck (av 2) (av 3))))) (bX h (LG h) bY hr bO (ck (av 2) (av 5))))))
 (bq (dR (dG (kn (dt (mN hr) (bX h (BE h) bY hr bO (bB (av 7))) (av 6)) (dH (gm (gB (bX h (JA h) bY hr bO (ck (av 4) (av 6)))))))) (bC (cw ig)) dQ)
 (bC (dR (dt (mN hr) (av 5) (gy jt)) (bq (cC 8 nd (bX h (iw h) bY hr bO (ck (av 2) (kB hX QU h (bB (av 5))))))
 (bq (cC 9 nd (bX h (PH h) bY hr bO (ck (av 3) (cP hu (cP hu (av 5) (av 8)) aZ))))
 (bq (cC 10 nd (bX h (BE h) bY hr bO (bB (se h (zS h) hr bO (ck (av 4) (c0 ip (pM (av 5) pL (pz (av 8))) (pM (av 5) (pz (c0 ip (av 8) aZ)) pL)))))))
 (bC (jq QQ rfl (eQ (B1 h (c0 ip (kT (pX rfl) Q1 h (bB (av 6))) (kT (pX rfl) Q1 h (bB (av 10)))))) (eO 11 nd) (bC (dR (dG (oH (dt (qz hr) (cP hu (bX h (wc h) bY hr bO (ck (av 4) (av 11))) aZ) (av 9)) (dH (dt (mN hr) (vg hu (av 6) (av 11)) (vg hu (av 10) (av 11)))))) (bC (cw ig)) dQ))))))) dQ))))))))))
 (bC (cw ig)))⟩
noncomputable def Bg:Fn:=b8 12 1 EY.F
theorem yEk(h:Fx T σ):Od T σ "" "law" 46 10 Bg:=od h EY
end
theorem Le(x:QD):mB [.d (.str x)] []=.ok (.d (.bl (bu x))) []:=by
 have c:x.cps.toList.length<=LM->aK 1 (eS (dV 0)) (gN 1) dE (d2 jx (dV 1) (dC (D.str (Qu "abcdefghijklmnopqrstuvwxyz")))) [Qq (.d (.str x))] []=.ok (.d (.lst ((x.cps.toList.map gz).map .bl))) []:=λo=>by
  have z:=qc (T:=1) (fi:=eS (dV 0)) (g:=gN 1) (f:=d2 jx (dV 1) (dC (D.str (Qu "abcdefghijklmnopqrstuvwxyz")))) (ev:=[Qq (.d (.str x))]) (S:=[]) (x.cps.toList.map λc=>.str ⟨#[c]⟩) (λd=>match d with | .str y=>.bl (gz (y.cps.getD 0 0)) | d=>d) (by
   simp[eS]) (by simp_all) λd j=>by
    obtain⟨k,n,rfl⟩:=Qx.mp j;refine⟨_,rfl,?_⟩;exact r9
  rw[z,Z7,Z7];rfl
 have l:x.length=x.cps.toList.length:=by rfl
 by_cases i:1<=x.length
 ·by_cases h:x.length<=8
  ·have c:=c (by rw[<- l];exact Z9 h (by decide));have a:(1:Int)<=x.length:=by omega
   have b:(x.length:Int)<=8:=by omega
   have e:bu x=(x.cps.toList.map gz).all id:=by
    unfold bu
    simp_all
   generalize x.cps.toList.map gz=m at c e;simp[mB,sL,fA,oE,kK,wG,p0,a,b,c,nN,e]
  ·have a:(1:Int)<=x.length:=by omega
   have b:¬(x.length:Int)<=8:=by omega
   have e:bu x=Qv:=by unfold bu;rw[decide_eq_false h];simp
   simp[mB,sL,fA,oE,kK,wG,p0,a,b,e]
 ·have a:¬(1:Int)<=x.length:=by omega
  have e:bu x=Qv:=by unfold bu;rw[decide_eq_false i];simp
  simp[mB,sL,fA,oE,kK,wG,p0,a,e]
theorem nR(x:QD)(S:aE):rC mB [.d (.str x)] S=.ok (.d (.bl (bu x))) S:=gq (xs:=[.str x]) (Le x)
theorem C3(i:Int)(S:aE):rC Dd [.d (.int i)] S=.ok (.d (.bl Qr)) S:=by
 rfl
theorem Jw(p:n<=999999)(S:aE):rC p4 [.d (.str (bw n)),.d (.int 6)] S=.ok (.d (.bl Qr)) S:=by
 refine gq (xs:=[.str (bw n),.int 6]) (S':=[]) ?_;have q:=wk p;have v:=Qa n;have c:aK 1 (eS (dV 0)) (gN 2) dE (d2 jx (dV 2) (dC (D.str (Qu "0123456789")))) [Qq (.d (.str (bw n))),Qq (.d (.int 6))] []=.ok (.d (.lst (((bw n).cps.toList.map λ_=>Qr).map .bl))) []:=by
  have z:=qc (T:=1) (fi:=eS (dV 0)) (g:=gN 2) (f:=d2 jx (dV 2) (dC (D.str (Qu "0123456789")))) (ev:=[Qq (.d (.str (bw n))),Qq (.d (.int 6))]) (S:=[]) ((bw n).cps.toList.map λc=>.str ⟨#[c]⟩) (λ_=>.bl Qr) (by
   simp[eS]) (by rw[Z0,tR];exact Z9 q (by decide)) λd m=>by
    obtain⟨k,o,rfl⟩:=Qx.mp m;refine⟨_,rfl,?_⟩;have e:decide (k∈("0123456789" : QD).cps.toList)=Qr:=by
     have t:=Ab o;have e:("0123456789" : QD).cps.toList=[48,49,50,51,52,53,54,55,56,57]:=by decide +kernel
     rw[e];have:k=48\/k=49\/k=50\/k=51\/k=52\/k=53\/k=54\/k=55\/k=56\/k=57:=by omega
     simp[this]
    rw[<- e];exact r9
  rw[z,Z7,Z7];rfl
 have a:((bw n).cps.toList.map λ_=>Qr).all id=Qr:=QM.mpr λb u=>by
  simp_all
 generalize ((bw n).cps.toList.map λ_=>Qr)=s at c a;have j:(1:Int)<=(bw n).length:=by omega
 have l:((bw n).length:Int)<=6:=by omega
 by_cases h:1<(bw n).length
 ·have i:(1:Int)<(bw n).length:=by omega
  have r:=IG h;simp[p4,xa,qu,p0,j,l,i,fG,iE,iF,r,c,nN,a]
 ·have i:¬(1:Int)<(bw n).length:=by omega
  simp[p4,xa,qu,p0,j,l,i,c,nN,a]
theorem JK(h:PathOk p)(S:aE):rC vP [.d (.str (ax p))] S=.ok (.d (.bl Qr)) S:=by
 refine gq (xs:=[.str (ax p)]) (S':=[]) ?_;have t:=Dt h (S:=[]);have r:oU (.d (.lst ((aC p).map .str))) []=.ok (.d (.lst ((p.map (·.1)).map .str))) []:=by
  show eU (evens (((aC p).map D.str).map U.d)) []=_;rw[uT,uT,zL];exact hW (by rw[Z0,Z0];exact Z9 h.le (by decide))
 have od:qQ (.d (.lst ((aC p).map .str))) []=.ok (.d (.lst ((p.map λq=>bw q.2).map .str))) []:=by
  have l:1<=(((aC p).map D.str).map U.d).length:=by
   rw[Z0,Z0,mG];have:=TR.mpr h.ne;omega
  show(if 1<=(((aC p).map D.str).map U.d).length then eU (odds (((aC p).map D.str).map U.d)) []else .st)=_;rw[if_pos l,Au,Au,Fe];exact hW (by rw[Z0,Z0];exact Z9 h.le (by decide))
 have s:bZ [.d (.lst ((aC p).map .str))] []=.ok (.d (.int (2*(p.length:Int)))) []:=by
  rw[k8,Z0,mG];simp
 have v:ie (.d (.int (2 *  p.length ))) (.d (.int 2)) []=.ok (.d (.int 0)) []:=by
  rw[p6 (by decide)];simp
 generalize x:(aC p).map D.str=c at t r od s;have n:aK 1 (aL (d1 oU (dV 1))) (gN 2) dE (bN rC mB (au (dV 2) aw)) [Qq (.d (.str (ax p))),Qq (.d (.lst c))] []=.ok (.d (.lst ((p.map λ_=>Qr).map .bl))) []:=by
  have z:=qc (T:=1) (fi:=aL (d1 oU (dV 1))) (g:=gN 2) (f:=bN rC mB (au (dV 2) aw)) (ev:=[Qq (.d (.str (ax p))),Qq (.d (.lst c))]) (S:=[]) ((p.map (·.1)).map .str) (λ_=>.bl Qr) (by
   simp[aL,r,k9]) (by rw[Z0,Z0];exact Z9 h.le (by decide)) λd i=>by
    obtain⟨k,j,rfl⟩:=Qx.mp i;obtain⟨q,m,rfl⟩:=Qx.mp j;refine⟨_,rfl,?_⟩;have e:=nR q.1 [];rw[(h.ok q m).1]at e;exact e
  rw[z,Z7,Z7,Z7];rfl
 have o:aK 1 (aL (d1 qQ (dV 1))) (gN 2) dE (bN rC p4 (au (dV 2) (au (dC (D.int 6)) aw))) [Qq (.d (.str (ax p))),Qq (.d (.lst c))] []=.ok (.d (.lst ((p.map λ_=>Qr).map .bl))) []:=by
  have z:=qc (T:=1) (fi:=aL (d1 qQ (dV 1))) (g:=gN 2) (f:=bN rC p4 (au (dV 2) (au (dC (D.int 6)) aw))) (ev:=[Qq (.d (.str (ax p))),Qq (.d (.lst c))]) (S:=[]) ((p.map λq=>bw q.2).map .str) (λ_=>.bl Qr) (by
   simp[aL,od,k9]) (by rw[Z0,Z0];exact Z9 h.le (by decide)) λd i=>by
    obtain⟨k,j,rfl⟩:=Qx.mp i;obtain⟨q,m,rfl⟩:=Qx.mp j;refine⟨_,rfl,?_⟩;exact Jw (h.ok q m).2 []
  rw[z,Z7,Z7,Z7];rfl
 have a:(p.map λ_=>Qr).all id=Qr:=QM.mpr λb u=>by
  obtain⟨_,_,rfl⟩:=Qx.mp u;rfl
 generalize (p.map λ_=>Qr)=w at n o a;simp[vP,yE,fA,oE,kK,fG,iE,t,s,v,n,o,nN,a]
structure Kd where
 nm:QD
 fs:List (QD×List QD)
 ow:Option QD
noncomputable def oS:Option QD->D
 |none=>.non
 |some x=>.str x
@[simp] theorem L0:oS Qs=.non:=rfl
@[simp] theorem NT{x:QD}:oS (Qq x)=.str x:=rfl
@[simp] theorem F8:fZ (.d (oS a)) (.d (oS b)) S=.ok (.d (.bl (!decide (a=b)))) S:=by
 cases a<;>cases b<;>simp
noncomputable def fD(f:QD×List QD):D:=.tup [.str f.1,.lst (f.2.map .str)]
noncomputable def aP(fs:List (QD×List QD)):D:=.lst (fs.map fD)
noncomputable def qe(k:Kd):List (QD×D):=[("name",.str k.nm),("fields",aP k.fs),("owner",oS k.ow)]
noncomputable def aS(k:Kd):D:=.obj "Kind" (qe k)
noncomputable def uU(ks:List Kd):List (QD×D):=[("by_name",.dct (dK Kd.nm aS ks))]
noncomputable def aU(ks:List Kd):D:=.obj "Kinds" (uU ks)
noncomputable def dB(ks:List Kd)(n:QD):Option Kd:=ks.find? λx=>decide (x.nm=n)
@[simp] theorem yh{ks:List Kd}{S:aE}:fW S (.d (aU ks))=Qq (("Kinds" : QD),bz (uU ks)):=rfl
@[simp] theorem zu{k:Kd}{S:aE}:fW S (.d (aS k))=Qq (("Kind" : QD),bz (qe k)):=rfl
theorem F7:b6 (bz (dK Kd.nm aS ks)) (.inr n)=(dB ks n).map λk=>.d (aS k):=pQ ks
theorem of_eq(a:bu n=Qr)(h:dB ks n=Qq k)(S:aE):rC tW [.d (aU ks),.d (.str n)] S=.ok (.d (aS k)) S:=by
 refine gq (xs:=[aU ks,.str n]) (S':=[]) ?_;have v:=F7 (ks:=ks) (n:=n);rw[h]at v;simp(decide:=Qr) [tW,A1,nR,a,bR,uU,kC,l0,lg,fU,bK,v,bF,aJ.or]
noncomputable def cS(b:List Kd):Option QD->Pa->Bool
 |_,[]=>Qr
 |a,(k,_)::t=>match dB b k with
  |some c=>decide (c.ow=a)&&cS b (Qq k) t
  |none=>Qv
noncomputable def fN:Option QD->Pa->Option QD
 |a,[]=>a
 |_,(k,_)::t=>fN (Qq k) t
noncomputable def vC:FS:=aO (gP (cW (d2 fZ (d1 (bR ct (Qu "owner")) (fk (Qu "of") fK rC (dV 0) (au (dV 4) aw))) (dV 3))) A5 hZ) (aY 3 (dV 4))
theorem NM(a:bu k=Qr)(h:dB ks k=Qq b):vC [Qq (.d (aU ks)),Qq (.d nm),Qq (.d c),Qq (.d (oS b.ow)),Qq (.d (.str k)),y] []=.nx [Qq (.d (aU ks)),Qq (.d nm),Qq (.d c),Qq (.d (.str k)),Qq (.d (.str k)),y] []:=by
 simp(decide:=Qr) [vC,fk,fK,of_eq a h [],bR,qe,uU]
theorem Dy:∀  p   a   x ,(∀q∈p,bu q.1=Qr)->cS ks a p=Qr->∃j,hI (gN 4) vC ((p.map (·.1)).map λk=>.d (.str k)) [Qq (.d (aU ks)),Qq (.d nm),Qq (.d ws),Qq (.d (oS a)),x,y] []=.nx [Qq (.d (aU ks)),Qq (.d nm),Qq (.d ws),Qq (.d (oS (fN a p))),j,y] []
 |[],a,x,_,_=>⟨x,rfl⟩
 |(k,n)::t,a,x,h,b=>by
  have i:=Dy (ks:=ks) (nm:=nm) (ws:=ws) (y:=y) t (Qq k) (Qq (.d (.str k))) λq g=>h q (Z4 _ g);rw[Z8,Z8,hI];rw[cS]at b;simp only[gN,List.set];cases e:dB ks k with
  |none=>rw[e]at b;cases b
  |some l =>
   rw[e]at b;obtain⟨c,f⟩:=Bool.and_eq_true_iff.mp b;obtain rfl:=of_decide_eq_true c;rw[NM (h (k,n) Za) e];exact i f
noncomputable def hJ(p:Pa):Option QD:=if p.length<=1 then Qs else Qq (ax p.dropLast)
noncomputable def eH(p:Pa):Nat:=(p.getLast?.map (·.2)).getD 0
theorem Hi{a:List U}:eN a Qs (Qq (-2))=a.take (a.length-2):=by
 unfold eN HT.sIx;have e:((-2)+(a.length:Int)).toNat=a.length-2:=by omega
 simp[e]
theorem HC(h:n<=999999)(S:aE):nE [.d (.str (bw n))] S=.ok (.d (.int n)) S:=by
 have e:i9 (bw n)=Qq (n:Int):=by
  have r:=PySem.W.KIN.num_reads (n:=n ) (by omega) (by omega);unfold i9;rw[show YD (bw n)=Qq (n:Int)from r];simp only;rw[if_pos ⟨by omega,by omega,rfl⟩]
 show(match i9 (bw n)with|some n=>aJ.ok (U.d (D.int n)) S|none=>.st)=_;rw[e]
theorem EO:aC (p++[(k,n)])=aC p++[k,bw n]:=by rw[Bd];rfl
theorem _root_.My.PathOk.drop{p:Pa}(h:PathOk p)(b:1<p.length):PathOk p.dropLast:=⟨λz=>by
 have:=congrArg Rh z;rw[Xj]at this;simp at this
 omega,by rw[Xj];have:=h.le;omega,λq a=>h.ok q (List.dropLast_subset _ a)⟩
theorem Pe(h:PathOk p)(b:1<p.length):o6 (.d (.lst ((aC p).map .str))) Qs (Qq (-2)) S=.ok (.d (.lst ((aC p.dropLast).map .str))) S:=by
 have a:=h.le;have c:LM=1000000:=rfl;obtain⟨q,⟨k,n⟩,rfl⟩:∃q x,p=q++[x]:=⟨p.dropLast,p.getLast h.ne,(TL h.ne).symm⟩;have dl:(q++[(k,n)]).dropLast=q:=by simp
 rw[dl];show eU (eN (((aC (q++[(k,n)])).map D.str).map U.d) Qs (Qq (-2))) S=_;rw[Hi,EO,Zf,Zf];have:((((aC q).map D.str).map U.d)++Ud U.d (Ud D.str [k,bw n])).length-2=(((aC q).map D.str).map U.d).length:=by simp
 rw[this,List.take_left];refine hW ?_;rw[Z0,mG];rw[Zh]at a;omega
theorem Ks(a:PathOk q):fu (.d (.str ".")) [.d (.lst ((aC q).map .str))] S=.ok (.d (.str (ax q))) S:=by
 have e:=mJ a.le8 (by rw[mG];have:=a.le;omega);have c:Ug "." (aC q)=ax q:=Vb _ _;show(match dw (((aC q).map D.str).map U.d)with|some b=>if SE "." b=Qr/\dZ (Ug "." b)=Qr then aJ.ok (U.d (.str (Ug "." b))) S else .st|none=>.st)=_;rw[qt];simp;rw[if_pos ⟨e,by rw[c];exact a.txt⟩,c]
theorem Hf(h:PathOk p)(J:cS ks Qs p=Qr):lF [.d (aU ks),.d (.str (ax p))] []=.ok (.d (.tup [oS (fN Qs p),oS (hJ p),.int (eH p)])) []:=by
 have G:=Dt h (S:=[]);have C:=JK h [];have ev:oU (.d (.lst ((aC p).map .str))) []=.ok (.d (.lst ((p.map (·.1)).map .str))) []:=by
  show eU (evens (((aC p).map D.str).map U.d)) []=_;rw[uT,uT,zL];exact hW (by rw[Z0,Z0];exact Z9 h.le (by decide))
 have A:bZ [.d (.lst ((aC p).map .str))] []=.ok (.d (.int (2 *  p.length ))) []:=by
  rw[k8,Z0,mG];simp
 have a:=Dy (ks:=ks) (nm:=.str (ax p)) (ws:=.lst ((aC p).map .str)) (y:=Qs) p Qs Qs λq K=>(h.ok q K).1;have o:1<p.length->∀  b c f i j ,fG iE fu (dC (D.str (Qu "."))) (au (ju (dV 2) jy (jz (d1 i3 (dC (D.int 2))))) aw) [b,c,Qq (.d (.lst ((aC p).map .str))),f,i,j] []=.ok (.d (.str (ax p.dropLast))) []:=λt b c f i j=>by
  have w:=Pe h t (S:=[]);have m:fu (U.d (D.str (Qu "."))) [U.d (D.lst ((aC p.dropLast).map .str))] []=.ok (.d (.str (ax p.dropLast))) []:=Ks (h.drop t);generalize ((aC p).map D.str)=W at w ⊢;generalize ((aC p.dropLast).map D.str)=N at w m;simp[fG,iE,ju,jy,jz,i3,w,m]
 have l:∀  b c f i j ,d2 bF (dV 2) (d1 i3 (dC (D.int 1))) [b,c,Qq (.d (.lst ((aC p).map .str))),f,i,j] []=.ok (.d (.str (bw (eH p)))) []:=λb c f i j=>by
  obtain⟨q,⟨k,n⟩,rfl⟩:∃q x,p=q++[x]:=⟨p.dropLast,p.getLast h.ne,(TL h.ne).symm⟩;have H:eH (q++[(k,n)])=n:=by simp[eH]
  have v:fM (((aC (q++[(k,n)])).map D.str).map U.d) (-1)=Qq (.d (.str (bw n))):=by
   rw[EO];have z:((((aC q++[k,bw n]).map D.str).map U.d)).length=(aC q).length+2:=by simp
   have e:iS ((aC q).length+2) (-1)=Qq ((aC q).length+1):=by
    unfold iS;rw[if_neg (by decide)];rw[if_pos (by omega)]
    congr 1
    omega
   unfold fM;rw[z,e];simp
  have:bF (.d (.lst ((aC (q++[(k,n)])).map .str))) (.d (.int (-1))) []=.ok (.d (.str (bw n))) []:=by
   show(match fM (((aC (q++[(k,n)])).map D.str).map U.d) (-1)with|some x=>aJ.ok x []|none=>.st)=_;rw[v]
  rw[H];generalize (by omega)=W at this;simp[i3,this]
 have M:eH p<=999999:=by
  obtain⟨q,⟨k,n⟩,rfl⟩:∃q x,p=q++[x]:=⟨p.dropLast,p.getLast h.ne,(TL h.ne).symm⟩;have:=(h.ok (k,n) (by simp)).2
  simpa[eH]using this
 have u:(((p.map (·.1)).map D.str).map U.d)=((p.map (·.1)).map λk=>U.d (.str k)):=by rw[Z7];rfl
 have I:lF=b8 6 2 (aO (gP (jb (nu (bN rC vP (au (dV 1) aw)))) A5 hZ) (aO (aY 2 (fG iE g8 (dV 1) (au (dC (D.str (Qu "."))) aw))) (aO (aY 3 (dC D.non)) (aO (dP (aL (d1 oU (dV 2))) (gN 4) vC) (aO (aY 5 (pD (cW (d2 k7 (bQ bZ (au (dV 2) aw)) (dC (D.int 2)))) (fG iE fu (dC (D.str (Qu "."))) (au (ju (dV 2) jy (jz (d1 i3 (dC (D.int 2))))) aw)) (dC D.non))) (cD (dW (au (dV 3) (au (dV 5) (au (bQ nE (au (d2 bF (dV 2) (d1 i3 (dC (D.int 1)))) aw)) aw)))))))))):=rfl;rw[I];have r:=HC M [];generalize (aC p).map D.str=O at G ev A a o l;generalize ((p.map (·.1)).map λk=>U.d (.str k))=L at a u;generalize ((p.map (·.1)).map D.str)=E at ev u;have s:=G;obtain⟨P,a⟩:=a J;simp at a;by_cases t:1<p.length
 ·have g:(2:Int)<2*p.length:=by omega
  have B:hJ p=Qq (ax p.dropLast):=by unfold hJ;rw[if_neg (by omega)]
  have o:=o t;simp[C,fG,iE,s,aL,ev,k9,u,a,A,g,B]at o l ⊢;simp(decide:=Qr) [o,l,r,iV]
 ·have g:¬(2:Int)<2*p.length:=by omega
  have B:hJ p=Qs:=by unfold hJ;rw[if_pos (by omega)]
  simp[C,fG,iE,s,aL,ev,k9,u,a,A,g,B]at l ⊢;simp(decide:=Qr) [l,r,iV]
theorem wy(h:PathOk p)(b:cS a Qs p=Qr)(S:aE):rC lF [.d (aU a),.d (.str (ax p))] S=.ok (.d (.tup [oS (fN Qs p),oS (hJ p),.int (eH p)])) S:=gq (xs:=[aU a,.str (ax p)]) (Hf h b)
structure bU(S S':aE)(ws:List Nat):Prop where
 len:S'.length=S.length
 get:∀i,i∉ws->S'[i]?=S[i]?
theorem bU.refl(S:aE)(a:List Nat):bU S S a:=⟨rfl,λ_ ω=>rfl⟩
theorem bU.trans(h:bU S c ws)(a:bU c d ws):bU S d ws:=⟨a.len.trans h.len,λi b=>(a.get i b).trans (h.get i b)⟩
theorem bU.set(h:n∈b):bU S (S.set n c) b:=⟨RR,λi a=>Zy (λz=>a (by rw[<- z];exact h))⟩
theorem tX(h:bJ i=Qr):dI (.d (.int i)) (.d (.int j)) S=.ok (.d (.int (i*j))) S:=by
 have:ly (.d (.int i)) (.d (.int j)) S=.ok (.d (.int (i*j))) S:=by
  show(if(bJ i||bJ j)=Qr then aJ.ok (U.d (D.int (i*j))) S else .st)=_;rw[if_pos (by simp[h])]
 unfold dI;rw[this];rfl
theorem Pk(x:Int):bJ (x%2147483629)=Qr:=by
 unfold bJ;rw[Zl];exact⟨decide_eq_true (by omega),decide_eq_true (by omega)⟩
noncomputable def Ds(a k:Int):Int:=(a%2147483629+69621*k+1)*48271%2147483629
noncomputable def C0(n:Int):Int:=n*(n/1009+69621)%2147483629
noncomputable def GX(n k:Int):Int:=n*(n/907+16807+k)%2147483629
noncomputable def m4(n:Int):Int:=n*(n/1201+30011)%2147483629
theorem On(a k:Int):∃v,∀S,rC zI [.d (.int a),.d (.int k)] S=.ok (.d (.int v)) S:=by
 have M:∀  x  (S:aE),ie (.d (.int x)) (.d (.int 2147483629)) S=.ok (.d (.int (x%2147483629))) S:=λx S=>p6 (by decide);have b:∀(S:aE) (x:Int),dI (.d (.int 69621)) (.d (.int x)) S=.ok (.d (.int (69621*x))) S:=λS x=>tX (by decide);have c:∀(S:aE) (x:Int),dI (.d (.int x)) (.d (.int 48271)) S=.ok (.d (.int (x*48271))) S:=λS x=>EN (by decide);have e:∀  S  (x y:Int),dI (.d (.int (x%2147483629))) (.d (.int y)) S=.ok (.d (.int (x%2147483629*y))) S:=λS x y=>tX (Pk x);have d1:∀(S:aE) (x:Int),jT (.d (.int x)) (.d (.int 1009)) S=.ok (.d (.int (x/1009))) S:=λS x=>tf (by decide) (by decide);have d2:∀(S:aE) (x:Int),jT (.d (.int x)) (.d (.int 907)) S=.ok (.d (.int (x/907))) S:=λS x=>tf (by decide) (by decide);have d3:∀(S:aE) (x:Int),jT (.d (.int x)) (.d (.int 1201)) S=.ok (.d (.int (x/1201))) S:=λS x=>tf (by decide) (by decide);refine⟨m4 (GX (C0 (Ds a k)) k),λS=>gq (xs:=[.int a,.int k]) (S':=[]) ?_⟩;simp(decide:=Qr) [zI,Bw,M,b,c,e,d1,d2,d3,Ds,C0,GX,m4]
theorem iq(H:fR S n)(A:cq S.length S=Qr)(m:0<q)(B:q<2^64):∃v j,0<=v/\v<q/\rC gV [.loc n,.d (.int q)] S=.ok (.d (.int v)) j/\fR j n/\bU S j [n]/\cq j.length j=Qr:=by
 obtain⟨a,b,c,t⟩:=H;have f:=(Qw.mp t).1;have M:∀  x   S ,ie (.d (.int x)) (.d (.int q)) S=.ok (.d (.int (x%q))) S:=λx S=>p6 m;have w:∀  x  (S:aE),jT (.d (.int x)) (.d (.int q)) S=.ok (.d (.int (x/q))) S:=λx S=>tf m B;have g:∀a b c,bI (S.set n (src a b c)) n=Qq [.d (.int a),.d (.int b),.d (.int c)]:=λa b c=>by unfold bI;rw[Q3 f]
 have C:S.set n (src a b c)=S:=by
  apply Sw;intro i;by_cases e:n=i
  ·subst e;rw[Q3 f,t]
  ·rw[Zy e]
 have u:∀a b c x y z,(S.set n (src a b c)).set n (.lst [.d (.int x),.d (.int y),.d (.int z)])=S.set n (src x y z):=λa b c x y z=>List.set_set ..;have o:∀a b c  i  (v:U),fM [.d (.int a),.d (.int b),.d (.int c)] i=Qq v->bF (.loc n) (.d (.int i)) (S.set n (src a b c))=.ok v (S.set n (src a b c)):=λa b c i v h=>by
  have E:bK (S.set n (src a b c)) (.loc n)=Qs:=by show eR _ _=Qs;unfold eR;rw[Q3 f]
  have G:b0 (S.set n (src a b c)) (.loc n)=Qq [.d (.int a),.d (.int b),.d (.int c)]:=g a b c;unfold bF;rw[E];simp[G,h]
 have l:=λa b c=>o a b c 0 (.d (.int a)) rfl;have p:=λa b c=>o a b c 1 (.d (.int b)) rfl;have r:=λa b c=>o a b c 2 (.d (.int c)) rfl;have J:iS 3 0=Qq 0:=by decide
 have K:iS 3 2=Qq 2:=by decide
 have k:∀(v:Int)  x y z ,gV [.loc n,.d (.int q)] (S.set n (src a b c))=.ok (.d (.int v)) (S.set n (src x y z))->rC gV [.loc n,.d (.int q)] S=.ok (.d (.int v)) (S.set n (src x y z))/\fR (S.set n (src x y z)) n/\bU S (S.set n (src x y z)) [n]/\cq (S.set n (src x y z)).length (S.set n (src x y z))=Qr:=λv x y z e=>by
  rw[C]at e;have s:cq S.length (S.set n (src x y z))=Qr:=yw A rfl;exact⟨mT e RR s,⟨x,y,z,Q3 f⟩,bU.set (by simp),by rw[RR];exact s⟩
 by_cases h:0<a
 ·refine⟨a%q,S.set n (src (a/q) b c),YV _ (by omega),X3 _ m,k _ _ _ _ ?_⟩;simp(decide:=Qr) [gV,xA,l,h,M,w,lV,g,J,u]
 ·obtain⟨v,I⟩:=On b (c+1);refine⟨v%q,S.set n (src a b (c+1)),YV _ (by omega),X3 _ m,k _ _ _ _ ?_⟩;simp(decide:=Qr) [gV,xA,l,p,r,h,M,lV,g,K,u,I]
theorem qJ{l:List a}:(dK n v l).length=l.length:=by unfold dK;rw[Z0]
theorem Gw(t:b)(T:List b):g7 (bz (dK n v T)) (.inr (n t)) (.d (v t))=bz (dK n v (if(T.any λy=>decide (n y=n t))=Qr then T.map (λy=>if n y=n t then t else y)else T++[t])):=by
 have e:((bz (dK n v T)).any λa=>decide (a.1=(.inr (n t))))=(T.any λy=>decide (n y=n t)):=by
  unfold bz dK;rw[Z7,ZV]
  congr 1
  funext y;simp
 unfold g7;rw[e];split
 ·unfold bz dK;simp only[Z7];refine TQ λy ω=>?_;by_cases h:n y=n t
  ·simp[h]
  ·simp[h]
 ·simp[bz,dK]
theorem Gi(h:dB ks n=Qq k):k∈ks/\k.nm=n:=⟨R3 h,of_decide_eq_true (TK (p:=λx=>decide (Kd.nm x=n)) h)⟩
theorem EX(h:j<n):iS n  j  = Qq j:=by
 unfold iS
 simp_all
theorem pU{j:Nat}(h:b[j]?=Qq x):bF (.d (.lst b)) (.d (.int  j )) S=.ok (.d x) S:=by
 have c:=(Qw.mp h).1;have a:fM (b.map U.d)  j  = Qq (.d x):=by
  unfold fM;rw[Z0,EX c];simp[h]
 show(match fM (b.map U.d)  j  with|some x=>aJ.ok x S|none=>.st)=_;rw[a]
structure oo(fs:List (QD×List QD)):Prop where
 af:∀S,rC wN [.d (aP fs)] S=.ok (.d (.bl Qr)) S
 cn:∃n:Int,n<=8/\∀S,rC wg [.d (aP fs)] S=.ok (.d (.int n)) S
 le:fs.length<=3
 nd:(fs.map (·.1)).Nodup
 nn:∀f∈fs,bu f.1=Qr
 vn:∀f∈fs,∀v∈f.2,bu v=Qr
 v0:∀f∈fs,0<f.2.length/\f.2.length<=8
theorem OZ(q:bu k.nm=Qr)(a:oo k.fs)(v:∀o,k.ow=Qq o->bu o=Qr/\o≠k.nm)(t:fa ev S=.ok [.d (.str k.nm),.d (aP k.fs),.d (oS k.ow)] S):eC "Kind" qa [] fa ev S=.ok (.d (aS k)) S:=by
 have n:=λS=>nR k.nm S;have j:=a.af;obtain⟨c,x,p⟩:=a.cn;have m:¬ 8<c:=by omega
 have E:LM=1000000:=rfl;have y:=a.le;have l:∀b e h S,aK 1 (aL (dV 2)) (gN 4) dE (dW (au (d2 bF (dV 4) (dC (D.int 0))) (au (bQ cB (au (d2 bF (dV 4) (dC (D.int 1))) aw)) aw))) [b,e,Qq (.d (aP k.fs)),h] S=.ok (.d (aP k.fs)) S:=λb e h S=>by
  have z:=qc (T:=1) (fi:=aL (dV 2)) (g:=gN 4) (f:=dW (au (d2 bF (dV 4) (dC (D.int 0))) (au (bQ cB (au (d2 bF (dV 4) (dC (D.int 1))) aw)) aw))) (ev:=[b,e,Qq (.d (aP k.fs)),h]) (S:=S) (k.fs.map fD) id (by simp[aL,k9,aP]) (by rw[Z0];omega) λd u=>by
   obtain⟨f,i,rfl⟩:=Qx.mp u;refine⟨_,rfl,?_⟩;have A:bF (.d (fD f)) (.d (.int 0)) S=.ok (.d (.str f.1)) S:=j2;have B:bF (.d (fD f)) (.d (.int 1)) S=.ok (.d (.lst (f.2.map .str))) S:=mO;have C:cB [.d (.lst (f.2.map .str))] S=.ok (.d (.lst (f.2.map .str))) S:=by
    have:iD [.d (.lst (f.2.map .str))] S=.ok (.d (.lst (f.2.map .str))) S:=by
     exact hW (by rw[Z0];have:=(a.v0 f i).2;omega)
    unfold cB;rw[this];rfl
   have mt:iV [.d (.str f.1),.d (.lst (f.2.map .str))] S=.ok (.d (fD f)) S:=by rfl
   simp_all
  rw[z,Zal];rfl
 refine zY (xs:=[.str k.nm,aP k.fs,oS k.ow]) ?_ t;cases o:k.ow with
 |none=>simp(decide:=Qr) [qa,xv,n,q,j,p,m,iv,jo,jn,l,qe,o]
 |some z =>
  obtain⟨r,s⟩:=v z o;have w:=λS=>nR z S;simp(decide:=Qr) [qa,xv,n,q,w,r,s,j,p,m,iv,jo,jn,l,qe,o]
inductive dJ:List Kd->Prop where
 |nil:dJ []
 |snoc {ks:List Kd}{k:Kd}:dJ ks->k.nm∉ks.map (·.nm)->(∀o,k.ow=Qq o->o∈ks.map (·.nm))->dJ (ks++[k])
theorem dJ.nd(h:dJ ks):(ks.map (·.nm)).Nodup:=by
 induction h with
 |nil=>exact Yh
 |snoc _ n _ a =>
  rw[Zf,QY]
  simp_all
theorem dJ.ready(h:dJ c){P:List QD}:(∀k∈c,k.nm∈P)\/∃k∈c,k.nm∉P/\∀o,k.ow=Qq o->o∈P:=by
 induction h with
 |nil=>simp_all
 | @snoc c k _ _ l b =>
  rcases b with b|⟨j,a,d,f⟩
  ·by_cases g:k.nm∈P
   ·refine .inl λj a=>?_;rcases QO.mp a with z|z
    all_goals simp_all
   ·refine .inr ⟨k,by simp,g,λo i=>?_⟩;obtain⟨j,a,e⟩:=Qx.mp (l o i);rw[<- e];exact b j a
  ·exact .inr ⟨j,Zj _ a,d,f⟩
theorem yn(h:S[n]?=Qq (.dct es)):eR S n=Qq es:=by unfold eR;rw[h]
noncomputable def aQ(P:List Kd)(k:Kd):Bool:=!decide (k.nm∈P.map (·.nm))&&(decide (k.ow=Qs)||(match k.ow with|some o=>decide (o∈P.map (·.nm))|none=>Qv))
theorem EL:(b6 (bz (dK Kd.nm aS P)) (.inr n)).isSome=decide (n∈P.map (·.nm)):=by
 rw[F7];unfold dB;rw[S8];cases e:P.find? λx=>decide (x.nm=n)with
 |none =>
  simp_all
 |some k =>
  have:=Qx.mpr ⟨k,(Gi e).1,(Gi e).2⟩;rw[decide_eq_true this];rfl
noncomputable def BL:FE:=aK 1 (aL (dV 0)) (gN 4) (eJ (cW (d2 kC (d1 (bR ct (Qu "name")) (dV 4)) (dV 1))) (iG (cW (d2 (fj Qv) (d1 (bR ct (Qu "owner")) (dV 4)) (dC D.non))) (cW (d2 jx (d1 (bR ct (Qu "owner")) (dV 4)) (dV 1))))) (dV 4)
theorem NG{ks P:List Kd}{e2 e3:Option U}(g:ks.length<=5)(f:S[0]?=Qq (.dct (bz (dK Kd.nm aS P)))):BL [Qq (.d (.lst (ks.map aS))),Qq (.loc 0),e2,e3] S=.ok (.d (.lst ((ks.filter (aQ P)).map aS))) S:=by
 have a:bK S (.loc 0)=Qq (bz (dK Kd.nm aS P)):=yn f;refine mZ ks aS (aQ P) aS (by simp[aL,k9]) (Z9 g (by decide)) λk j=>⟨_,rfl,?_,λ_=>rfl⟩;have i:bR ct (Qu "name") (.d (aS k)) S=.ok (.d (.str k.nm)) S:=by rfl
 have e:bR ct (Qu "owner") (.d (aS k)) S=.ok (.d (oS k.ow)) S:=by rfl
 have c:=CH (x:=k.nm) a;rw[EL]at c;unfold aQ;by_cases b:k.nm∈P.map (·.nm)
 ·simp_all
 ·simp[b,Bool.not_false]at c;simp only[b,decide_false,WE];cases o:k.ow with
  |none =>
   simp_all
  |some z =>
   rw[o]at e;have h:=tK (x:=z) a;rw[EL]at h
   simp_all
theorem BX:∀ {ks:List Kd}{S:aE},gW ct (Qu "name") S ((ks.map aS).map .d)=Qq (ks.map λk=>(k.nm,.d (aS k)))
 |[],S=>rfl
 |k::r,S=>by
  have a:=BX (ks:=r) (S:=S);rw[Z8,Z8,gW];generalize (r.map aS).map U.d=b at a ⊢;simp(decide:=Qr) [qe,a]
theorem JY:∀ {ps:List (QD×U)},ps≠[]->∃p,eG ps=Qq p
 |[],h=>absurd rfl h
 |p::r,_=>by
  unfold eG;cases eG r with
  |none=>exact⟨p,rfl⟩
  |some q =>
   simp only;split
   all_goals grind
noncomputable def tJ:FS:=aO (aY 3 (mR ct (Qu "name") (au (dV 2) aw))) (aO (iN (dV 1) (d1 (bR ct (Qu "name")) (dV 3)) (dV 3)) (aY 2 BL))
structure sW(ks:List Kd):Prop where
 nd:(ks.map (·.nm)).Nodup
 ready:∀P:List QD,(∀k∈ks,k.nm∈P)\/∃k∈ks,k.nm∉P/\∀o,k.ow=Qq o->o∈P
theorem dJ.rdy(O:dJ d)(h:R.Perm d):sW R:=⟨(h.map _).nodup_iff.mpr O.nd,λP=>by
 rcases O.ready with z|⟨k,a,b⟩
 ·exact .inl λk c=>z k (h.mem_iff.mp c)
 ·exact .inr ⟨k,h.mem_iff.mpr a,b⟩⟩
noncomputable def Gr(ks P:List Kd):Prop:=∀(i:Nat) (k:Kd),P[i]?=Qq k->k∈ks/\aQ (P.take i) k=Qr/\∀j∈ks,aQ (P.take i) j=Qr->¬fI j.nm k.nm
theorem Gr.snoc(g:Gr ks P)(c:k∈ks)(d:aQ P k=Qr)(f:∀j∈ks,aQ P j=Qr->¬fI j.nm k.nm):Gr ks (P++[k]):=λi x a=>by
 by_cases b:i<P.length
 ·rw[Zi b]at a;rw[List.take_append_of_le_length (Ys b)];exact g i x a
 ·rw[Zm (by omega)]at a;have:i-P.length=0:=by
   rcases Vr (i-P.length)with z|z
   ·exact z
   ·rw[Ya (by simp;omega)]at a;cases a
  rw[this]at a;cases a;have e:i=P.length:=by omega
  simp_all
theorem NA(s:a.length<=5)(O:sW a)(A:P.length<=100)(t:a.filter (aQ P)≠[]):∃k,k∈a/\aQ P k=Qr/\(∀j∈a,aQ P j=Qr->¬fI j.nm k.nm)/\tJ [Qq (.d (.lst (a.map aS))),Qq (.loc 0),Qq (.d (.lst ((a.filter (aQ P)).map aS))),e3] [.dct (bz (dK Kd.nm aS P))]=.nx [Qq (.d (.lst (a.map aS))),Qq (.loc 0),Qq (.d (.lst ((a.filter (aQ (P++[k]))).map aS))),Qq (.d (aS k))] [.dct (bz (dK Kd.nm aS (P++[k])))]:=by
 have B:LM=1000000:=rfl;have u:=BX (ks:=a.filter (aQ P)) (S:=[.dct (bz (dK Kd.nm aS P))]);obtain⟨m,f⟩:=JY (ps:=(a.filter (aQ P)).map λk=>(k.nm,U.d (aS k))) (by simpa using t);obtain⟨k,r,e⟩:=Qx.mp (xm f).1;obtain⟨n,b⟩:=Sn.mp r;have x:(((a.filter (aQ P)).map λk=>(k.nm,U.d (aS k))).map (·.1)).Nodup:=by
  rw[Z7];exact(Zbr _ List.filter_sublist).nodup O.nd
 have w:∀S,S=[cG.dct (bz (dK Kd.nm aS P))]->pT ct (Qu "name") (.d (.lst ((a.filter (aQ P)).map aS))) S=.ok (.d (aS k)) S:=λS o=>by
  subst o;show(match gW ct (Qu "name") [cG.dct (bz (dK Kd.nm aS P))] (((a.filter (aQ P)).map aS).map U.d)with|some g=>if(g.map λp:QD×U=>p.1).Nodup then(match eG g with|some p=>aJ.ok p.2 [cG.dct (bz (dK Kd.nm aS P))]|none=>.st)else .st|none=>.st)=_;rw[u];simp only;rw[if_pos x,f,<- e]
 refine ⟨k,n,b,λj q z=>by
  have:=(xm f).2 (j.nm,U.d (aS j)) (Qx.mpr ⟨j,Sn.mpr ⟨q,z⟩,rfl⟩);rw[<- e]at this
  exact this,?_⟩
 have C:k.nm∉P.map (·.nm):=by
  unfold aQ at b;rw[Zl]at b
  simpa using b.1
 have y:g7 (bz (dK Kd.nm aS P)) (.inr k.nm) (.d (aS k))=bz (dK Kd.nm aS (P++[k])):=by
  rw[Gw,if_neg]
  simp_all
 have l:∀S,bR ct (Qu "name") (.d (aS k)) S=.ok (.d (.str k.nm)) S:=λS=>by rfl
 have v:(dK Kd.nm aS P).length<LM:=by rw[qJ];omega
 have i:=NG (S:=[.dct (bz (dK Kd.nm aS (P++[k])))]) (e2:=Qq (.d (.lst ((a.filter (aQ P)).map aS)))) (e3:=Qq (.d (aS k))) s rfl;have h:∀c,eR [cG.dct c] 0=Qq c:=λ_=>rfl;generalize a.map aS=H at *;generalize (a.filter (aQ P)).map aS=I at *;generalize (a.filter (aQ (P++[k]))).map aS=J at *;generalize dK Kd.nm aS P=E at *;generalize dK Kd.nm aS (P++[k])=G at *;simp[tJ,mR,w,iN,l,h,fU,v,y,i]
theorem Cg(A:b.length<=5)(O:sW b):∀  m   P   e3 ,dJ P->Gr b P->(∀k∈P,k∈b)->(b.filter λk=>!decide (k.nm∈P.map (·.nm))).length<m->∃c f g,da (nu (dV 2)) tJ m [Qq (.d (.lst (b.map aS))),Qq (.loc 0),Qq (.d (.lst ((b.filter (aQ P)).map aS))),e3] [.dct (bz (dK Kd.nm aS P))]=.nx [Qq (.d (.lst (b.map aS))),Qq (.loc 0),f,g] [.dct (bz (dK Kd.nm aS c))]/\dJ c/\Gr b c/\(∀k∈c,k∈b)/\∀k∈b,k.nm∈c.map (·.nm)
 | 0,P,e3,_,_,_,h=>absurd h (Wb _)
 |m+1,P,e3,l,u,y,h=>by
  have L:P.length<=5:=by
   have:=Vg l.nd λx G=>by
    obtain⟨k,s,rfl⟩:=Qx.mp G;exact Qx.mpr ⟨k,y k s,rfl⟩
   rw[Z0,Z0]at this;omega
  by_cases t:b.filter (aQ P)=[]
  ·refine⟨P,Qq (.d (.lst [])),e3,?_,l,u,y,λk s=>?_⟩;rotate_left
   ·rcases O.ready (P.map (·.nm))with z|⟨j,p,v,w⟩
    ·exact z k s
    ·have:j∈b.filter (aQ P):=Sn.mpr ⟨p,by
      unfold aQ
      cases o:j.ow<;>grind⟩
     grind
   ·rw[t,da];rfl
  ·obtain⟨k,B,i,I,N⟩:=NA A O (by omega) t (e3:=e3);have C:k.nm∉P.map (·.nm)/\∀o,k.ow=Qq o->o∈P.map (·.nm):=by
    unfold aQ at i;rw[Zl]at i;refine⟨by simpa using i.1,λo K=>?_⟩
    simp_all
   obtain ⟨c,f,g,H,v,n,w,E⟩:=Cg A O m (P++[k]) (Qq (.d (aS k))) (.snoc l C.1 C.2) (u.snoc B i I) (λj p=>by
    rcases QO.mp p with z|z
    all_goals simp_all) (by
    have e:(b.filter λj=>!decide (j.nm∈(P++[k]).map (·.nm)))=(b.filter λj=>!decide (j.nm∈P.map (·.nm))).filter λj=>!decide (j.nm=k.nm):=by
     rw[XF];refine List.filter_congr λj ω=>?_;rw[Zf];by_cases M:j.nm∈P.map (·.nm)<;>by_cases J:j.nm=k.nm<;>simp[J]at *
    rw[e];have:((b.filter λj=>!decide (j.nm∈P.map (·.nm))).filter λj=>!decide (j.nm=k.nm)).length<(b.filter λj=>!decide (j.nm∈P.map (·.nm))).length:=List.length_filter_lt_length_iff_exists.mpr ⟨k,Sn.mpr ⟨B,by grind⟩,by simp⟩
    omega)
   refine⟨c,f,g,?_,v,n,w,E⟩;rw[<- H,da];have Q:nu (dV 2) [Qq (.d (.lst (b.map aS))),Qq (.loc 0),Qq (.d (.lst ((b.filter (aQ P)).map aS))),e3] [.dct (bz (dK Kd.nm aS P))]=.ok Qr [.dct (bz (dK Kd.nm aS P))]:=by
    cases q:b.filter (aQ P)with
    |nil=>exact absurd q t
    |cons a r =>
     rfl
   simp_all
theorem Ig(f:a.length<=5)(O:sW a):∃P,(∀S,rC vY [.d (.lst (a.map aS))] S=.ok (.d (.dct (dK Kd.nm aS P))) S)/\dJ P/\Gr a P/\(∀k∈P,k∈a)/\∀k∈a,k.nm∈P.map (·.nm):=by
 obtain⟨P,e2,q,n,j,b,l,m⟩:=Cg f O 64 [] Qs .nil (λi k h=>by simp at h) (λk c=>nomatch c) (by have:=Zw (λk=>!decide (k.nm∈([]:List Kd).map (·.nm))) a;omega);refine⟨P,λS=>?_,j,b,l,m⟩;have p:aK 1 (aL (dV 0)) (gN 4) (cW (d2 (fj Qv) (d1 (bR ct (Qu "owner")) (dV 4)) (dC D.non))) (dV 4) [Qq (.d (.lst (a.map aS))),Qq (.loc 0),Qs,Qs] [.dct []]=.ok (.d (.lst ((a.filter (aQ [])).map aS))) [.dct []]:=by
  refine mZ a aS (aQ []) aS (by simp[aL,k9]) (Z9 f (by decide)) λk c=>⟨_,rfl,?_,λ_=>rfl⟩;have r:bR ct (Qu "owner") (.d (aS k)) [.dct []]=.ok (.d (oS k.ow)) [.dct []]:=by rfl
  have e:aQ [] k=h9 (.d (oS k.ow)):=by
   unfold aQ;cases k.ow<;>simp
  simp_all
 have run:vY [.d (.lst (a.map aS))] []=.ok (.loc 0) [.dct (bz (dK Kd.nm aS P))]:=by
  have g:vY=b8 4 1 (aO (aY 1 iQ) (aO (aY 2 (aK [Qu "kind"].length (aL (dV 0)) (gN 4) (cW (d2 (fj Qv) (d1 (bR ct (Qu "owner")) (dV 4)) (dC D.non))) (dV 4))) (aO (iP 64 (nu (dV 2)) tJ) (cD (dV 1))))):=rfl;rw[g];have o:iP 64 (nu (dV 2)) tJ [Qq (.d (.lst (a.map aS))),Qq (.loc 0),Qq (.d (.lst ((a.filter (aQ [])).map aS))),Qs] [.dct []]=_:=n
  simp_all
 refine sZ (xs:=[.lst (a.map aS)]) run ?_;show(bP (cZ 3 _) (bz (dK Kd.nm aS P))).map D.dct=_;rw[vR λx=>vj];rfl
theorem wt{xs:List QD}(k:∀x∈xs,bu x=Qr)(n:xs.Nodup)(q:xs.length<=100)(S:aE):rC yY [.d (.lst (xs.map .str))] S=.ok (.d (.bl Qr)) S:=by
 refine gq (xs:=[.lst (xs.map .str)]) (S':=[]) ?_;have r:LM=1000000:=rfl;have c:aK 1 (aL (dV 0)) (gN 1) dE (bN rC mB (au (dV 1) aw)) [Qq (.d (.lst (xs.map .str)))] []=.ok (.d (.lst ((xs.map λ_=>Qr).map .bl))) []:=by
  have z:=mZ (T:=1) (fi:=aL (dV 0)) (g:=gN 1) (t:=dE) (fe:=bN rC mB (au (dV 1) aw)) (ev:=[Qq (.d (.lst (xs.map .str)))]) xs .str (λ_=>Qr) (λ_=>.bl Qr) (by simp [aL,k9]) (by omega) λx m=>⟨_,rfl,rfl,λ_=>by
   have e:=nR x [];rw[k x m]at e
   exact e⟩
  rw[z,SN.mpr λ_ ω=>rfl,Z7];rfl
 have f:(xs.map λ_=>Qr).all id=Qr:=QM.mpr λb p=>by
  simp_all
 have j:∀a,a[0]?=Qq (Qq (.d (.lst (xs.map .str))))->gS (dV 0) a []=.ok (.d (.int xs.length)) []:=λa l=>by
  have d:=OI xs;rw[decide_eq_true n]at d;unfold gS;rw[Cj l];show(match dw ((xs.map D.str).map U.d)with|some h=>if h.length<=4000 then aJ.ok (U.d (.int (dl h).length)) []else .st|none=>.st)=_;rw[qt];simp;rw[if_pos (by omega),of_decide_eq_true d]
 have i:bZ [.d (.lst (xs.map .str))] []=.ok (.d (.int xs.length)) []:=by rw[k8,Z0]
 generalize (xs.map λ_=>Qr)=o at c f;generalize xs.map D.str=s at c j i;simp[yY,zg,c,nN,f,j,i]
theorem Hl(I:0<ks.length)(v:ks.length<=5)(O:sW ks)(w:∀k∈ks,bu k.nm=Qr):∃P,dJ P/\Gr ks P/\(∀k∈P,k∈ks)/\(∀k∈ks,k.nm∈P.map (·.nm))/\∀ {e:iu}{c:Ev}{S:aE},e c S=.ok [.d (.lst (ks.map aS))] S->eC "Kinds" sF [] e c S=.ok (.d (aU P)) S:=by
 have L:LM=1000000:=rfl;obtain⟨P,E,r,f,s,n⟩:=Ig v O;refine⟨P,r,f,s,n,fun {e c S} u=>zY (xs:=[.lst (ks.map aS)]) ?_ u⟩;have p:∀S,rC z6 [.d (.lst (ks.map aS))] S=.ok (.d (.bl Qr)) S:=λS=>by
  refine gq (xs:=[.lst (ks.map aS)]) (S':=[]) ?_;have l:aK 1 (aL (dV 0)) (gN 1) dE (d1 (kP cX qj (Qu "Kind")) (dV 1)) [Qq (.d (.lst (ks.map aS)))] []=.ok (.d (.lst ((ks.map λ_=>Qr).map .bl))) []:=by
   have z:=mZ (T:=1) (fi:=aL (dV 0)) (g:=gN 1) (t:=dE) (fe:=d1 (kP cX qj (Qu "Kind")) (dV 1)) (ev:=[Qq (.d (.lst (ks.map aS)))]) (S:=[]) ks aS (λ_=>Qr) (λ_=>.bl Qr) (by simp[aL,k9]) (by omega) λx a=>⟨_,rfl,rfl,λ_=>rfl⟩;rw[z,SN.mpr λ_ ω=>rfl,Z7];rfl
  have m:aK 1 (aL (dV 0)) (gN 1) dE (d1 (bR ct (Qu "name")) (dV 1)) [Qq (.d (.lst (ks.map aS)))] []=.ok (.d (.lst ((ks.map (·.nm)).map .str))) []:=by
   have z:=mZ (T:=1) (fi:=aL (dV 0)) (g:=gN 1) (t:=dE) (fe:=d1 (bR ct (Qu "name")) (dV 1)) (ev:=[Qq (.d (.lst (ks.map aS)))]) ks aS (λ_=>Qr) (λk=>.str k.nm) (by simp [aL,k9]) (by omega) λx a=>⟨_,rfl,rfl,λ_=>by
    have q:bR ct (Qu "name") (.d (aS x)) []=.ok (.d (.str x.nm)) []:=by rfl
    exact q⟩
   rw[z,SN.mpr λ_ ω=>rfl,Z7];rfl
  have o:=wt (λx a=>by
   obtain⟨k,h,rfl⟩:=Qx.mp a
   exact w k h) O.nd (by rw[Z0];omega) []
  have j:(ks.map λ_=>Qr).all id=Qr:=QM.mpr λb J=>by
   simp_all
  have i:bZ [.d (.lst (ks.map aS))] []=.ok (.d (.int ks.length)) []:=by rw[k8,Z0]
  have A:¬ks=[]:=λz=>by simp_all
  have F:fA cX "list" (.d (.lst (ks.map aS))) []=.ok (.d (.bl Qr)) []:=rfl;generalize (ks.map λ_=>Qr)=H at l j;generalize (ks.map (·.nm)).map D.str=N at m o;generalize ks.map aS=G at *;simp[z6,yj,F,i,A,l,nN,j,m,o]
 have K:ks.length<=P.length:=by
  have:=Vg O.nd λx a=>by
   obtain⟨k,h,rfl⟩:=Qx.mp a;exact n k h
  simp_all
 have i:∀S,bZ [.d (.lst (ks.map aS))] S=.ok (.d (.int ks.length)) S:=λS=>by rw[k8,Z0]
 have B:∀S,bZ [.d (.dct (dK Kd.nm aS P))] S=.ok (.d (.int P.length)) S:=λS=>by
  have:nM [.d (.dct (dK Kd.nm aS P))] S=.ok (.d (.int P.length)) S:=by
   show aJ.ok (U.d (.int (bz (dK Kd.nm aS P)).length)) S=_;rw[AZ,qJ]
  unfold bZ;rw[this];rfl
 have C:¬  P.length  < ks.length:=by omega
 generalize ks.map aS=G at *;generalize y:dK Kd.nm aS P=M at *;simp(decide:=Qr) [sF,Ar,p,E,i,B,C,iv,jo,jn,uU,y]
theorem Bl{g:List Kd}(i:(g.map (·.nm)).Nodup)(d:a∈g)(f:b∈g)(h:a.nm=b.nm):a=b:=by
 induction g with
 |nil=>cases d
 |cons c r k =>
  rw[Z8,Yb]at i;rcases QL.mp d with e|d<;>rcases QL.mp f with j|f
  ·rw[e,j]
  ·exact absurd (Qx.mpr ⟨b,f,by rw[<- e,h]⟩) i.1
  ·simp_all
  ·exact k i.2 d f
theorem DK(h:aQ P k=Qr):k.nm∉P.map (·.nm):=by
 unfold aQ at h;rw[Zl]at h
 simpa using h.1
theorem NX(i:∀k,k∈s ↔ k∈l)(w:(s.map (·.nm)).Nodup)(g:Gr s P)(t:Gr l d)(c:∀k∈s,k.nm∈P.map (·.nm))(u:∀k∈l,k.nm∈d.map (·.nm)):P=d:=by
 have x:∀n,P.take n=d.take n:=λn=>by
  induction n with
  |zero=>rfl
  |succ n j =>
   rw[Ym,Ym,j]
   congr 2
   cases e:P[n]? with
   |none =>
    cases m:d[n]? with
    |none=>rfl
    |some k =>
     obtain⟨f,o,_⟩:=t n k m;have:=c k ((i k).mpr f);rw[<- Rj (Q2.mp e),j]at this;exact absurd this (DK o)
   |some k =>
    obtain⟨f,o,v⟩:=g n k e;cases m:d[n]? with
    |none =>
     have:=u k ((i k).mp f);rw[<- Rj (Q2.mp m),<- j]at this;exact absurd this (DK o)
    |some p =>
     obtain⟨h,q,r⟩:=t n p m;have a:=v p ((i p).mpr h) (by rw[j];exact q);have b:=r k ((i k).mp f) (by rw[<- j];exact o);rw[Bl w f ((i p).mpr h) (vS b a)]
 have:=x (P.length+d.length)
 rwa [Rj (by omega),Rj (by omega)]at this
noncomputable def bM:List QD:=["a", "ac", "ab", "b", "box", "boxes", "bo", "zzzzzzzz", "abcdefgh", "of", "kind", "lid", "l", "is", "not", "want", "red", "lids", "wanted"]
noncomputable def lU:List Nat:=[97,98,99,100,101,102,103,104,105,106,107,108,109,110,111,112,113,114,115,116,117,118,119,120,121,122]
theorem Je:cH.cps.toList=lU:=by decide +kernel
theorem Dw:c∈lU ↔ 97<=c/\c<=122:=by
 refine⟨λh=>(by decide +kernel:∀c∈lU,97<=c/\c<=122) c h,λ⟨a,b⟩=>?_⟩;have:=(by decide +kernel:∀i<26,97+i∈lU) (c-97) (by omega)
 simp_all
theorem Ly:gz c=Qr ↔ 97<=c/\c<=122:=by
 unfold gz;rw[Je,decide_eq_true_eq,Dw]
theorem wM:∀x∈bM,(1<=x.length/\x.length<=8)/\∀c∈x.cps.toList,97<=c/\c<=122:=by decide +kernel
theorem LP:bM.Nodup:=by decide +kernel
noncomputable def dU(t c:Nat):Nat:=97+(c-97+t)%26
noncomputable def hV(t:Nat)(x:QD):QD:=⟨(x.cps.toList.map (dU t)).toArray⟩
theorem FR(t c:Nat):97<=dU t c/\dU t c<=122:=by unfold dU;omega
theorem LR(a:97<=c/\c<=122)(b:97<=d/\d<=122)(h:dU t c=dU t d):c=d:=by unfold dU at h;omega
theorem As(t:Nat)(x:QD):(hV t x).length=x.length:=by
 show((x.cps.toList.map (dU t)).toArray).size=x.cps.size
 simp_all
theorem Ed{f:Nat->Nat}:∀ {l m:List Nat},(∀c∈l,∀d∈m,f c=f d->c=d)->l.map f=m.map f->l=m
 |[],[],_,_=>rfl
 |[],_::_,_,h=>by cases h
 |_::_,[],_,h=>by cases h
 |a::l,b::m,k,h=>by
  rw[Z8,Z8]at h;injection h with e g;rw[k a Za b Za e,Ed (λc i d j=>k c (Z4 _ i) d (Z4 _ j)) g]
theorem Ja(g:∀c∈x.cps.toList,97<=c/\c<=122)(i:∀c∈y.cps.toList,97<=c/\c<=122)(h:hV t x=hV t y):x=y:=by
 injection h with h;have a:x.cps.toList.map (dU t)=y.cps.toList.map (dU t):=by simp_all
 have e:=Ed (λc b d f q=>LR (g c b) (i d f) q) a;cases x
 simp_all
theorem N5(b:1<=x.length)(e:x.length<=8):bu (hV t x)=Qr:=by
 unfold bu;rw[As,decide_eq_true b,decide_eq_true e,WE,WE,Zp];intro c f;have a:c∈x.cps.toList.map (dU t):=by simpa[hV]using f
 obtain⟨d,_,rfl⟩:=Qx.mp a;exact Ly.mpr (FR t d)
theorem Fj(t:Nat)(x:QD):Q9 (hV t x)=Qr:=by
 unfold Q9;rw[Array.all_eq_true'];intro c b;have a:c∈x.cps.toList.map (dU t):=by simpa[hV]using b
 obtain⟨d,_,rfl⟩:=Qx.mp a;have:=FR t d;simp;omega
theorem qX:∀s<19,∀d<19,0<s->0<d->(s*d)%19≠0:=by decide +kernel
theorem OY(c:0<s)(b:s<19)(d:i<j)(f:j<19)(h:(a+s*i)%19=(a+s*j)%19):False:=by
 have e:s*j=s*i+s*(j-i):=by rw[<- Nat.mul_add];congr 1;omega
 refine qX s b (j-i) (by omega) c (by omega) ?_;rw[e]at h;omega
noncomputable def nm(a s t k:Nat):QD:=hV t (bM[(a+s*k)%19]?.getD "")
theorem vr(i:Nat)(h:i<19):∃x,bM[i]?=Qq x/\x∈bM:=by
 have a:=h;exact⟨bM[i],Z2 a,X6 _⟩
theorem tH(a s t k:Nat):bu (nm a s t k)=Qr/\Q9 (nm a s t k)=Qr/\(nm a s t k).length<=8:=by
 obtain⟨x,e,d⟩:=vr ((a+s*k)%19) (Yj _ (by decide));unfold nm;rw[e,Yg];obtain⟨⟨c,b⟩,_⟩:=wM x d;exact⟨N5 c b,Fj t x,by rw[As];exact b⟩
theorem sk(g:0<s)(b:s<19)(d:i<j)(f:j<19):nm a s t i≠nm a s t j:=by
 intro h;obtain⟨x,e,k⟩:=vr ((a+s*i)%19) (Yj _ (by decide));obtain⟨y,c,l⟩:=vr ((a+s*j)%19) (Yj _ (by decide));unfold nm at h;rw[e,c,Yg,Yg]at h;have q:=Ja (wM x k).2 (wM y l).2 h;subst q;have z:=(XX (Yj _ (by decide)) LP).mp (e.trans c.symm);exact OY g b d f z
theorem CY(c:0<s)(b:s<19):∀n,n<=19->((Q7 n).map (nm a s t)).Nodup
 | 0,_=>Yh
 |n+1,h=>by
  rw[List.range_succ,Zf];refine QY.mpr ⟨CY c b n (by omega),by simp,?_⟩;intro x f y d;simp at d;subst d;obtain⟨i,e,rfl⟩:=Qx.mp f;exact sk c b (R9.mp e) (by omega)
theorem KD:∀c∈lU,QR cH ⟨#[c]⟩ 0 cH.length 1=[c-97]:=by decide +kernel
theorem nX:∀cs:List Nat,Rv ⟨#[]⟩ (cs.map λc=>(⟨#[c]⟩))=⟨cs.toArray⟩
 |[]=>rfl
 |[c]=>rfl
 |c::d::r=>by
  show(⟨#[c]⟩)++⟨#[]⟩++Rv ⟨#[]⟩ ((d::r).map λc=>(⟨#[c]⟩))=_;rw[nX (d::r)];show(⟨(#[c]++#[])++(d::r).toArray⟩:QD)=_
  simp_all
theorem nc{cs:List Nat}(h:cs.length<=1000):SE (⟨#[]⟩) (cs.map λc=>(⟨#[c]⟩))=Qr:=by
 have b:∀(l:List Nat)  n ,(l.map λc=>(⟨#[c]⟩:QD)).foldl (λa x=>a+x.length+(⟨#[]⟩:QD).length) n=n+l.length:=by
  intro l
  induction l with
  |nil=>intro n;rfl
  |cons c r d =>
   intro n;rw[Z8,Zz,d,Zg];show n+1+0+r.length=_;omega
 unfold SE;rw[XE,b];have:=kR h;unfold Wi;simp;omega
theorem OP{c t:Nat}(f:97<=c/\c<=122)(S:aE):rC pY [.d (.str ⟨#[c]⟩),.d (.int t)] S=.ok (.d (.str ⟨#[dU t c]⟩)) S:=by
 refine gq (xs:=[.str ⟨#[c]⟩,.int t]) (S':=[]) ?_;have g:nj (.d (.str (Qu "abcdefghijklmnopqrstuvwxyz"))) [.d (.str ⟨#[c]⟩)] []=.ok (.d (.int ((c-97:Nat)))) []:=by
  have:=KD c (Dw.mpr f);show(match QR cH ⟨#[c]⟩ 0 cH.length 1 with|i::_=>aJ.ok (U.d (D.int  i )) []|[]=>.st)=_;rw[this]
 have a:∀j:Nat,j<26->fM cH.cps.toList  j  = Qq (97+j):=by decide +kernel
 have b:bF (.d (.str (Qu "abcdefghijklmnopqrstuvwxyz"))) (.d (.int ((((c-97:Nat):Int) +  t )%26))) []=.ok (.d (.str ⟨#[dU t c]⟩)) []:=by
  have e:(((c-97:Nat))+(t:Int))%26=(((c-97+t)%26:Nat)):=by omega
  rw[e];show(match fM cH.cps.toList (((c-97+t)%26:Nat))with|some k=>aJ.ok (U.d (D.str ⟨#[k]⟩)) []|none=>.st)=_;rw[a _ (Yj _ (by decide))];rfl
 have h:∀x ,ie (.d (.int x)) (.d (.int 26)) []=.ok (.d (.int (x%26))) []:=λx=>p6 (by decide);simp(decide:=Qr) [pY,zy,fG,g,h,b]
theorem BY(i:Nat)(h:i<19):∃x,bM[i]?=Qq x/\(1<=x.length/\x.length<=8)/\∀c∈x.cps.toList,97<=c/\c<=122:=by
 obtain⟨x,e,a⟩:=vr i h;exact⟨x,e,wM x a⟩
theorem uo(h:a.length+b.length<=LM):cN (.d (.lst a)) (.d (.lst b)) S=.ok (.d (.lst (a++b))) S:=by
 have:m9 (.d (.lst a)) (.d (.lst b)) S=.ok (.d (.lst (a++b))) S:=by
  show eU (a.map U.d++b.map U.d) S=_;rw[<- Zf,hW (by simp_all)]
 unfold cN;rw[this];rfl
theorem kF{b:Type}{T:Nat}(xs:List b)(f q:b->D)(i:fi ev S=.ok (.items ((xs.map f).map .d)) S)(j:xs.length<=LM)(h:∀x∈xs,∃a,g (.d (f x)) (ev++QE T Qs)=Qq a/\fe a S=.ok (.d (q x)) S):aK T fi g dE fe ev S=.ok (.d (.lst (xs.map q))) S:=by
 have z:=mZ (t:=dE) xs f (λ_=>Qr) q i j λx k=>let⟨a,c,e⟩:=h x k;⟨a,c,rfl,λ_=>e⟩;rw[z,SN.mpr λ_ ω=>rfl]
theorem iU(h:a[i]?=Qq (Qq (.d (.lst xs)))):aL (dV i) a S=.ok (.items (xs.map .d)) S:=by
 unfold aL;rw[Cj h];rfl
theorem uf{t:Nat}{b e e2 f g h:Option U}(i:x.length<=8/\∀c∈x.cps.toList,97<=c/\c<=122):
 fG iE fu (dC (.str "")) (au (aK 1 (eS (dV 7)) (gN 8) dE (bN rC pY (au (dV 8) (au (dV 5) aw)))) aw) [b,e,e2,f,g,Qq (.d (.int t)),h,Qq (.d (.str x))] S=.ok (.d (.str (hV t x))) S:=by
 have o:x.cps.toList.length<=8:=i.1;have c:aK 1 (eS (dV 7)) (gN 8) dE (bN rC pY (au (dV 8) (au (dV 5) aw))) [b,e,e2,f,g,Qq (.d (.int t)),h,Qq (.d (.str x))] S=.ok (.d (.lst (((x.cps.toList.map (dU t)).map λc=>(⟨#[c]⟩)).map .str))) S:=by
  rw[Z7,Z7];exact kF x.cps.toList (λc=>.str ⟨#[c]⟩) _ (by simp[eS]) (Z9 o (by decide)) λc l=>⟨_,rfl,OP (i.2 c l) S⟩
 have j:fu (.d (.str (Qu ""))) [.d (.lst (((x.cps.toList.map (dU t)).map λc=>(⟨#[c]⟩:QD)).map .str))] S=.ok (.d (.str (hV t x))) S:=by
  have k:Ug (Qu "") ((x.cps.toList.map (dU t)).map λc=>(⟨#[c]⟩))=hV t x:=(Vb _ _).trans (nX _);have n:=nc (cs:=x.cps.toList.map (dU t)) (by rw[Z0];omega);show(match dw ((((x.cps.toList.map (dU t)).map λc=>(⟨#[c]⟩)).map D.str).map U.d)with|some a=>if SE "" a=Qr/\dZ (Ug "" a)=Qr then aJ.ok (U.d (.str (Ug "" a))) S else .st|none=>.st)=_;rw[qt];simp only;rw[if_pos ⟨n,by rw[k];exact vH (by rw[As];omega) (Fj t x)⟩,k]
 have m:iE (.d (.str (Qu ""))) S=Qr:=rfl;generalize (((x.cps.toList.map (dU t)).map λc=>(⟨#[c]⟩)).map D.str)=q at c j;simp[fG,c,j,m]
theorem za:∀S,eU [.d (.str (Qu "a")),.d (.str (Qu "ac")),.d (.str (Qu "ab")),.d (.str (Qu "b")),.d (.str (Qu "box")),.d (.str (Qu "boxes")),.d (.str (Qu "bo")),.d (.str (Qu "zzzzzzzz")),.d (.str (Qu "abcdefgh")),.d (.str (Qu "of"))] S=.ok (.d (.lst ((bM.take 10).map .str))) S:=λS=>hW (ds:=(bM.take 10).map .str) (by decide)
theorem x8:∀S,eU [.d (.str (Qu "kind")),.d (.str (Qu "lid")),.d (.str (Qu "l")),.d (.str (Qu "is")),.d (.str (Qu "not")),.d (.str (Qu "want")),.d (.str (Qu "red")),.d (.str (Qu "lids")),.d (.str (Qu "wanted"))] S=.ok (.d (.lst ((bM.drop 10).map .str))) S:=λS=>hW (ds:=(bM.drop 10).map .str) (by decide)
theorem zf:∀S,cN (.d (.lst ((bM.take 10).map .str))) (.d (.lst ((bM.drop 10).map .str))) S=.ok (.d (.lst (bM.map .str))) S:=λS=>by rfl
theorem v8(h:0<=i/\i<1000000):bJ i=Qr:=by
 unfold bJ;rw[decide_eq_true (by omega),decide_eq_true (by omega)];rfl
theorem tx(a b k:Nat)(S:aE):ie (.d (.int ( a  + (1 +  b ) *  k ))) (.d (.int 19)) S=.ok (.d (.int (((a+(b+1)*k)%19:Nat)))) S:=by
 rw[p6 (by decide),Int.natCast_emod,YU,YT,YU,Zao 1,show((19:Nat):Int)=19 from rfl,show((1:Nat):Int)=1 from rfl]
theorem gj(d:b a S=.ok x S)(e:c a S=.ok y S):d2 g b c a S=g x y S:=by
 simp_all
theorem LX{a b k:Nat}(h:b<18):d2 bF (dV 2) (d2 ie (d2 cN (dV 3) (d2 dI (dV 4) (dV 7))) (dC (D.int 19))) [i,j,Qq (.d (.lst (bM.map .str))),Qq (.d (.int a)),Qq (.d (.int (1+b))),l,m,Qq (.d (.int k))] S=.ok (.d (.str (bM[(a+(b+1)*k)%19]?.getD ""))) S:=by
 obtain⟨x,e,n⟩:=BY ((a+(b+1)*k)%19) (Yj _ (by decide));have g:dI (.d (.int (1 +  b ))) (.d (.int  k )) S=.ok (.d (.int ((1 +  b ) *  k ))) S:=tX (v8 (by omega));have f:=tx a b k S;have c:bF (.d (.lst (bM.map .str))) (.d (.int (((a+(b+1)*k)%19:Nat)))) S=.ok (.d (.str x)) S:=pU (by simp_all);rw[e,Yg];generalize bM.map D.str=o at *;rw[gj rfl ?_]
 ·exact c
 ·rw[gj ?_ rfl]
  ·exact f
  ·rw[gj rfl (y:=.d (.int ((1 +  b ) *  k ))) ?_]
   ·rfl
   ·rw[gj rfl rfl];exact g
theorem A9(I:fR S n)(C:cq S.length S=Qr)(m:Nat)(H:m<=19):∃(l:List QD) (f:aE),rC ma [.loc n,.d (.int m)] S=.ok (.d (.lst (l.map .str))) f/\fR f n/\bU S f [n]/\cq f.length f=Qr/\l.length=m/\l.Nodup/\∀x∈l,bu x=Qr:=by
 obtain⟨v1,S1,s,b1,P,X,L,y⟩:=iq I C (q:=19) (by decide) (by decide);obtain⟨v2,S2,u,b2,Q,Y,M,A⟩:=iq X y (q:=18) (by decide) (by decide);obtain⟨v3,S3,v,b3,R,Z,N,B⟩:=iq Y A (q:=26) (by decide) (by decide);obtain⟨v4,c,w,b4,W,s4,O,p⟩:=iq Z B (q:=2) (by decide) (by decide);have K:=((L.trans M).trans N).trans O;obtain⟨a,rfl⟩:=QN s;obtain⟨b,rfl⟩:=QN u;obtain⟨h,rfl⟩:=QN v;obtain⟨j,rfl⟩:=QN w;obtain⟨t,J⟩:∃t:Nat,bF (.d (.lst [.int 0,.int  h ])) (.d (.int  j )) c=.ok (.d (.int  t )) c:=by
  have:j=0\/j=1:=by omega
  rcases this with rfl|rfl
  ·exact⟨0,rfl⟩
  ·exact⟨h,rfl⟩
 refine⟨(Q7 m).map (My.nm a (b+1) t),c,?_,s4,K,p,by simp,CY (by omega) (by omega) m H,λx i=>?_⟩
 ·refine mT ?_ K.len (by rw[<- K.len];exact p);have lm:LM=1000000:=rfl;have w1:=za;have w2:=x8;have w3:=zf;have w4:∀S,eU [.d (.int 0),.d (.int  h )] S=.ok (.d (.lst [.int 0,.int  h ])) S:=λS=>hW (ds:=[.int 0,.int (h:Nat)]) (by show 2<=LM;decide);have r:aK 1 (jR (au (dV 1) aw)) (gN 7) dE (d2 bF (dV 2) (d2 ie (d2 cN (dV 3) (d2 dI (dV 4) (dV 7))) (dC (D.int 19)))) [Qq (.loc n),Qq (.d (.int m)),Qq (.d (.lst (bM.map .str))),Qq (.d (.int a)),Qq (.d (.int (1+b))),Qq (.d (.int t)),Qs] c=.ok (.d (.lst (((Q7 m).map λk=>bM[(a+(b+1)*k)%19]?.getD "").map .str))) c:=by
   rw[Z7];refine kF (Q7 m) (λk=>.int k) _ ?_ (by rw[Y2];omega) λk G=>⟨_,rfl,?_⟩
   ·have E:-(2^62)<=(m:Int)/\m<=LM:=by omega
    simp[jR,E]
   ·exact LX (by omega)
  have o:aK 1 (aL (dV 6)) (gN 7) dE (fG iE fu (dC (D.str (Qu ""))) (au (aK 1 (eS (dV 7)) (gN 8) dE (bN rC pY (au (dV 8) (au (dV 5) aw)))) aw)) [Qq (.loc n),Qq (.d (.int m)),Qq (.d (.lst (bM.map .str))),Qq (.d (.int a)),Qq (.d (.int (1+b))),Qq (.d (.int t)),Qq (.d (.lst (((Q7 m).map λk=>bM[(a+(b+1)*k)%19]?.getD "").map .str)))] c=.ok (.d (.lst (((Q7 m).map (My.nm a (b+1) t)).map .str))) c:=by
   have z:=kF (T:=1) (fi:=aL (dV 6)) (g:=gN 7) (ev:=[Qq (.loc n),Qq (.d (.int m)),Qq (.d (.lst (bM.map .str))),Qq (.d (.int a)),Qq (.d (.int (1 + b))),Qq (.d (.int t)),Qq (.d (.lst (((Q7 m).map λk=>bM[(a + (b + 1) * k) % 19]?.getD "").map .str)))]) (S:=c) (Q7 m) (λk=>.str (bM[(a + (b + 1) * k) % 19]?.getD "")) (λk=>.str (My.nm a (b + 1) t k)) (by rw [iU rfl,Z7,Z7,Z7];rfl) (by rw [Y2];omega) λk G=>⟨_,rfl,by
    obtain⟨x,e,i⟩:=BY ((a+(b+1)*k)%19) (Yj _ (by decide));unfold My.nm;rw[e,Yg]
    exact uf ⟨i.1.2,i.2⟩⟩
   rw[z,Z7];rfl
  generalize ((Q7 m).map λk=>bM[(a+(b+1)*k)%19]?.getD "").map D.str=q1 at r o;generalize ((Q7 m).map (My.nm a (b+1) t)).map D.str=q2 at o ⊢;generalize bM.map D.str=q3 at *;generalize (bM.take 10).map D.str=q4 at *;generalize (bM.drop 10).map D.str=q5 at *;simp(decide:=Qr) [ma,zP,P,Q,R,W,J,w1,w2,w3,w4,r,o]
 ·obtain⟨k,_,rfl⟩:=Qx.mp i;exact(tH _ _ _ _).1
theorem EW{m:Type}(f:m->U)(R:m->D->Prop)(J:aE->Prop):∀(xs:List m)  a   S ,J S->(∀x∈xs,∀S,J S->∃(b:Ev) (d:D) (c:aE),g (f x) ev=Qq b/\fe b S=.ok (.d d) c/\J c/\R x d)->∃(k:List D) (c:aE),dy g dE fe ev (xs.map f) a S=.ok (a++k.map .d) c/\J c/\k.length=xs.length/\∀(i:Nat) x d,xs[i]?=Qq x->k[i]?=Qq d->R x d
 |[],a,S,j,_=>⟨[],S,by simp[dy],j,rfl,λi x d h=>by simp at h⟩
 |x::r,a,S,j,h=>by
  obtain⟨b,d,n,p,q,v,B⟩:=h x Za S j;obtain⟨k,o,e,w,l,A⟩:=EW f R J r (a++[.d d]) n v λx s=>h x (Z4 _ s);refine⟨d::k,o,?_,w,by simp_all,λi y z t u=>?_⟩
  ·rw[Z8,dy,p];simp[dE,q];rw[e];simp
  ·cases i with
   |zero=>simp_all
   |succ i=>exact A i y z (by simpa using t) (by simpa using u)
theorem Qf{n:Type}{T:Nat}(a:List n)(f:n->D)(R:n->D->Prop)(J:aE->Prop)(q:fi ev S=.ok (.items ((a.map f).map .d)) c)(j:J c)(o:a.length<=LM)(h:∀x∈a,∀S,J S->∃(m:Ev) (d:D) (b:aE),g (.d (f x)) (ev++QE T Qs)=Qq m/\fe m S=.ok (.d d) b/\J b/\R x d):∃(k:List D) (b:aE),aK T fi g dE fe ev S=.ok (.d (.lst k)) b/\J b/\k.length=a.length/\∀(i:Nat) x d,a[i]?=Qq x->k[i]?=Qq d->R x d:=by
 obtain⟨k,p,e,r,l,t⟩:=EW (U.d ∘ f) R J a [] c j h;refine⟨k,p,?_,r,l,t⟩;unfold aK;rw[q];simp only[oK];have s:((a.map f).map U.d).length=a.length:=by simp_all
 rw[if_pos (show dY (.items ((a.map f).map U.d)) c<=LM by show((a.map f).map U.d).length<=LM;rw[s];exact o),show dY (.items ((a.map f).map U.d)) c=((a.map f).map U.d).length from rfl,uO _ _ 0 [] c rfl,UW,Z7,e];exact hW (by rw[l];exact o)
theorem J9(b:∀v∈f.2,bu v=Qr)(h:f.2.Nodup)(a:0<f.2.length)(l:f.2.length<=8)(S:aE):rC vi [.d (fD f)] S=.ok (.d (.bl Qr)) S:=by
 refine gq (xs:=[fD f]) (S':=[]) ?_;have k:=wt b h (by omega) [];have c:bF (.d (fD f)) (.d (.int 1)) []=.ok (.d (.lst (f.2.map .str))) []:=mO;have g:bZ [.d (.lst (f.2.map .str))] []=.ok (.d (.int f.2.length)) []:=by rw[k8,Z0]
 have e:bZ [.d (fD f)] []=.ok (.d (.int 2)) []:=yJ;have j:fA cX "tuple" (.d (fD f)) []=.ok (.d (.bl Qr)) []:=rfl;have i:fA cX "list" (.d (.lst (f.2.map .str))) []=.ok (.d (.bl Qr)) []:=rfl;generalize f.2.map D.str=m at *;generalize fD f=n at *;simp(decide:=Qr) [vi,zF,j,e,c,i,g,a,k]
theorem Qi(s:a.length<=3)(l:(a.map (·.1)).Nodup)(m:∀f∈a,bu f.1=Qr)(p:∀f∈a,∀v∈f.2,bu v=Qr)(o:∀f∈a,f.2.Nodup)(j:∀f∈a,0<f.2.length/\f.2.length<=8)(S:aE):rC wN [.d (aP a)] S=.ok (.d (.bl Qr)) S:=by
 refine gq (xs:=[aP a]) (S':=[]) ?_;have t:LM=1000000:=rfl;have g:aK 1 (aL (dV 0)) (gN 1) dE (bN rC vi (au (dV 1) aw)) [Qq (.d (aP a))] []=.ok (.d (.lst ((a.map λ_=>Qr).map .bl))) []:=by
  rw[Z7];exact kF a fD _ (iU rfl) (by omega) λf c=>⟨_,rfl,J9 (p f c) (o f c) (j f c).1 (j f c).2 []⟩
 have h:aK 1 (aL (dV 0)) (gN 1) dE (d2 bF (dV 1) (dC (D.int 0))) [Qq (.d (aP a))] []=.ok (.d (.lst ((a.map (·.1)).map .str))) []:=by
  rw[Z7];exact kF a fD _ (iU rfl) (by omega) λf c=>⟨_,rfl,(gj rfl rfl).trans j2⟩
 have i:=wt (λx k=>by
  obtain⟨f,c,rfl⟩:=Qx.mp k
  exact m f c) l (by rw[Z0];omega) []
 have e:(a.map λ_=>Qr).all id=Qr:=QM.mpr λb r=>by
  simp_all
 have n:fA cX "list" (.d (aP a)) []=.ok (.d (.bl Qr)) []:=rfl;generalize (a.map λ_=>Qr)=q at g e;generalize (a.map (·.1)).map D.str=w at h i;generalize aP a=u at *;simp(decide:=Qr) [wN,Bo,n,g,nN,e,h,i]
theorem jv{n:Type}(m:List n)(f:n->D)(I:List n->Ev->aE->Prop)(A:fi ev S=.ok (.items ((m.map f).map .d)) S1)(s:I [] ev S1)(step:∀c x j,m=c++x::j->∀ev S,I c ev S->∃(a k:Ev) (l:aE),g (.d (f x)) ev=Qq a/\b a S=.nx k l/\I (c++[x]) k l):∃a l,dP fi g b ev S=.nx a l/\I m a l:=by
 have q:∀  j c   ev   S ,m=c++j->I c ev S->∃a l,hI g b ((j.map f).map .d) ev S=.nx a l/\I m a l:=by
  intro j
  induction j with
  |nil =>
   intro c ev S e i;rw[QP]at e;subst e;exact⟨ev,S,rfl,i⟩
  |cons x r w =>
   intro c ev S e i;obtain⟨a,k,l,t,y,u⟩:=step c x r e ev S i;obtain⟨p,o,z,v⟩:=w (c++[x]) k l (by simp_all) u;refine⟨p,o,?_,v⟩;rw[Z8,Z8,hI,t]
   simp_all
 obtain⟨a,l,h,i⟩:=q m [] ev S1 rfl s;refine⟨a,l,?_,i⟩
 simp_all
noncomputable def eA(a:List (QD×List QD)):Nat:=(a.map λf=>f.2.length).prod
theorem G0:∀(l:List Nat),(∀n∈l,n<=8)->l.prod<=8^l.length
 |[],_=>by simp
 |a::r,h=>by
  rw[List.prod_cons,Zg,Nat.pow_succ,Zak];exact U6 (G0 r λn b=>h n (Z4 _ b)) (h a Za)
theorem L1(b:fs.length<=3)(d:∀f∈fs,f.2.length<=8):eA fs<=512:=by
 have h:=G0 (fs.map λf=>f.2.length) λn c=>by
  obtain⟨f,a,rfl⟩:=Qx.mp c;exact d f a
 rw[Z0]at h;exact Z9 h (Z9 (Nat.pow_le_pow_right (by decide) b) (by decide))
theorem eZ(h:c a S=.ok d b):aY i c a S=.nx (a.set i (Qq d)) b:=by
 simp_all
theorem NJ(s:c.length<=3)(q:∀f∈c,f.2.length<=8)(S:aE):rC wg [.d (aP c)] S=.ok (.d (.int (eA c))) S:=by
 refine gq (xs:=[aP c]) (S':=[]) ?_;obtain⟨l,r,h,i⟩:=jv (fi:=aL (dV 0)) (g:=gN 2) (b:=aY 1 (d2 dI (dV 1) (bQ bZ (au (d2 bF (dV 2) (dC (D.int 1))) aw)))) (ev:=[Qq (.d (aP c)),Qq (.d (.int 1)),Qs]) c fD (λa ev S=>S=[]/\∃y,ev=[Qq (.d (aP c)),Qq (.d (.int (eA a))),y]) (iU rfl) ⟨rfl,Qs,rfl⟩ λa x k e ev S ⟨m,y,j⟩=>by
  subst m j;have t:bF (.d (fD x)) (.d (.int 1)) []=.ok (.d (.lst (x.2.map .str))) []:=mO;have u:bZ [.d (.lst (x.2.map .str))] []=.ok (.d (.int x.2.length)) []:=by rw[k8,Z0]
  have v:=L1 (fs:=a) (by have:=congrArg Rh e;simp at this;omega) λf n=>q f (by rw[e];simp[n]);have o:dI (.d (.int (eA a))) (.d (.int x.2.length)) []=.ok (.d (.int ((eA a)*(x.2.length)))) []:=tX (v8 (by omega));refine⟨_,[Qq (.d (aP c)),Qq (.d (.int (eA (a++[x])))),Qq (.d (fD x))],[],rfl,?_,rfl,_,rfl⟩;have p:(eA (a++[x]))=(eA a)*(x.2.length):=by
   unfold eA
   simp_all
  rw[p]
  have e2:d2 dI (dV 1) (bQ bZ (au (d2 bF (dV 2) (dC (D.int 1))) aw)) [Qq (.d (aP c)),Qq (.d (.int (eA a))),Qq (.d (fD x))] []=_:=(gj rfl (by
   simp_all)).trans o
  exact eZ e2
 obtain⟨rfl,y,rfl⟩:=i;generalize aP c=w at *;simp[wg,AY,h,-CC]
theorem K3(b:a.length<=3)(d:(a.map (·.1)).Nodup)(e:∀f∈a,bu f.1=Qr)(g:∀f∈a,∀v∈f.2,bu v=Qr)(i:∀f∈a,f.2.Nodup)(c:∀f∈a,0<f.2.length/\f.2.length<=8)(j:eA a<=8):oo a :=
 ⟨Qi b d e g i c,⟨eA a,by omega,NJ b λf h=>(c f h).2⟩,b,d,e,g,c⟩
noncomputable def SZ:List (List Nat):=[[],[1],[2],[3],[8],[2,2],[2,3],[4,2],[2,2,2],[1,2,4],[1,1,1],[5],[7,1]]
noncomputable def zD(z:List Nat):D:=.lst (z.map λk:Nat=>D.int (k:Int))
noncomputable def pF:D:=.lst (SZ.map zD)
theorem qV:∀z∈SZ,z.length<=3/\z.prod<=8/\∀n∈z,0<n/\n<=8:=by decide
theorem FH:∀(b:List (QD×Nat))  g ,g.length=b.length->(∀(i:Nat)  x  (d:D),b[i]?=Qq x->g[i]?=Qq d->∃c:List QD,d=fD (x.1,c)/\c.length=x.2/\c.Nodup/\∀v∈c,bu v=Qr)->∃a:List (QD×List QD),g=a.map fD/\a.map (·.1)=b.map (·.1)/\a.map (λf=>f.2.length)=b.map (·.2)/\∀f∈a,(∀v∈f.2,bu v=Qr)/\f.2.Nodup
 |[],[],_,_=>by simp_all
 |p::b,d::g,h,r=>by
  obtain⟨c,rfl,t,l,m⟩:=r 0 p d rfl rfl;obtain⟨a,rfl,q,s,k⟩:=FH b g (by simpa using h) λi x e o n=>r (i+1) x e (by simpa using o) (by simpa using n);refine⟨(p.1,c)::a,rfl,by simp_all,by simp_all,λf j=>?_⟩;rcases QL.mp j with rfl|j
  ·exact⟨m,l⟩
  ·exact k f j
theorem Lf(W:fR S n)(K:cq S.length S=Qr):∃(a:List (QD×List QD)) (b:aE),rC tI [.loc n] S=.ok (.d (aP a)) b/\fR b n/\bU S b [n]/\cq b.length b=Qr/\oo a:=by
 obtain⟨v1,l,H,b1,r1,s1,k1,I⟩:=iq W K (q:=13) (by decide) (by decide);obtain⟨j,rfl⟩:=QN H;obtain⟨z,Y⟩:∃z,SZ[j]?=Qq z:=⟨_,Z2 (by show j<13;omega)⟩;obtain⟨z1,z2,E⟩:=qV z (Ze Y);have lm:LM=1000000:=rfl;obtain⟨h,G,r2,s2,k2,J,l2,y,x⟩:=A9 s1 I z.length (by omega);have Z:bF (.d pF) (.d (.int  j )) l=.ok (.d (zD z)) l:=pU (by simp_all);have ln:∀S,bZ [.d (zD z)] S=.ok (.d (.int z.length)) S:=λS=>by unfold zD;rw[k8,Z0]
 have zp:rY (au (bN rC ma (au (dV 0) (au (bQ bZ (au (dV 2) aw)) aw))) (au (dV 2) aw)) [Qq (.loc n),Qq (.d pF),Qq (.d (zD z))] l=.ok (.items (((h.zip z).map λp=>D.tup [.str p.1,.int (p.2)]).map .d)) G:=by
  have e:jG (h.map .str) (z.map λk:Nat=>D.int (k:Int))=((h.zip z).map λp=>D.tup [.str p.1,.int (p.2)]).map .d:=by
   unfold jG;rw[List.zip_map,Z7,Z7];rfl
  generalize X:pF=sz at *;unfold zD at *;generalize ((h.zip z).map λp=>D.tup [.str p.1,.int (p.2)]).map U.d=w0 at *;generalize hq:(by omega)=w1 at *;generalize hn:h.map D.str=w2 at *;simp[rY,ln,r2,e]
 obtain⟨ds,A,m,⟨s3,w,B⟩,dl,L⟩:=Qf (T:=2) (g:=f7 (cu (gN 3) (cu (gN 4) f6))) (fe:=dW (au (dV 3) (au (bN rC ma (au (dV 0) (au (dV 4) aw))) aw))) (h.zip z) (λp=>D.tup [.str p.1,.int (p.2)]) (λp d=>∃c:List QD,d=fD (p.1,c)/\c.length=p.2/\c.Nodup/\∀v∈c,bu v=Qr) (λb=>fR b n/\bU S b [n]/\cq b.length b=Qr) zp ⟨s2,k1.trans k2,J⟩ (by rw[YH];omega) λp Q T ⟨t1,t2,t3⟩=>by
  obtain⟨R,u⟩:=UL Q;obtain⟨c,r,q1,q2,q3,q4,q5,q6,q7⟩:=A9 t1 t3 p.2 (by have:=(E _ u).2;omega);have mt:iV [.d (.str p.1),.d (.lst (c.map .str))] r=.ok (.d (fD (p.1,c))) r:=by rfl
  refine⟨[Qq (.loc n),Qq (.d pF),Qq (.d (zD z)),Qq (.d (.str p.1)),Qq (.d (.int p.2))],fD (p.1,c),r,rfl,?_,⟨q2,t2.trans q3,q4⟩,c,rfl,q5,q6,q7⟩
  simp_all
 obtain⟨a,t,C,o⟩:∃a:List (QD×List QD),ds=a.map fD/\a.map (·.1)=h/\(∀f∈a,(∀v∈f.2,bu v=Qr)/\f.2.Nodup)/\a.map (λf=>f.2.length)=z:=by
  obtain⟨a,M,N,O,P⟩:=FH (h.zip z) ds dl L;exact⟨a,M,by rw[N,List.map_fst_zip (by omega)],P,by rw[O,List.map_snd_zip (by omega)]⟩
 refine⟨a,A,mT ?_ w.len (by rw[<- w.len];exact B),s3,w,B,?_⟩
 ·have sd:∀ev S,(b9 (au (b9 aw) (au (b9 (au (dC (.int 1)) aw)) (au (b9 (au (dC (.int 2)) aw)) (au (b9 (au (dC (.int 3)) aw)) (au (b9 (au (dC (.int 8)) aw)) (au (b9 (au (dC (.int 2)) (au (dC (.int 2)) aw))) (au (b9 (au (dC (.int 2)) (au (dC (.int 3)) aw))) (au (b9 (au (dC (.int 4)) (au (dC (.int 2)) aw))) (au (b9 (au (dC (.int 2)) (au (dC (.int 2)) (au (dC (.int 2)) aw)))) (au (b9 (au (dC (.int 1)) (au (dC (.int 2)) (au (dC (.int 4)) aw)))) (au (b9 (au (dC (.int 1)) (au (dC (.int 1)) (au (dC (.int 1)) aw)))) (au (b9 (au (dC (.int 5)) aw)) (au (b9 (au (dC (.int 7)) (au (dC (.int 1)) aw))) aw)))))))))))))) ev S=.ok (.d pF) S:=λev S=>rfl;rw[t]at m;have m:aK 2 (rY (au (bN rC ma (au (dV 0) (au (bQ bZ (au (dV 2) aw)) aw))) (au (dV 2) aw))) (f7 (cu (gN 3) (cu (gN 4) f6))) dE (dW (au (dV 3) (au (bN rC ma (au (dV 0) (au (dV 4) aw))) aw))) [Qq (.loc n),Qq (.d pF),Qq (.d (zD z))] l=.ok (.d (aP a)) A:=m;generalize aP a=w0 at *;generalize pF=w2 at *;generalize zD z=w3 at *;simp[tI,AE,sd,r1,Z,m,-ND]
 ·obtain⟨o,s⟩:=o;have fl:a.length=z.length:=by rw[<- s,Z0]
  refine K3 (by omega) (by rw[C];exact y) (λf i=>x _ (by rw[<- C];exact Xs i)) (λf i=>(o f i).1) (λf i=>(o f i).2) (λf i=>E _ (by rw[<- s];exact Qx.mpr ⟨f,i,rfl⟩)) ?_;unfold eA;rw[s];exact z2
section
theorem AU(h:N<=M)(a:h8 N u=Qr):h8 M u=Qr:=by
 cases u with
 |d x=>rfl
 |loc k =>
  have:=of_decide_eq_true a;exact decide_eq_true (show k<M by omega)
theorem MQ(h:cq N S=Qr)(a:iX N c=Qr):cq N (S++[c])=Qr:=by
 unfold cq at h ⊢;rw[YJ,h];simp[a]
theorem Ml(h:N<=M)(a:iX N c=Qr):iX M c=Qr:=by
 cases c with
 |lst g =>
  have a:(g.all λu=>h8 N u)=Qr:=a;show(g.all λu=>h8 M u)=Qr;rw[Zp]at *;exact λu b=>AU h (a u b)
 |dct d =>
  have a:(d.all λe=>h8 N e.2)=Qr:=a;show(d.all λe=>h8 M e.2)=Qr;rw[Zp]at *;exact λu b=>AU h (a u b)
 |ins c f =>
  have a:(f.all λe=>h8 N e.2)=Qr:=a;show(f.all λe=>h8 M e.2)=Qr;rw[Zp]at *;exact λu b=>AU h (a u b)
 |dead=>rfl
theorem yo(h:N<=M)(b:cq N S=Qr):cq M S=Qr:=by
 unfold cq at *;rw[Zp]at *;exact λc a=>Ml h (b c a)
theorem DH:cq N (S++R)=(cq N S&&cq N R):=by unfold cq;rw[YJ]
structure Up(S0:aE)(n:Nat)(cs:List cG)(S:aE):Prop where
 ex:∃T,S=T++cs/\bU S0 T [n]/\fR T n/\cq T.length T=Qr/\cq S.length cs=Qr
theorem Up.mk0(c:fR a n)(b:cq a.length a=Qr):Up a n [] a:=⟨a,(QP _).symm,bU.refl _ _,c,b,rfl⟩
theorem Up.len(u:Up a n b S):S.length=a.length+b.length:=by
 obtain⟨T,rfl,k,_⟩:=u.ex;rw[Zh,k.len]
theorem Up.src(u:Up d n e S):fR S n:=by
 obtain⟨T,rfl,k,⟨a,b,c,h⟩,_⟩:=u.ex;exact⟨a,b,c,by rw[Zi (Qw.mp h).1];exact h⟩
theorem Up.cl(u:Up c n d S):cq S.length S=Qr:=by
 obtain⟨T,rfl,k,_,a,b⟩:=u.ex;rw[DH,yo (by simp_all) a,b];rfl
theorem Up.keep(u:Up p n o S)(k:bU S d [n])(s:fR d n):Up p n o d:=by
 obtain⟨T,rfl,v,⟨a,b,c,h⟩,r,t⟩:=u.ex;obtain⟨j,l,m,q⟩:=s;have g:=(Qw.mp h).1;have e:d=T.set n (My.src j l m)++o:=by
  refine Sw λi=>?_;by_cases f:i=n
  ·subst f;rw[q,Zi (by simp_all),Q3 g]
  ·rw[k.get i (by simpa using f),<- List.set_append_left _ _ g,Zy (Rf f)]
 refine⟨_,e,v.trans (bU.set (by simp)),⟨j,l,m,Q3 g⟩,by rw[RR];exact yw r rfl,by rw[k.len];exact t⟩
theorem Up.push(u:Up a n b S)(g:iX (S.length+1) c=Qr):Up a n (b++[c]) (S++[c]):=by
 obtain⟨T,rfl,f,h,d,e⟩:=u.ex;refine⟨T,by rw[RP],f,h,d,?_⟩;rw[DH,Zh];rw[yo (by simp) e]
 simp_all
theorem Up.at(u:Up S0 n b S)(i:Nat):S[S0.length+i]?=b[i]?:=by
 obtain⟨T,rfl,a,_⟩:=u.ex;rw[Zm (by rw[a.len];omega),a.len]
 congr 1
 omega
theorem Up.put(u:Up b n d S)(i:Nat)(g:iX S.length c=Qr):Up b n (d.set i c) (S.set (b.length+i) c):=by
 obtain⟨T,rfl,a,h,e,f⟩:=u.ex;refine⟨T,?_,a,h,e,by rw[RR];exact yw f g⟩;rw[List.set_append_right _ _ (by rw[a.len];omega),a.len]
 congr 2
 omega
theorem Up.fin(u:Up b n i S)(h:F (.loc n::us) b=.ok v S)(g:cz b.length 4 S v=Qq d):∃a,rC F (.loc n::us) b=.ok (.d d) a/\fR a n/\bU b a [n]/\cq a.length a=Qr:=by
 obtain⟨T,rfl,c,f,e,j⟩:=u.ex;exact⟨T,Bm h c.len (by rw[<- c.len];exact e) g,f,c,e⟩
end
noncomputable def iY{b:Type}(i:Nat)(a:List b):List b:=a.drop i++a.take i
section
theorem F9{i:Nat}(h:i<=ds.length)(a:ds.length<=LM):o6 (.d (.lst ds)) (Qq  i ) Qs S=.ok (.d (.lst (ds.drop i))) S:=by
 have e:eN (ds.map U.d) (Qq  i ) Qs=(ds.drop i).map .d:=by
  unfold eN HT.sIx;have:¬((i:Int)<0):=by omega
  simp[this];rw[YQ h];rw[<- ZG,Rj (by simp)]
 show eU (eN (ds.map U.d) (Qq  i ) Qs) S=_;rw[e];exact hW (by rw[Y7];omega)
theorem GQ{i:Nat}(h:i<=ds.length)(a:ds.length<=LM):o6 (.d (.lst ds)) Qs (Qq  i ) S=.ok (.d (.lst (ds.take i))) S:=by
 have e:eN (ds.map U.d) Qs (Qq  i )=(ds.take i).map .d:=by
  unfold eN HT.sIx;have:¬((i:Int)<0):=by omega
  simp[this,YQ h]
 show eU (eN (ds.map U.d) Qs (Qq  i )) S=_;rw[e];exact hW (by rw[Zu];omega)
theorem C8(s:fR S n)(r:cq S.length S=Qr)(J:0<ds.length)(K:ds.length<=64):∃(b:List D) (c:aE),rC l8 [.loc n,.d (.lst ds)] S=.ok (.d (.lst b)) c/\b.Perm ds/\fR c n/\bU S c [n]/\cq c.length c=Qr:=by
 have L:LM=1000000:=rfl;obtain⟨v,a,k,G,x,B,f,p⟩:=iq s r (q:=ds.length) (by omega) (by omega);obtain⟨i,rfl⟩:=QN k;obtain⟨v2,e,m,H,y,C,g,h⟩:=iq B p (q:=2) (by decide) (by decide);obtain⟨j,rfl⟩:=QN m;have l:=k8 (xs:=ds) (S:=S);have E:=F9 (S:=a) (ds:=ds) (i:=i) (by omega) (by omega);have F:=GQ (S:=a) (ds:=ds) (i:=i) (by omega) (by omega);have M:(iY i ds).length=ds.length:=by unfold iY;rw[Zh,Y7,Zu];omega
 have o:cN (.d (.lst (ds.drop i))) (.d (.lst (ds.take i))) a=.ok (.d (.lst (iY i ds))) a:=uo (by rw[Y7,Zu];omega);have A:mE (.d (.lst (iY i ds))) a=.ok (.d (.lst (iY i ds).reverse)) a:=by
  show eU ((iY i ds).map U.d).reverse a=_;rw[<- SI,hW (by rw[Vf];omega)]
 have u:eU [.d (.lst (iY i ds)),.d (.lst (iY i ds).reverse)] a=.ok (.d (.lst [.lst (iY i ds),.lst (iY i ds).reverse])) a:=hW (ds:=[.lst (iY i ds),.lst (iY i ds).reverse]) (by show 2<=LM;omega);obtain⟨b,t,w⟩:∃b,bF (.d (.lst [.lst (iY i ds),.lst (iY i ds).reverse])) (.d (.int  j )) e=.ok (.d (.lst b)) e/\b.Perm (iY i ds):=by
  have:j=0\/j=1:=by omega
  rcases this with rfl|rfl
  ·exact⟨_,rfl,.refl _⟩
  ·exact⟨_,rfl,XW _⟩
 have z:(iY i ds).Perm ds:=by
  exact List.perm_append_comm.trans (by rw[Xa])
 refine⟨b,e,mT ?_ (f.trans g).len (by rw[<- (f.trans g).len];exact h),w.trans z,C,f.trans g,h⟩;generalize ds.drop i=d1 at *;generalize ds.take i=d2 at *;generalize (iY i ds).reverse=I at *;generalize iY i ds=d3 at *;simp[l8,An,l,x,y,ju,jy,jz,E,F,o,A,u,t]
end
noncomputable def ez(k:Kd):D:=.tup [.str k.nm,aP k.fs,oS k.ow]
noncomputable def aH(ks:List Kd):D:=.lst (ks.map ez)
structure fF(k:Kd):Prop where
 nb:bu k.nm=Qr
 fs:oo k.fs
noncomputable def fL(a:List Kd):cG:=.lst ((a.map ez).map .d)
theorem E8:iX N (fL a)=Qr:=by
 show((a.map ez).map U.d).all (h8 N)=Qr
 simp_all
theorem ka(h:S[n]?=Qq (.lst a)):bI S n=Qq a:=by unfold bI;rw[h]
theorem HR{ns:List QD}:gA (ns.map .str)=((ns.zipIdx.map λp=>D.tup [.int (p.2),.str p.1]).map .d):=by
 unfold gA;rw[List.zipIdx_map,Z7,Z7];rfl
noncomputable def Fb:FS:=aO (aY 4 (dC D.non)) (aO (gP (eJ (cW (d2 k7 (dV 2) (dC (D.int 0)))) (cW (d2 k7 (bN rC gV (au (dV 0) (au (dC (D.int 4)) aw))) (dC (D.int 0))))) (aY 4 (d2 bF (d2 bF (dV 1) (bN rC gV (au (dV 0) (au (dV 2) aw)))) (dC (D.int 0)))) hZ) (fB (fG gJ fS (dV 1) (au (dW (au (dV 3) (au (bN rC tI (au (dV 0) aw)) (au (dV 4) aw)))) aw))))
theorem Mo:p9=b8 5 1 (aO (aY 1 (eB aw)) (aO (dP (oZ (au (bN rC ma (au (dV 0) (au (d2 cN (dC (D.int 1)) (bN rC gV (au (dV 0) (au (dC (D.int 5)) aw)))) aw))) aw)) (f7 (cu (gN 2) (cu (gN 3) f6))) Fb) (cD (dV 1)))):=rfl
theorem qw(h:bI S n=Qq us)(b:us.length<LM):fS (.loc n) [x] S=.ok (.d .non) (S.set n (.lst (us++[x]))):=by
 show(match bI S n with|some a=>if a.length<LM then aJ.ok (U.d .non) (S.set n (.lst (a++[x])))else .st|none=>.st)=_
 simp_all
theorem og(h:bI S n=Qq us):gJ (.loc n) S=Qr:=by
 show(bI S n).isSome=Qr;rw[h];rfl
theorem HH:cG.lst ((a.map ez).map U.d++[.d (ez k)])=fL (a++[k]):=by
 unfold fL
 simp_all
theorem qW:cz N k S (.d x)=Qq x:=by cases k<;>rfl
theorem Ad(h:¬n<N)(b:S[n]?=Qq (.lst (a.map .d))):cz N (k+1) S (.loc n)=Qq (.lst a):=by
 rw[cz];simp only[if_neg h,b];rw[zl λx=>qW];rfl
theorem cU(h:f b S=.nx a S'):aO f g b S=g a S':=by
 unfold aO;rw[h]
theorem AN{n j:Nat}(h:bI S n=Qq g)(a:g[j]?=Qq u):bF (.loc n) (.d (.int  j )) S=.ok u S:=by
 have f:=(Qw.mp a).1;have b:bK S (.loc n)=Qs:=by
  show eR S n=Qs;unfold bI at h;unfold eR;cases e:S[n]? with
  |none=>rfl
  |some c=>rw[e]at h;cases c<;>first|rfl|cases h
 unfold bF;rw[b];show(match bI S n with|some i=>(match fM i  j  with|some x=>aJ.ok x S|none=>.st)|none=>.st)=_;rw[h];unfold fM;simp;rw[EX f];simp[a]
theorem MH(u:Up c n [fL e] S)(s:e.length<=10)(nm:QD)(b:Option QD)(e2:Option U):∃(a:List (QD×List QD)) (g:aE),fB (fG gJ fS (dV 1) (au (dW (au (dV 3) (au (bN rC tI (au (dV 0) aw)) (au (dV 4) aw)))) aw)) [Qq (.loc n),Qq (.loc c.length),e2,Qq (.d (.str nm)),Qq (.d (oS b))] S=.nx [Qq (.loc n),Qq (.loc c.length),e2,Qq (.d (.str nm)),Qq (.d (oS b))] g/\Up c n [fL (e++[⟨nm,a,b⟩])] g/\oo a:=by
 obtain⟨a,f,o,p,m,r,k⟩:=Lf u.src u.cl;have h:=u.keep m p;have q:Up c n [fL (e++[(⟨nm,a,b⟩:Kd)])] (f.set c.length (fL (e++[(⟨nm,a,b⟩)]))):=h.put 0 E8;have t:LM=1000000:=rfl;have j:bI f c.length=Qq ((e.map ez).map .d):=ka (h.at 0);have l:gJ (.loc c.length) S=Qr:=og (ka (u.at 0));have mt:iV [.d (.str nm),.d (aP a),.d (oS b)] f=.ok (.d (ez ⟨nm,a,b⟩)) f:=by rfl
 have i:fS (.loc c.length) [.d (ez ⟨nm,a,b⟩)] f=.ok (.d .non) (f.set c.length (fL (e++[⟨nm,a,b⟩]))):=by
  rw[qw j (by rw[Z0,Z0];omega),HH]
 refine⟨a,f.set c.length (fL (e++[(⟨nm,a,b⟩)])),?_,q,k⟩;generalize fL (e++[⟨nm,a,b⟩])=v at *;generalize ez ⟨nm,a,b⟩=w at *;generalize aP a=x at *;generalize oS b=y at *;simp[o,mt,fG,l,i]
theorem P1(hs:fR S n)(cl:cq S.length S=Qr):∃(a:List Kd) (l:aE),rC p9 [.loc n] S=.ok (.d (aH a)) l/\fR l n/\bU S l [n]/\cq l.length l=Qr/\dJ a/\0<a.length/\a.length<=5/\∀k∈a,fF k:=by
 have X:=(Up.mk0 hs cl).push (c:=fL []) E8;obtain⟨v1,S1,a1,b1,r1,R,K,c1⟩:=iq X.src X.cl (q:=5) (by decide) (by decide);obtain⟨m,rfl⟩:=QN a1;have i:=X.keep K R;obtain⟨r,S2,r2,W,L,c2,l2,B,N⟩:=A9 i.src i.cl (m+1) (by omega);have w:=i.keep L W;have en:oZ (au (bN rC ma (au (dV 0) (au (d2 cN (dC (D.int 1)) (bN rC gV (au (dV 0) (au (dC (D.int 5)) aw)))) aw))) aw) [Qq (.loc n),Qq (.loc S.length),Qs,Qs,Qs] (S++[fL []])=.ok (.items (((r.zipIdx.map λp=>D.tup [.int (p.2),.str p.1]).map .d))) S2:=by
  have e:=HR (ns:=r);have Q:rC ma [.loc n,.d (.int (1 +  m ))] S1=.ok (.d (.lst (r.map .str))) S2:=by
   rw[<- r2]
   congr 4
   simp[Zao]
  generalize (by omega)=w0 at *;generalize r.map D.str=w1 at *;simp[oZ,r1,Q,e]
 obtain⟨aa,S3,lp,a,Y,Z,G,rfl,u3,O,E,M⟩:=jv (g:=f7 (cu (gN 2) (cu (gN 3) f6))) (b:=Fb) r.zipIdx (λp=>D.tup [.int (p.2),.str p.1]) (λf ev T=>∃(a:List Kd) (Y Z G:Option U),ev=[Qq (.loc n),Qq (.loc S.length),Y,Z,G]/\Up S n [fL a] T/\dJ a/\a.map (·.nm)=f.map (·.1)/\∀k∈a,fF k) en ⟨[],Qs,Qs,Qs,rfl,w,.nil,rfl,λk h=>nomatch h⟩ λf x C e ev T ⟨a,Y,Z,G,I,u,O,E,M⟩=>by
  subst I;have s:r=f.map (·.1)++x.1::C.map (·.1):=by
   have:=congrArg (Ud (·.1)) e;rw[Zf,Z8,List.zipIdx_map_fst]at this;exact this
  have xi:x.2=f.length:=by
   have:r.zipIdx[f.length]?=Qq x:=by rw[e];simp
   rw[UV]at this;obtain⟨y,_,rfl⟩:=QA.mp this;simp
  have kl:a.length=f.length:=by have:=congrArg Rh E;simpa using this
  have pl:f.length<=4:=by
   have:=congrArg Rh s;simp at this;omega
  have nn:x.1∉a.map (·.nm):=by
   rw[E];rw[s,QY]at B;exact λz=>B.2.2 _ z _ Za rfl
  have P:bu x.1=Qr:=N _ (by rw[s];simp);obtain⟨t,H,h1,u',ho⟩:∃(t:Option QD) (H:aE),gP (eJ (cW (d2 k7 (dV 2) (dC (D.int 0)))) (cW (d2 k7 (bN rC gV (au (dV 0) (au (dC (D.int 4)) aw))) (dC (D.int 0))))) (aY 4 (d2 bF (d2 bF (dV 1) (bN rC gV (au (dV 0) (au (dV 2) aw)))) (dC (D.int 0)))) hZ [Qq (.loc n),Qq (.loc S.length),Qq (.d (.int (x.2))),Qq (.d (.str x.1)),Qq (.d .non)] T=.nx [Qq (.loc n),Qq (.loc S.length),Qq (.d (.int (x.2))),Qq (.d (.str x.1)),Qq (.d (oS t))] H/\Up S n [fL a] H/\∀o,t=Qq o->o∈a.map (·.nm):=by
   by_cases h0:x.2=0
   ·refine⟨Qs,T,?_,u,λo z=>by cases z⟩;simp[h0]
   ·have J:0<(x.2:Int):=by omega
    have A:0<x.2:=by omega
    obtain⟨v,T1,a1,b1,q1,R,K,c1⟩:=iq u.src u.cl (q:=4) (by decide) (by decide);have i:=u.keep K R;by_cases hv:0<v
    ·obtain⟨v2,T2,a2,b2,q2,W,L,c2⟩:=iq i.src i.cl J (by omega);have w:=i.keep L W;obtain⟨j,rfl⟩:=QN a2;obtain⟨k,h⟩:∃k,a[j]?=Qq k:=⟨_,Z2 (by omega)⟩;have i1:bF (.loc S.length) (.d (.int  j )) T2=.ok (.d (ez k)) T2:=AN (ka (w.at 0)) (by rw[Zk,Zk,h];rfl);have i2:bF (.d (ez k)) (.d (.int 0)) T2=.ok (.d (.str k.nm)) T2:=j2;refine⟨Qq k.nm,T2,?_,w,λo z=>by cases z;exact Qx.mpr ⟨k,Ze h,rfl⟩⟩;generalize ez k=w0 at *;simp[J,A,q1,hv,q2,i1,i2,-oN]
    ·refine⟨Qs,T1,?_,i,λo z=>by cases z⟩;simp[J,A,q1,hv,-oN]
  obtain⟨fs,T2,h2,w,hf⟩:=MH u' (by omega) x.1 t (Qq (.d (.int (x.2))));refine⟨[Qq (.loc n),Qq (.loc S.length),Qq (.d (.int (x.2:Nat))),Qq (.d (.str x.1)),G],[Qq (.loc n),Qq (.loc S.length),Qq (.d (.int (x.2:Nat))),Qq (.d (.str x.1)),Qq (.d (oS t))],T2,rfl,?_,a++[⟨x.1,fs,t⟩],_,_,_,rfl,w,.snoc O nn ho,by simp_all,λk h=>?_⟩
  ·exact(cU (eZ rfl)).trans ((cU h1).trans h2)
  ·rcases QO.mp h with h|h
   ·exact M k h
   ·rw[QH.mp h];exact⟨P,hf⟩
 have kl:a.length=m+1:=by have:=congrArg Rh E;simpa[l2]using this
 obtain ⟨l,f1,f2,f3,f4⟩:=u3.fin (F:=p9) (us:=[]) (by
  rw[Mo];have ce:eB aw [Qq (.loc n),Qs,Qs,Qs,Qs] S=.ok (.loc S.length) (S++[fL []]):=rfl
  simp[ce,lp,-CC]) (Ad (Zv _) (u3.at 0))
 exact⟨a,l,f1,f2,f3,f4,O,by omega,by omega,M⟩
theorem C7(h:b a S=.ok us S2):eC c F dd b a S=eC c F dd (λ_ S=>.ok us S) a S2:=by
 unfold eC;rw[h]
theorem B0(h:xs.length<=LM)(S:aE):cB [.d (.lst xs)] S=.ok (.d (.lst xs)) S:=by
 have:iD [.d (.lst xs)] S=.ok (.d (.lst xs)) S:=hW h;unfold cB;rw[this];rfl
theorem dJ.in_own(O:dJ b):∀k∈b,∀o,k.ow=Qq o->o∈b.map (·.nm)/\o≠k.nm:=by
 induction O with
 |nil=>grind
 | @snoc b j O n c d =>
  intro k a o e;rw[Zf];rcases QO.mp a with a|a
  ·exact⟨Zj _ (d k a o e).1,(d k a o e).2⟩
  ·rw[QH.mp a]at e ⊢;exact⟨Zj _ (c o e),λz=>n (z▸c o e)⟩
theorem JZ(h:fF k){e0 e1 e2 e4:Option U}:aK 2 (aL (dV 3)) (f7 (cu (gN 5) (cu (gN 6) f6))) dE (dW (au (dV 5) (au (bQ cB (au (dV 6) aw)) aw))) [e0,e1,e2,Qq (.d (aP k.fs)),e4] S=.ok (.d (aP k.fs)) S:=by
 have e:LM=1000000:=rfl;have b:=h.fs.le;refine kF k.fs fD fD (iU rfl) (by omega) λf a=>⟨[e0,e1,e2,Qq (.d (aP k.fs)),e4,Qq (.d (.str f.1)),Qq (.d (.lst (f.2.map .str)))],rfl,?_⟩;have c:=B0 (xs:=f.2.map .str) (by rw[Z0];have:=(h.fs.v0 f a).2;omega) S;have mt:iV [.d (.str f.1),.d (.lst (f.2.map .str))] S=.ok (.d (fD f)) S:=by rfl
 simp_all
theorem kZ(h:c b S=.ok d a):cD c b S=.rt d a:=by
 unfold cD;rw[h];rfl
theorem rW(h:b a S=.ok d S'):fB b a S=.nx a S':=by
 unfold fB;rw[h];rfl
theorem sY(d:c b S=.ok x a):d1 g c b S=g x a:=by
 simp_all
theorem gQ(h:b a S=.ok d S'):au b aw a S=.ok [d] S':=by
 simp_all
theorem uV(f:e c S=.ok x S)(j:b x S=Qr)(h:d c S=.ok us S')(i:g x us S'=.ok r a):fG b g e d c S=.ok r a:=by
 unfold fG
 simp_all
theorem G2(O:dJ n)(l:c.Perm n)(h0:0<n.length)(h5:n.length<=5)(v:∀k∈n,fF k):∃P,dJ P/\Gr c P/\(∀k∈P,k∈c)/\(∀k∈c,k.nm∈P.map (·.nm))/\∀S,rC oW [.d (aH c)] S=.ok (.d (aU P)) S:=by
 have hl:=l.length_eq;have f:=λk t=>v k (l.mem_iff.mp t);obtain⟨P,Q,R,W,X,N⟩:=Hl (by omega) (by omega) (O.rdy l) λk t=>(f k t).nb;refine⟨P,Q,R,W,X,λS=>?_⟩;have lm:LM=1000000:=rfl;obtain⟨z,Y,M,p,q,r,rfl,rfl⟩:=jv (fi:=aL (dV 0)) (g:=f7 (cu (gN 2) (cu (gN 3) (cu (gN 4) f6)))) (b:=fB (fG gJ fS (dV 1) (au (eC ("Kind") qa [] (au (dV 2) (au (aK ["_law_field", "_law_values"].length (aL (dV 3)) (f7 (cu (gN 5) (cu (gN 6) f6))) dE (dW (au (dV 5) (au (bQ cB (au (dV 6) aw)) aw)))) (au (dV 4) aw)))) aw))) c ez (λa ev T=>∃(p q r:Option U),ev=[Qq (.d (aH c)),Qq (.loc 0),p,q,r]/\T=[.lst ((a.map aS).map .d)]) (iU rfl) ⟨Qs,Qs,Qs,rfl,rfl⟩ λa x w e ev T ⟨p,q,r,s,F⟩=>by
  subst s F;have m:x∈c:=by rw[e];simp
  have pl:a.length<=5:=by have:=congrArg Rh e;simp at this;omega
  refine⟨[Qq (.d (aH c)),Qq (.loc 0),Qq (.d (.str x.nm)),Qq (.d (aP x.fs)),Qq (.d (oS x.ow))],[Qq (.d (aH c)),Qq (.loc 0),Qq (.d (.str x.nm)),Qq (.d (aP x.fs)),Qq (.d (oS x.ow))],[.lst (((a++[x]).map aS).map .d)],rfl,?_,_,_,_,rfl,rfl⟩;have H:((a++[x]).map aS).map U.d=(a.map aS).map U.d++[U.d (aS x)]:=by simp_all
  have hL:((a.map aS).map U.d).length=a.length:=by rw[Z0,Z0]
  rw[H];generalize (a.map aS).map U.d=L at *;have Z:=JZ (f x m) (e0:=Qq (.d (aH c))) (e1:=Qq (.loc 0)) (e2:=Qq (.d (.str x.nm))) (e4:=Qq (.d (oS x.ow))) (S:=[.lst L])
  have K:=OZ (k:=x) (f x m).nb (f x m).fs (λo I=>by
   obtain⟨C,E⟩:=O.in_own x (l.mem_iff.mp m) o I;obtain⟨j,G,rfl⟩:=Qx.mp C
   exact⟨(v j G).nb,E⟩) (fa:=au (dV 2) (au (aK ["_law_field", "_law_values"].length (aL (dV 3)) (f7 (cu (gN 5) (cu (gN 6) f6))) dE (dW (au (dV 5) (au (bQ cB (au (dV 6) aw)) aw)))) (au (dV 4) aw))) (ev:=[Qq (.d (aH c)),Qq (.loc 0),Qq (.d (.str x.nm)),Qq (.d (aP x.fs)),Qq (.d (oS x.ow))]) (S:=[.lst L]) (by
    simp_all)
  have h:bI [cG.lst L] 0=Qq L:=rfl;exact rW (uV rfl (og h) (gQ K) (qw h (by omega)))
 refine sZ (xs:=[aH c]) (u:=.d (aU P)) (S':=[.dead]) ?_ rfl;have B:lK (.loc 0) [cG.lst ((c.map aS).map .d)]=.ok (.d (.lst (c.map aS))) [.dead]:=by
  show(match cj ((c.map aS).map U.d)with|some y=>aJ.ok (U.d (.lst y)) [.dead]|none=>.st)=_;rw[mz]
 have A:oW=b8 5 1 (aO (aY 1 (eB aw)) (aO (dP (aL (dV 0)) (f7 (cu (gN 2) (cu (gN 3) (cu (gN 4) f6)))) (fB (fG gJ fS (dV 1) (au (eC ("Kind") qa [] (au (dV 2) (au (aK ["_law_field", "_law_values"].length (aL (dV 3)) (f7 (cu (gN 5) (cu (gN 6) f6))) dE (dW (au (dV 5) (au (bQ cB (au (dV 6) aw)) aw)))) (au (dV 4) aw)))) aw)))) (cD (eC ("Kinds") sF [] (au (d1 lK (dV 1)) aw))))):=rfl;rw[A];have J:eC ("Kinds") sF [] (au (d1 lK (dV 1)) aw) [Qq (.d (aH c)),Qq (.loc 0),p,q,r] [cG.lst ((c.map aS).map .d)]=.ok (.d (aU P)) [.dead]:=by
  rw[C7 (gQ ((sY rfl).trans B))];exact N rfl
 have h:eB aw [Qq (.d (aH c)),Qs,Qs,Qs,Qs] []=.ok (.loc 0) [.lst []]:=rfl;exact congrArg dF ((cU (eZ (i:=1) h)).trans ((cU M).trans (kZ J)))
structure Wr where
 kd:QD
 mn:Nat
 cs:List (QD×QD)
noncomputable def ib(p:QD×QD):D:=.tup [.str p.1,.str p.2]
noncomputable def eW(a:List (QD×QD)):D:=.lst (a.map ib)
noncomputable def b7(r:Wr):D:=.tup [.str r.kd,.int r.mn,eW r.cs]
noncomputable def aB(rs:List Wr):D:=.lst (rs.map b7)
structure fV(fs:List (QD×List QD))(cs:List (QD×QD)):Prop where
 sub:WQ (cs.map (·.1)) (fs.map (·.1))\/WQ (cs.map (·.1)).reverse (fs.map (·.1))
 val:∀p∈cs,∃f∈fs,f.1=p.1/\p.2∈f.2
noncomputable def lZ(a:List (QD×QD)):cG:=.lst ((a.map ib).map .d)
theorem Gg:iX N (lZ a)=Qr:=by
 show((a.map ib).map U.d).all (h8 N)=Qr
 simp_all
theorem Ln:cG.lst ((a.map ib).map U.d++[.d (ib p)])=lZ (a++[p]):=by
 unfold lZ;rw[Zf,Zf];rfl
noncomputable def vd:FS:=gP (cW (d2 gU (bN rC gV (au (dV 0) (au (dC (D.int 2)) aw))) (dC (D.int 0)))) (fB (fG gJ fS (dV 2) (au (dW (au (dV 3) (au (d2 bF (dV 4) (bN rC gV (au (dV 0) (au (bQ bZ (au (dV 4) aw)) aw)))) aw))) aw))) hZ
theorem Jy:qy=b8 5 2 (aO (aY 2 (eB aw)) (aO (dP (aL (dV 1)) (f7 (cu (gN 3) (cu (gN 4) f6))) vd) (cD (d2 bF (eB (au (dV 2) (au (d1 mE (dV 2)) aw))) (bN rC gV (au (dV 0) (au (dC (D.int 2)) aw))))))):=rfl
theorem IA{b T:aE}{f:QD×List QD}(u:Up b n [lZ a] T)(O:a.length<=10)(M:0<f.2.length)(N:f.2.length<=8):∃(c:List (QD×QD)) (g:aE),vd [Qq (.loc n),Qq (.d w),Qq (.loc b.length),Qq (.d (.str f.1)),Qq (.d (.lst (f.2.map .str)))] T=.nx [Qq (.loc n),Qq (.d w),Qq (.loc b.length),Qq (.d (.str f.1)),Qq (.d (.lst (f.2.map .str)))] g/\Up b n [lZ c] g/\(c=a\/∃v∈f.2,c=a++[(f.1,v)]):=by
 obtain⟨v,h,H,I,m,C,y,K⟩:=iq u.src u.cl (q:=2) (by decide) (by decide);have e:=u.keep y C;have P:LM=1000000:=rfl;have A:∀S,bZ [.d (.lst (f.2.map .str))] S=.ok (.d (.int f.2.length)) S:=λS=>by rw[k8,Z0]
 by_cases k:v=0
 ·subst k;obtain⟨v2,T2,p,J,B,E,z,L⟩:=iq e.src e.cl (q:=(f.2.length)) (by omega) (by omega);have o:=e.keep z E;obtain⟨j,rfl⟩:=QN p;obtain⟨x,l⟩:∃x,f.2[j]?=Qq x:=⟨_,Z2 (by omega)⟩;have t:bF (.d (.lst (f.2.map .str))) (.d (.int (j:Nat))) T2=.ok (.d (.str x)) T2:=pU (by rw[Zk,l];rfl);have mt:iV [.d (.str f.1),.d (.str x)] T2=.ok (.d (ib (f.1,x))) T2:=by rfl
  have r:bI T2 b.length=Qq ((a.map ib).map .d):=ka (o.at 0);have s:gJ (.loc b.length) h=Qr:=og (ka (e.at 0));have i:=qw (x:=.d (ib (f.1,x))) r (by rw[Z0,Z0];omega);rw[Ln]at i;have F:Up b n [lZ (a++[(f.1,x)])] (T2.set b.length (lZ (a++[(f.1,x)]))):=o.put 0 Gg;refine⟨a++[(f.1,x)],_,?_,F,.inr ⟨x,Ze l,rfl⟩⟩;generalize f.2.map D.str=G at *;generalize lZ (a++[(f.1,x)])=Q at *;generalize ib (f.1,x)=R at *;unfold vd;simp[m,A,B,t,mt,fG,s,i]
 ·refine⟨a,h,?_,e,.inl rfl⟩;generalize f.2.map D.str=G at *;unfold vd;simp[m,k]
theorem Kf(hs:fR S n)(C:cq S.length S=Qr)(h:oo k):∃(a:List (QD×QD)) (b:aE),rC qy [.loc n,.d (aP k)] S=.ok (.d (eW a)) b/\fR b n/\bU S b [n]/\cq b.length b=Qr/\fV k a:=by
 have u0:=(Up.mk0 hs C).push (c:=lZ []) Gg;have hl:=h.le;have lm:LM=1000000:=rfl;obtain⟨Z,T,lp,a,w,y,rfl,B,A,t⟩:=jv (fi:=aL (dV 1)) (g:=f7 (cu (gN 3) (cu (gN 4) f6))) k fD (λm N T=>∃(a:List (QD×QD)) (w y:Option U),N=[Qq (.loc n),Qq (.d (aP k)),Qq (.loc S.length),w,y]/\Up S n [lZ a] T/\WQ (a.map (·.1)) (m.map (·.1))/\∀p∈a,∃f∈m,f.1=p.1/\p.2∈f.2) (iU rfl) ⟨[],Qs,Qs,rfl,u0,.slnil,λp l=>nomatch l⟩ λm x Q e N T ⟨a,w,y,H,u,A,t⟩=>by
  subst H;have P:x∈k:=by rw[e];simp
  have C:a.length<=10:=by
   have o:=A.length_le;have G:=congrArg Rh e;simp at o G;omega
  obtain⟨E,R,o,u',O⟩:=IA u C (h.v0 x P).1 (h.v0 x P).2;refine⟨_,_,R,rfl,o,E,_,_,rfl,u',?_,?_⟩
  ·rw[Zf];rcases O with rfl|⟨v,_,rfl⟩
   all_goals simp_all
  ·intro p l;rcases O with rfl|⟨v,hv,rfl⟩
   ·obtain⟨f,I,r⟩:=t p l;exact⟨f,Zj _ I,r⟩
   ·rcases QO.mp l with l|l
    ·obtain⟨f,I,r⟩:=t p l;exact⟨f,Zj _ I,r⟩
    simp_all
 have M:a.length<=10:=by
  have o:=A.length_le;simp at o;omega
 have Y:bI T S.length=Qq ((a.map ib).map .d):=ka (B.at 0);have rv:mE (.loc S.length) T=.ok (.d (eW a.reverse)) T:=by
  show(match bI T S.length with|some xs=>eU xs.reverse T|none=>.st)=_;rw[Y];simp only;rw[<- SI,<- SI,hW (by rw[Z0,Vf];omega)];rfl
 have J:=B.push (c:=.lst [.loc S.length,.d (eW a.reverse)]) (by
  have:=B.len;simp at this ⊢
  omega)
 obtain⟨v,T2,W,b1,q1,s1,k1,c1⟩:=iq J.src J.cl (q:=2) (by decide) (by decide);have K:=J.keep k1 s1;obtain⟨j,rfl⟩:=QN W;have tl:T.length=S.length+1:=by have:=B.len;simpa using this
 have dc:eB (au (dV 2) (au (d1 mE (dV 2)) aw)) [Qq (.loc n),Qq (.d (aP k)),Qq (.loc S.length),w,y] T=.ok (.loc (S.length+1)) (T++[.lst [.loc S.length,.d (eW a.reverse)]]):=by
  rw[<- tl];have ar:au (dV 2) (au (d1 mE (dV 2)) aw) [Qq (.loc n),Qq (.d (aP k)),Qq (.loc S.length),w,y] T=.ok [.loc S.length,.d (eW a.reverse)] T:=by
   simp_all
  unfold eB
  simp_all
 have L:=ka (K.at 1);have s:∀(r:U) (z:List (QD×QD)),bF (.loc (S.length+1)) (.d (.int (j:Nat))) T2=.ok r T2->cz S.length 4 T2 r=Qq (eW z)->fV k z->∃(a:List (QD×QD)) (b:aE),rC qy [.loc n,.d (aP k)] S=.ok (.d (eW a)) b/\fR b n/\bU S b [n]/\cq b.length b=Qr/\fV k a:=λr z o G h3=>by
  obtain ⟨b,f1,f2,f3,f4⟩:=K.fin (F:=qy) (us:=[.d (aP k)]) (by
   rw[Jy];have X:eB aw [Qq (.loc n),Qq (.d (aP k)),Qs,Qs,Qs] S=.ok (.loc S.length) (S++[lZ []]):=rfl;refine congrArg dF ((cU (eZ (i:=2) X)).trans ((cU lp).trans (kZ ?_)))
   simp_all) G
  exact⟨z,b,f1,f2,f3,f4,h3⟩
 have:j=0\/j=1:=by omega
 rcases this with rfl|rfl
 ·exact s (.loc S.length) a (AN L rfl) (Ad (Zv _) (K.at 0)) ⟨.inl A,t⟩
 ·exact s (.d (eW a.reverse)) a.reverse (AN L rfl) qW ⟨.inr (by simp_all),λp l=>t p (Tt.mp l)⟩
structure g9(ks:List Kd)(r:Wr):Prop where
 ex:∃k∈ks,k.nm=r.kd/\fV k.fs r.cs
 m1:1<=r.mn
 m12:r.mn<=12
noncomputable def ic(rs:List Wr):cG:=.lst ((rs.map b7).map .d)
theorem ym:iX N (ic a)=Qr:=by
 show((a.map b7).map U.d).all (h8 N)=Qr
 simp_all
theorem Mt:cG.lst ((a.map b7).map U.d++[.d (b7 r)])=ic (a++[r]):=by
 unfold ic;rw[Zf,Zf];rfl
noncomputable def zW:FS:=aO (kN (f7 (cu (gN 4) (cu (gN 5) (cu (gN 6) f6)))) (d2 bF (dV 1) (bN rC gV (au (dV 0) (au (bQ bZ (au (dV 1) aw)) aw))))) (aO (aY 7 (d2 cN (dC (D.int 1)) (bN rC gV (au (dV 0) (au (d2 bF (b9 (au (dC (D.int 2)) (au (dC (D.int 3)) (au (dC (D.int 12)) aw)))) (bN rC gV (au (dV 0) (au (dC (D.int 3)) aw)))) aw))))) (fB (fG gJ fS (dV 2) (au (dW (au (dV 4) (au (dV 7) (au (bN rC qy (au (dV 0) (au (dV 5) aw))) aw)))) aw))))
theorem OX:uI=b8 8 2 (aO (aY 2 (eB aw)) (aO (dP (jR (au (bN rC gV (au (dV 0) (au (dC (D.int 7)) aw))) aw)) (gN 3) zW) (cD (dV 2)))):=rfl
theorem Nu{b T:aE}(u:Up b n [ic e] T)(hl:e.length<=10)(h0:0<a.length)(h5:a.length<=5)(W:∀k∈a,fF k):∃(r:Wr) (o:aE) (x4 x5 x6 x7:Option U),zW [Qq (.loc n),Qq (.d (aH a)),Qq (.loc b.length),e3,e4,e5,e6,e7] T=.nx [Qq (.loc n),Qq (.d (aH a)),Qq (.loc b.length),e3,x4,x5,x6,x7] o/\Up b n [ic (e++[r])] o/\g9 a r:=by
 have lm:LM=1000000:=rfl;have Q:∀S,bZ [.d (aH a)] S=.ok (.d (.int a.length)) S:=λS=>by unfold aH;rw[k8,Z0]
 obtain⟨v,p,B,b1,X,s1,M,c1⟩:=iq u.src u.cl (q:=a.length ) (by omega) (by omega);have i:=u.keep M s1;obtain⟨j,rfl⟩:=QN B;obtain⟨k,t⟩:∃k,a[j]?=Qq k:=⟨_,Z2 (by omega)⟩;have w:=Ze t;have J:bF (.d (aH a)) (.d (.int (j:Nat))) p=.ok (.d (ez k)) p:=pU (by rw[Zk,t];rfl);obtain⟨v2,T2,C,b2,Y,s2,N,c2⟩:=iq i.src i.cl (q:=3) (by decide) (by decide);have l:=i.keep N s2;obtain⟨g,rfl⟩:=QN C;have R:∀S,eU [.d (.int 2),.d (.int 3),.d (.int 12)] S=.ok (.d (.lst [.int 2,.int 3,.int 12])) S:=λS=>rfl;obtain⟨z,L,z0,aa⟩:∃z:Nat,bF (.d (.lst [.int 2,.int 3,.int 12])) (.d (.int (g:Nat))) T2=.ok (.d (.int (z:Nat))) T2/\0<z/\z<=12:=by
  have:g=0\/g=1\/g=2:=by omega
  rcases this with rfl|rfl|rfl
  ·exact⟨2,rfl,by decide,by decide⟩
  ·exact⟨3,rfl,by decide,by decide⟩
  ·exact⟨12,rfl,by decide,by decide⟩
 obtain⟨v3,A,E,b3,Z,s3,O,c3⟩:=iq l.src l.cl (q:=z ) (by omega) (by omega);have h:=l.keep O s3;obtain⟨m,rfl⟩:=QN E;obtain⟨c,f,q4,s4,P,c4,I⟩:=Kf h.src h.cl (W k w).fs;have y:=h.keep P s4;have G:bI f b.length=Qq ((e.map b7).map .d):=ka (y.at 0);have K:gJ (.loc b.length) A=Qr:=og (ka (h.at 0));have s:=qw (x:=.d (b7 ⟨k.nm,m+1,c⟩)) G (by rw[Z0,Z0];omega);rw[Mt]at s;have u5:Up b n [ic (e++[(⟨k.nm,m+1,c⟩)])] (f.set b.length (ic (e++[(⟨k.nm,m+1,c⟩)]))):=y.put 0 ym;have mt:iV [.d (.str k.nm),.d (.int (1 +  m )),.d (eW c)] f=.ok (.d (b7 ⟨k.nm,m+1,c⟩)) f:=by
  have:(1 +  m )=((m+1:Nat):Int):=by omega
  rw[this];rfl
 have H:f7 (cu (gN 4) (cu (gN 5) (cu (gN 6) f6))) (.d (ez k)) [Qq (.loc n),Qq (.d (aH a)),Qq (.loc b.length),e3,e4,e5,e6,e7]=Qq [Qq (.loc n),Qq (.d (aH a)),Qq (.loc b.length),e3,Qq (.d (.str k.nm)),Qq (.d (aP k.fs)),Qq (.d (oS k.ow)),e7]:=rfl;refine⟨⟨k.nm,m+1,c⟩,_,Qq (.d (.str k.nm)),Qq (.d (aP k.fs)),Qq (.d (oS k.ow)),Qq (.d (.int (1 +  m ))),?_,u5,⟨k,w,rfl,I⟩,by show 1<=m+1;omega,by show m+1<=12;omega⟩;generalize ic (by omega)=w0 at *;generalize b7 ⟨k.nm,m+1,c⟩=w1 at *;generalize aH a=w2 at *;generalize ez k=w3 at *;generalize aP k.fs=w4 at *;generalize oS k.ow=w5 at *;generalize eW c=w6 at *;unfold zW;simp[Q,X,J,H,R,Y,L,Z,q4,mt,fG,K,s,kN]
theorem HS(M:fR S n)(I:cq S.length S=Qr)(K:0<b.length)(L:b.length<=5)(P:∀k∈b,fF k):∃(a:List Wr) (T:aE),uI [.loc n,.d (aH b)] S=.ok (.loc S.length) T/\Up S n [ic a] T/\a.length<=6/\∀r∈a,g9 b r:=by
 have s:=(Up.mk0 M I).push (c:=ic []) ym;obtain⟨v1,E,G,b1,Q,W,N,c1⟩:=iq s.src s.cl (q:=7) (by decide) (by decide);have Y:=s.keep N W;obtain⟨m,rfl⟩:=QN G;have lm:LM=1000000:=rfl;have R:jR (au (bN rC gV (au (dV 0) (au (dC (D.int 7)) aw))) aw) [Qq (.loc n),Qq (.d (aH b)),Qq (.loc S.length),Qs,Qs,Qs,Qs,Qs] (S++[ic []])=.ok (.items (((Q7 m).map λk:Nat=>D.int  k ).map .d)) E:=by
  have j:-(2^62)<=(m:Int)/\(m:Int)<=LM:=by omega
  generalize aH b=w2 at *;simp[jR,Q,j]
 obtain⟨J,T,O,a,t,v,w,y,z,rfl,Z,p,h⟩:=jv (g:=gN 3) (Q7 m) (λk=>D.int  k ) (λf A T=>∃(a:List Wr) (t v w y z:Option U),A=[Qq (.loc n),Qq (.d (aH b)),Qq (.loc S.length),t,v,w,y,z]/\Up S n [ic a] T/\a.length=f.length/\∀r∈a,g9 b r) R ⟨[],Qs,Qs,Qs,Qs,Qs,rfl,Y,rfl,λr B=>nomatch B⟩ λf x C e A T ⟨a,t,v,w,y,z,l,u,p,h⟩=>by
  subst l;have pl:f.length<=6:=by have:=congrArg Rh e;simp at this;omega
  obtain⟨r,F,y4,y5,y6,y7,j,X,B⟩:=Nu u (by omega) K L P;refine⟨_,_,F,rfl,j,a++[r],_,_,_,_,_,rfl,X,by simp[p],λq o=>?_⟩;rcases QO.mp o with o|o
  all_goals simp_all
 refine⟨a,T,?_,Z,by rw[p,Y2];omega,h⟩;rw[OX];have H:eB aw [Qq (.loc n),Qq (.d (aH b)),Qs,Qs,Qs,Qs,Qs,Qs] S=.ok (.loc S.length) (S++[ic []]):=rfl;exact congrArg dF ((cU (eZ (i:=2) H)).trans ((cU O).trans (kZ rfl)))
noncomputable def bx(a:List Wr)(k:QD):Nat:=((a.filter λr=>decide (r.kd=k)).map (·.mn)).sum
noncomputable def kX(a:List Kd)(rs:List Wr)(f:QD->Nat):Prop:=∀k∈a,f k.nm=(match k.ow with|none=>1|some o=>f o)*bx rs k.nm
theorem kX.one(O:dJ b)(d:kX b rs f)(h:kX b rs g):∀k∈b,f k.nm=g k.nm:=by
 induction O with
 |nil=>simp_all
 | @snoc b j O n l c =>
  have c:=c (λk a=>d k (Zj _ a)) (λk a=>h k (Zj _ a));intro k a;rcases QO.mp a with a|a
  ·exact c k a
  ·rw[QH.mp a,d j (by simp),h j (by simp)];cases e:j.ow with
   |none=>rfl
   |some o =>
    obtain⟨i,m,rfl⟩:=Qx.mp (l o e)
    simp_all
noncomputable def total(a:List Kd)(f:QD->Nat):Nat:=(a.map λk=>f k.nm).sum
theorem kX.total(O:dJ a)(b:P.Perm a)(c:kX a rs f)(d:kX P rs g):total P g=total a f:=by
 have e:=c.one O λk h=>d k (b.mem_iff.mpr h);unfold My.total;rw[List.Perm.sum_nat ((b.map λk=>g k.nm))]
 congr 1
 simp_all
theorem GU:∀  c b   a ,cR d (c++b) a=(cR d c a).bind λa=>cR d b a
 |[],b,a=>rfl
 |p::c,b,a=>by
  rw[X7,cR,cR];cases i8 d a p with
  |none=>rfl
  |some a=>exact GU c b a
theorem DV:iA (a.map λr=>(r.kd,  r.mn )) k=(bx a k):=by
 unfold iA bx
 induction a with
 |nil=>rfl
 |cons r t b =>
  rw[Z8,Sd,Sd];by_cases h:r.kd=k
  all_goals simp_all
noncomputable def iM(a:List Kd)(f:QD->Nat):List (dX×V):=(Qs,.int 1)::a.map λk=>(Qq k.nm,V.int (f k.nm))
theorem Kw(d:(b.map (·.nm)).Nodup)(a:k∈b):du (iM b f) (Qq k.nm)=Qq (.int (f k.nm)):=by
 unfold iM;rw[pK (by intro z;cases z)]
 induction b with
 |nil=>cases a
 |cons j r c =>
  rw[Z8];by_cases e:j.nm=k.nm
  ·rw[rO (by simp[e]),e]
  ·rw[pK (by simp_all)];rcases QL.mp a with z|a
   ·simp_all
   ·exact c (QZ.mp d).2 a
theorem uM(h:x∉a.map (·.nm)):du (iM a f) (Qq x)=Qs:=by
 unfold iM;rw[pK (by intro z;cases z)]
 induction a with
 |nil=>rfl
 |cons j r b =>
  rw[Z8,Yq,not_or]at h;rw[Z8,pK (by intro z;exact h.1 (Zr z).symm)];exact b h.2
theorem H8(O:dJ b)(l:∀k,bx rs k<=1000):∃f,kX b rs f/\cR (rs.map λr=>(r.kd,  r.mn )) (b.map λk=>(k.nm,k.ow)) [(Qs,.int 1)]=Qq (iM b f):=by
 induction O with
 |nil=>exact⟨λ_=>0,(λk a=>nomatch a),rfl⟩
 | @snoc b j O n d m =>
  obtain⟨f,g,e⟩:=m;have s:=O.nd;refine⟨λx=>if x=j.nm then(match j.ow with|none=>1|some o=>f o)*bx rs j.nm else f x,λk a=>?_,?_⟩
  ·have c:∀k∈b++[j],(match k.ow with|none=>1|some o=>(if o=j.nm then(match j.ow with|none=>1|some o=>f o)*bx rs j.nm else f o))=(match k.ow with|none=>1|some o=>f o):=λk a=>by
    cases q:k.ow with
    |none=>rfl
    |some o =>
     have:o∈b.map (·.nm):=by
      rcases QO.mp a with a|a
      ·exact(O.in_own k a o q).1
      ·rw[QH.mp a]at q;exact d o q
     simp only;rw[if_neg (λz=>n (by rw[<- z];exact this))]
   have u:=c k a;show(if k.nm=j.nm then(match j.ow with|none=>1|some o=>f o)*bx rs j.nm else f k.nm)=(match k.ow with|none=>1|some o=>(if o=j.nm then(match j.ow with|none=>1|some o=>f o)*bx rs j.nm else f o))*bx rs k.nm;rw[u];rcases QO.mp a with a|a
   ·rw[if_neg (λz=>n (by simp_all))];exact g k a
   simp_all
  ·rw[Zf,GU,e];show(match i8 _ (iM b f) (j.nm,j.ow)with|some p=>cR _ [] p|none=>Qs)=_;unfold i8;have v:bJ (iA (rs.map λr=>(r.kd,(r.mn:Int))) j.nm)=Qr:=by
    rw[DV];have:=l j.nm;exact v8 (by omega)
   have t:du (iM b f) j.ow=Qq (.int ((match j.ow with|none=>1|some o=>f o:Nat):Int)):=by
    cases q:j.ow with
    |none=>exact rO rfl
    |some o =>
     obtain⟨i,h,rfl⟩:=Qx.mp (d o q);exact Kw s h
   rw[t];simp;rw[if_pos v,OK _ (uM n),DV];simp[cR];unfold iM
   simp_all
theorem Hu:gu (iM a f)=Qq (1::a.map λk=>(f k.nm:Int)):=by
 show(gu (a.map λk=>(Qq k.nm,V.int (f k.nm)))).map (1::·)=_;have:∀a:List Kd,gu (a.map λk=>((Qq k.nm),V.int (f k.nm)))=Qq (a.map λk=>(f k.nm:Int)):=λa=>by
  induction a with
  |nil=>rfl
  |cons k r b =>
   rw[Z8];show(gu (r.map λk=>((Qq k.nm),V.int (f k.nm)))).map ((f k.nm:Int)::·)=_;rw[b];rfl
 rw[this];rfl
theorem yy{a b c:Type}{f:b->Option c}{g:a->b}{h:a->c}(e:∀x,f (g x)=Qq (h x)):∀l:List a,gi f (l.map g)=Qq (l.map h)
 |[]=>rfl
 |x::r=>by rw[Z8,gi,e,yy e r];rfl
theorem wq{a:Type}{f:a->Nat}:∀l:List a,(l.map λx=>(f x:Int)).sum=((l.map f).sum)
 |[]=>rfl
 |x::r=>by rw[Z8,Ye,wq r,Z8,Ye];omega
theorem Hd(O:dJ a)(p:a.length<=5)(q:rs.length<=10)(l:∀k,bx rs k<=1000){T:aE}(i:T[c]?=Qq (ic rs))(o:cq T.length T=Qr):∃f,kX a rs f/\rC u9 [.d (aH a),.loc c] T=.ok (.d (.int (total a f))) T:=by
 obtain⟨f,j,e⟩:=H8 O l;refine⟨f,j,?_⟩;have run:u9 [.d (aH a),.loc c] T=.ok (.d (.int (total a f))) T:=by
  have:hU [Qq (.d (aH a)),Qq (.loc c),Qs,Qs,Qs,Qs] T=.rt (.d (.int (total a f))) T:=by
   have m:gi sP (a.map ez)=Qq (a.map λk=>(k.nm,k.ow)):=yy (λk=>by
    unfold ez oS
    cases k.ow<;>rfl) a
   have n:gi sT ((rs.map b7).map U.d)=Qq (rs.map λr=>(r.kd,(r.mn:Int))):=by
    rw[Z7];exact yy (g:=U.d ∘ b7) (h:=λr=>(r.kd,(r.mn:Int))) (λr=>rfl) rs
   have b:b0 T (.loc c)=Qq ((rs.map b7).map U.d):=ka i;unfold hU aH;simp only[m,b,n,e,Hu];rw[if_pos ⟨by rw[Z0];omega,by rw[Z0,Z0];omega,rfl⟩]
   congr 3
   rw[Ye,wq];unfold total;omega
  show dF (hU [Qq (.d (aH a)),Qq (.loc c),Qs,Qs,Qs,Qs] T)=_;rw[this];rfl
 simp_all
theorem Ez(h:∀r∈a,r.mn<=12):bx a k<=12*a.length:=by
 unfold bx
 induction a with
 |nil=>simp
 |cons r t b =>
  have b:=b λr c=>h r (Z4 _ c);have d:=h r Za;rw[Sd];by_cases e:r.kd=k
  ·simp[e,Zg];omega
  ·simp only[e,decide_false,Zg];have:(if Qv=Qr then(r::t.filter λr=>decide (r.kd=k))else t.filter λr=>decide (r.kd=k))=t.filter λr=>decide (r.kd=k):=rfl;rw[this];omega
theorem MJ:bx [] k=0:=rfl
theorem Ag{b c:Type}{f:b->c}:∀(l:List b)  k ,(l.map f).eraseIdx k=(l.eraseIdx k).map f
 |[],_=>rfl
 |a::r,0=>rfl
 |a::r,k+1=>by rw[Z8,Ux,Ux,Z8,Ag r k]
theorem IM(h:bI S n=Qq a):bZ [.loc n] S=.ok (.d (.int a.length)) S:=by
 have:lN [.loc n] S=.ok (.d (.int a.length)) S:=by
  show(match bI S n with|some b=>aJ.ok (U.d (.int b.length)) S|none=>.st)=_;rw[h]
 unfold bZ;rw[this];rfl
noncomputable def xn:FT:=cW (d2 k7 (bN rC u9 (au (dV 1) (au (dV 2) aw))) (dC (D.int 60)))
noncomputable def xF:FS:=fB (fG gJ jh (dV 2) (au (bN rC gV (au (dV 0) (au (bQ bZ (au (dV 2) aw)) aw))) aw))
theorem N9:p8=b8 3 2 (aO (aY 2 (bN rS uI (au (dV 0) (au (dV 1) aw)))) (aO (iP 64 xn xF) (cD (dV 2)))):=rfl
theorem Et(O:dJ b)(s:b.length<=5):∀  m   a  (T:aE),Up S n [ic a] T->a.length<m->a.length<=6->(∀r∈a,g9 b r)->∃(e:List Wr) (l:aE),da xn xF m [Qq (.loc n),Qq (.d (aH b)),Qq (.loc S.length)] T=.nx [Qq (.loc n),Qq (.d (aH b)),Qq (.loc S.length)] l/\Up S n [ic e] l/\e.length<=6/\(∀r∈e,g9 b r)/\∃f,kX b e f/\total b f<=60
 | 0,a,T,_,h,_,_=>by simp_all
 |m+1,a,T,u,h,E,p=>by
  obtain⟨f,o,q⟩:=Hd O s (by omega) (λk=>by have:=Ez (k:=k) λr t=>(p r t).m12;omega) (T:=T) (c:=S.length) (u.at 0) u.cl;have ct:xn [Qq (.loc n),Qq (.d (aH b)),Qq (.loc S.length)] T=.ok (decide ((60:Int)<(total b f))) T:=by
   generalize aH b=w0 at *;unfold xn;simp[q,-oN,-yx]
  by_cases y:total b f<=60
  ·refine⟨a,T,?_,u,E,p,f,o,y⟩;rw[da,ct,decide_eq_false (by omega)];rfl
  ·have r0:0<a.length:=by
    rcases Vr a.length with z|z
    ·rw[Uw.mp z]at o;exfalso;have:total b f=0:=by
      unfold total;have:b.map (λk=>f k.nm)=b.map λ_=>0:=TQ λk F=>by rw[o k F,MJ,Nat.mul_zero]
      rw[this];clear this o y ct q O s p
      induction b<;>simp_all
     omega
    ·exact z
   obtain⟨v,g,B,Q,q1,N,H,W⟩:=iq u.src u.cl (q:=(a.length:Int)) (by omega) (by omega);have A:=u.keep H N;obtain⟨j,rfl⟩:=QN B;have i:bI T S.length=Qq ((a.map b7).map .d):=ka (u.at 0);have C:bI g S.length=Qq ((a.map b7).map .d):=ka (A.at 0);have Y:bZ [.loc S.length] T=.ok (.d (.int a.length)) T:=by
    rw[IM i,Z0,Z0]
   obtain⟨x,G⟩:∃x,((a.map b7).map U.d)[j]?=Qq x:=⟨_,Z2 (by simp_all)⟩;have I:jh (.loc S.length) [.d (.int (j:Nat))] g=.ok x (g.set S.length (ic (a.eraseIdx j))):=by
    show(match bI g S.length with|some w=>if 0<=(j:Int)/\(j:Int)<(w.length:Int)then(match w[(j:Int).toNat]? with|some x=>aJ.ok x (g.set S.length (.lst (w.eraseIdx (j:Int).toNat)))|none=>.st)else .st|none=>.st)=_;rw[C];simp only;rw[if_pos ⟨by omega,by simp_all⟩,VF,G];unfold ic;rw[Ag,Ag]
   have P:Up S n [ic (a.eraseIdx j)] (g.set S.length (ic (a.eraseIdx j))):=A.put 0 ym;have X:(a.eraseIdx j).length=a.length-1:=by rw[Ue (by omega)]
   obtain⟨e,l,Z,J,K,L,M⟩:=Et O s m (a.eraseIdx j) _ P (by omega) (by omega) λr t=>p r (List.mem_of_mem_eraseIdx t);refine⟨e,l,?_,J,K,L,M⟩;rw[da,ct,decide_eq_true (by omega)];have R:xF [Qq (.loc n),Qq (.d (aH b)),Qq (.loc S.length)] T=.nx [Qq (.loc n),Qq (.d (aH b)),Qq (.loc S.length)] (g.set S.length (ic (a.eraseIdx j))):=by
    refine rW (uV rfl (og i) (gQ ?_) I)
    simp_all
   simp_all
theorem P9(t:fR S n)(l:cq S.length S=Qr)(O:dJ a)(s:0<a.length)(g:a.length<=5)(w:∀k∈a,fF k):∃(c:List Wr) (b:aE),rC p8 [.loc n,.d (aH a)] S=.ok (.d (aB c)) b/\fR b n/\bU S b [n]/\cq b.length b=Qr/\c.length<=6/\(∀r∈c,g9 a r)/\∃f,kX a c f/\total a f<=60:=by
 obtain⟨e,T,x,u,y,z⟩:=HS t l s g w;obtain⟨c,E,v,h,A,B,C⟩:=Et O g 64 e T u (by omega) y z
 obtain ⟨b,m,o,p,q⟩:=h.fin (F:=p8) (us:=[.d (aH a)]) (by
  rw[N9];have j:bN rS uI (au (dV 0) (au (dV 1) aw)) [Qq (.loc n),Qq (.d (aH a)),Qs] S=.ok (.loc S.length) T:=x
  exact congrArg dF ((cU (eZ (i:=2) j)).trans ((cU v).trans (kZ rfl)))) (Ad (Zv _) (h.at 0))
 exact⟨c,b,m,o,p,q,A,B,C⟩
theorem Eh:∀ {ks:List QD},decide (x∈ks)=(df x ks).isSome
 |[]=>rfl
 |k::r=>by
  unfold df;by_cases e:k=x
  ·subst e;simp
  ·have a:¬x=k:=λz=>e z.symm;have b:=Eh (x:=x) (ks:=r)
   simp_all
noncomputable def tZ(a:List (QD×List QD))(f:QD):Option Nat:=df f (a.map (·.1))
noncomputable def Bj(a:List (QD×List QD))(f:QD):D:=match tZ a f with
 |some j=>.int j
 |none=>.non
theorem G9(h:oo k.fs)(f:QD)(S:aE):rC xy [.d (aS k),.d (.str f)] S=.ok (.d (Bj k.fs f)) S:=by
 refine gq (xs:=[aS k,.str f]) (S':=[]) ?_;have c:aK 1 (aL (d1 (bR ct (Qu "fields")) (dV 0))) (gN 3) dE (d2 bF (dV 3) (dC (D.int 0))) [Qq (.d (aS k)),Qq (.d (.str f)),Qs] []=.ok (.d (.lst ((k.fs.map (·.1)).map .str))) []:=by
  have z:=qc (T:=1) (fi:=aL (d1 (bR ct (Qu "fields")) (dV 0))) (g:=gN 3) (f:=d2 bF (dV 3) (dC (D.int 0))) (ev:=[Qq (.d (aS k)),Qq (.d (.str f)),Qs]) (S:=[]) (k.fs.map fD) (λd=>match d with|.tup [x,_]=>x|d=>d) (by rfl) (by rw[Z0];exact Z9 h.le (by decide)) λd l=>by
   obtain⟨g,o,rfl⟩:=Qx.mp l;refine⟨_,rfl,?_⟩;rfl
  rw[z,Z7,Z7];rfl
 have i:=FG (S:=[]) (x:=f) (ks:=k.fs.map (·.1));have a:∀j,df f (k.fs.map (·.1))=Qq j->iL (.d (.lst ((k.fs.map (·.1)).map .str))) [.d (.str f)] []=.ok (.d (.int j)) []:=λj m=>by
  show(match dw (((k.fs.map (·.1)).map D.str).map U.d)with|some n=>(match df f n with|some j=>aJ.ok (U.d (.int j)) []|none=>.st)|none=>.st)=_;rw[qt];simp;rw[m]
 rw[Eh]at i;have b:gJ (.d (.lst ((k.fs.map (·.1)).map .str))) []=Qr:=rfl;generalize (k.fs.map (·.1)).map D.str=p at c i a b;unfold Bj tZ;cases e:df f (k.fs.map (·.1))with
 |none =>
  rw[e]at i;simp[xy,wJ,c,i]
 |some j =>
  rw[e]at i;have a:=a j e;simp[xy,wJ,c,i,fG,b,a]
noncomputable def mQ(a:List (QD×List QD))(f v:QD):Bool:=match tZ a f with
 |some j=>match a[j]? with
  |some g=>decide (v∈g.2)
  |none=>Qv
 |none=>Qv
theorem E4:∀ {a:List QD}{j:Nat},df x a=Qq j->j<a.length
 |k::r,j,h=>by
  unfold df at h;split at h
  ·cases h;simp
  ·obtain⟨i,b,rfl⟩:=QA.mp h;have:=E4 b
   simp_all
theorem P0(h:oo k.fs)(f v:QD)(S:aE):rC we [.d (aS k),.d (.str f),.d (.str v)] S=.ok (.d (.bl (mQ k.fs f v))) S:=by
 refine gq (xs:=[aS k,.str f,.str v]) (S':=[]) ?_;have p:=G9 h f [];unfold Bj at p;unfold mQ;cases e:tZ k.fs f with
 |none =>
  rw[e]at p;simp[we,wR,p]
 |some j =>
  rw[e]at p;have b:=E4 e;rw[Z0]at b;have c:bF (.d (aP k.fs)) (.d (.int  j )) []=.ok (.d (fD k.fs[j])) []:=pU (by simp_all);have a:bF (.d (fD k.fs[j])) (.d (.int 1)) []=.ok (.d (.lst ((k.fs[j]).2.map .str))) []:=mO;have g:=FG (S:=[]) (x:=v) (ks:=(k.fs[j]).2);have i:bR ct (Qu "fields") (.d (aS k)) []=.ok (.d (aP k.fs)) []:=by rfl
  simp[Z2 b];generalize (k.fs[j]).2.map D.str=m at a g;generalize fD k.fs[j]=l at c a;simp[we,wR,p,i,c,a,g]
theorem uJ:∀ {a:List QD},a.Nodup->∀ {j:Nat},a[j]?=Qq x->df x a=Qq j
 |k::r,b,0,h=>by
  cases h;unfold df;rw[if_pos rfl]
 |k::r,b,j+1,h=>by
  unfold df;rw[if_neg (λe=>(QZ.mp b).1 (by rw[e];exact Ze h)),uJ (QZ.mp b).2 h];rfl
theorem K1(d:(a.map (·.1)).Nodup)(c:f∈a)(h:v∈f.2):mQ a f.1 v=Qr:=by
 obtain⟨j,g,e⟩:=Yf c;have b:a[j]?=Qq f:=by simp_all
 unfold mQ tZ;rw[uJ d (by rw[Zk,b];rfl)]
 simp_all
theorem fV.nd(h:fV b a)(nd:(b.map (·.1)).Nodup):(a.map (·.1)).Nodup:=by
 rcases h.sub with s|s
 ·exact s.nodup nd
 ·exact(XW _).nodup_iff.mp (s.nodup nd)
theorem fV.le(h:fV b a):a.length<=b.length:=by
 rcases h.sub with s|s
 ·have:=s.length_le;simpa using this
 ·have:=s.length_le;simpa using this
theorem OT(b:fF k)(h:∃f∈k.fs,f.1=p.1/\p.2∈f.2)(S:aE):rC xj [.d (aS k),.d (ib p)] S=.ok (.d (.bl Qr)) S:=by
 refine gq (xs:=[aS k,ib p]) (S':=[]) ?_;obtain⟨f,c,e,g⟩:=h;have i:=nR p.1 [];rw[<- e,b.fs.nn f c,e]at i;have j:=nR p.2 [];rw[b.fs.vn f c _ g]at j;have a:=P0 b.fs p.1 p.2 [];rw[<- e,K1 b.fs.nd c g,e]at a;have l:bF (.d (ib p)) (.d (.int 0)) []=.ok (.d (.str p.1)) []:=j2;have m:bF (.d (ib p)) (.d (.int 1)) []=.ok (.d (.str p.2)) []:=mO;have n:bZ [.d (ib p)] []=.ok (.d (.int 2)) []:=yJ;have o:fA cX "tuple" (.d (ib p)) []=.ok (.d (.bl Qr)) []:=rfl;generalize ib p=q at *;generalize aS k=r at *;simp(decide:=Qr) [xj,zN,o,n,l,m,i,j,a]
theorem all_map{a:Type}{l:List a}:(l.map λ_=>Qr).all id=Qr:=by simp_all
theorem KI(b:fF k)(h:fV k.fs a)(S:aE):rC Aa [.d (aS k),.d (eW a)] S=.ok (.d (.bl Qr)) S:=by
 refine gq (xs:=[aS k,eW a]) (S':=[]) ?_;have u:LM=1000000:=rfl;have t:=h.le;have s:=b.fs.le;have i:aK 1 (aL (dV 1)) (gN 2) dE (bN rC xj (au (dV 0) (au (dV 2) aw))) [Qq (.d (aS k)),Qq (.d (eW a))] []=.ok (.d (.lst ((a.map λ_=>Qr).map .bl))) []:=by
  rw[Z7];exact kF a ib _ (iU rfl) (by omega) λp c=>⟨_,rfl,OT b (h.val p c) []⟩
 have j:aK 1 (aL (dV 1)) (gN 2) dE (d2 bF (dV 2) (dC (D.int 0))) [Qq (.d (aS k)),Qq (.d (eW a))] []=.ok (.d (.lst ((a.map (·.1)).map .str))) []:=by
  rw[Z7];exact kF a ib _ (iU rfl) (by omega) λp c=>⟨_,rfl,(gj rfl rfl).trans j2⟩
 have m:=wt (λx o=>by
  obtain⟨p,c,rfl⟩:=Qx.mp o;obtain⟨f,n,e,_⟩:=h.val p c;rw[<- e]
  exact b.fs.nn f n) (h.nd b.fs.nd) (by rw[Z0];omega) []
 have g:=all_map (l:=a);have q:fA cX "list" (.d (eW a)) []=.ok (.d (.bl Qr)) []:=rfl;generalize (a.map λ_=>Qr)=r at i g;generalize (a.map (·.1)).map D.str=w at j m;generalize eW a=v at *;generalize aS k=y at *;simp(decide:=Qr) [Aa,xK,q,i,nN,g,j,m]
theorem Bt(i:P.length<=5)(c:∀k∈P,bu k.nm=Qr)(S:aE):rC uN [.d (aU P)] S=.ok (.d (.lst ((P.map (·.nm)).map .str))) S:=by
 refine gq (xs:=[aU P]) (S':=[]) ?_;have a:bR ct (Qu "by_name") (.d (aU P)) []=.ok (.d (.dct (dK Kd.nm aS P))) []:=by rfl
 have h:cB [.d (.dct (dK Kd.nm aS P))] []=.ok (.d (.lst ((P.map (·.nm)).map .str))) []:=by
  have:jd Qv [.d (.dct (dK Kd.nm aS P))] []=.ok (.d (.lst ((P.map (·.nm)).map .str))) []:=by
   have f:((bz (dK Kd.nm aS P)).all λe=>dD e.1)=Qr:=by
    unfold bz dK;rw[Z7,Yu,Zp];exact λk b=>GV (c k b)
   show(if((bz (dK Kd.nm aS P)).all λe=>dD e.1)=Qr then(if Qv=Qr then _ else aJ.ok (U.d (.lst ((bz (dK Kd.nm aS P)).map λg=>jY g.1))) [])else .st)=_;rw[if_pos f,if_neg (by decide)];unfold bz dK;rw[Z7,Z7,Z7];rfl
  unfold cB;rw[this];rfl
 generalize (P.map (·.nm)).map D.str=j at *;generalize dK Kd.nm aS P=l at *;generalize aU P=m at *;simp(decide:=Qr) [uN,yU,a,h]
theorem wx{T:List (QD×Fn)}(h:g a S=.ok (.d (.obj c fs)) S)(i:T.lookup c=Qq F)(k:((bz fs).lookup m).isNone=Qr)(j:b a S=.ok us e):fk m T R g b a S=R F (.d (.obj c fs)::us) e:=by
 unfold fk;rw[h];show(match T.lookup c with|some F=>if((bz fs).lookup m).isNone=Qr then(b a S).bind λf S=>R F (.d (.obj c fs)::f) S else .st|none=>.st)=_;rw[i];simp only;rw[if_pos k,j];rfl
theorem Bi(h:a ev S=.ok (.d (aU P)) S):fk (Qu "order") oR rC a aw ev S=rC uN [.d (aU P)] S:=wx h (by rfl) (by rfl) rfl
theorem rf(h:c a S=.ok (.d (aU P)) S)(e:b a S=.ok [x] S):fk (Qu "of") fK rC c b a S=rC tW [.d (aU P),x] S:=wx h (by rfl) (by rfl) e
theorem qx(a:(P.map (·.nm)).Nodup)(h:k∈P):dB P k.nm=Qq k:=by
 unfold dB
 induction P with
 |nil=>cases h
 |cons j r b =>
  rw[Yr];by_cases e:j.nm=k.nm
  ·simp only[e,decide_true];rcases QL.mp h with z|h
   ·rw[z]
   ·exact absurd (Qx.mpr ⟨k,h,e.symm⟩) (QZ.mp a).1
  ·simp[e];rcases QL.mp h with z|h
   ·simp_all
   ·exact b (QZ.mp a).2 h
structure ff(P:List Kd):Prop where
 own:dJ P
 le:P.length<=5
 ok:∀k∈P,fF k
structure kG(P:List Kd)(rs:List Wr):Prop where
 ex:∀r∈rs,∃k∈P,k.nm=r.kd/\fV k.fs r.cs
 m1:∀r∈rs,1<=r.mn/\r.mn<=60
 le:rs.length<=100
theorem MA(b:ff P)(h:∃k∈P,k.nm=r.kd/\fV k.fs r.cs)(y:1<=r.mn/\r.mn<=60)(S:aE):rC vM [.d (aU P),.d (b7 r)] S=.ok (.d (.bl Qr)) S:=by
 refine gq (xs:=[aU P,b7 r]) (S':=[]) ?_;obtain⟨k,a,e,g⟩:=h;have c:=nR r.kd [];rw[<- e,(b.ok k a).nb,e]at c;have od:=Bt b.le (λk a=>(b.ok k a).nb) [];have f:=GY (S:=[]) (x:=r.kd) (ks:=P.map (·.nm));rw[decide_eq_true (e▸Xs a)]at f;have u:=of_eq (n:=r.kd) (by rw[<- e];exact(b.ok k a).nb) (by rw[<- e];exact qx b.own.nd a) [];have v:=KI (b.ok k a) g [];have m:=C3  r.mn  [];have i:bF (.d (b7 r)) (.d (.int 0)) []=.ok (.d (.str r.kd)) []:=j2;have j:bF (.d (b7 r)) (.d (.int 1)) []=.ok (.d (.int r.mn)) []:=mO;have l:bF (.d (b7 r)) (.d (.int 2)) []=.ok (.d (eW r.cs)) []:=rfl;have o:bZ [.d (b7 r)] []=.ok (.d (.int 3)) []:=yJ;have w:fA cX "tuple" (.d (b7 r)) []=.ok (.d (.bl Qr)) []:=rfl;have p:(1)<=(r.mn:Int):=by omega
 have q:(r.mn:Int)<=60:=by omega
 have t:fk (Qu "order") oR rC (dV 0) aw [Qq (.d (aU P)),Qq (.d (b7 r))] []=_:=(Bi rfl).trans od;have s:fk (Qu "of") fK rC (dV 0) (au (d2 bF (dV 1) (dC (D.int 0))) aw) [Qq (.d (aU P)),Qq (.d (b7 r))] []=_:=(rf rfl (by rfl)).trans u;generalize (P.map (·.nm)).map D.str=A at *;generalize b7 r=z at *;generalize eW r.cs=B at *;generalize aS k=C at *;generalize aU P=E at *;simp(decide:=Qr) [vM,zq,w,o,i,j,l,c,t,f,m,p,q,s,v,qu]
theorem Kz(f:ff P)(h:kG P a)(S:aE):rC x9 [.d (aU P),.d (aB a)] S=.ok (.d (.bl Qr)) S:=by
 refine gq (xs:=[aU P,aB a]) (S':=[]) ?_;have k:LM=1000000:=rfl;have j:=h.le;have c:aK 1 (aL (dV 1)) (gN 2) dE (bN rC vM (au (dV 0) (au (dV 2) aw))) [Qq (.d (aU P)),Qq (.d (aB a))] []=.ok (.d (.lst ((a.map λ_=>Qr).map .bl))) []:=by
  rw[Z7];exact kF a b7 _ (iU rfl) (by omega) λr e=>⟨_,rfl,MA f (h.ex r e) (h.m1 r e) []⟩
 have b:=all_map (l:=a);have g:fA cX "list" (.d (aB a)) []=.ok (.d (.bl Qr)) []:=rfl;generalize (a.map λ_=>Qr)=i at c b;generalize aB a=m at *;generalize aU P=n at *;simp(decide:=Qr) [x9,AX,g,c,nN,b]
theorem yz(h:eR S n=Qq es)(a:b6 es (.inr k)=Qq v):bF (.loc n) (.d (.str k)) S=.ok v S:=by
 unfold bF;rw[show bK S (.loc n)=Qq es from h];simp[fU,a]
theorem AJ:∀a ,gx ((a.map D.int).map U.d)=Qq a
 |[]=>rfl
 |i::r=>by
  show(gx ((r.map D.int).map U.d)).map (i::·)=_;rw[AJ r];rfl
theorem uD{is:List Int}:i4 l4 [.d (.lst (is.map .int))] S=.ok (.d (.int is.sum)) S:=by
 show l4 ((is.map D.int).map U.d) S=_;unfold l4;rw[AJ]
theorem Kc(f:a.length<=100)(k:QD)(S:aE):rC rX [.d (.str k),.d (aB a)] S=.ok (.d (.int (bx a k))) S:=by
 refine gq (xs:=[.str k,aB a]) (S':=[]) ?_;have i:LM=1000000:=rfl;have c:aK 1 (aL (dV 1)) (gN 2) (cW (d2 gU (d2 bF (dV 2) (dC (D.int 0))) (dV 0))) (d2 bF (dV 2) (dC (D.int 1))) [Qq (.d (.str k)),Qq (.d (aB a))] []=.ok (.d (.lst (((a.filter λr=>decide (r.kd=k)).map λr=>r.mn ).map .int))) []:=by
  rw[Z7];refine mZ a b7 (λr=>decide (r.kd=k)) _ (iU rfl) (by omega) λr g=>⟨[Qq (.d (.str k)),Qq (.d (aB a)),Qq (.d (b7 r))],rfl,?_,λ_=>(gj rfl rfl).trans mO⟩;have h:bF (.d (b7 r)) (.d (.int 0)) []=.ok (.d (.str r.kd)) []:=j2
  simp_all
 have e:((a.filter λr=>decide (r.kd=k)).map λr=>(r.mn:Int)).sum=(bx a k):=wq _;have b:=uD (is:=(a.filter λr=>decide (r.kd=k)).map λr=>r.mn ) (S:=[]);rw[e]at b;generalize ((a.filter λr=>decide (r.kd=k)).map λr=>r.mn ).map D.int=l at *;generalize aB a=j at *;simp[rX,zt,c,b]
noncomputable abbrev cK(f:QD->Nat)(l:List Kd):List (aR×D):=dK Kd.nm (λk=>.int (f k.nm)) l
theorem Qh(a:(l.map (·.nm)).Nodup)(h:k∈l):b6 (bz (cK f l)) (.inr k.nm)=Qq (.d (.int (f k.nm))):=by
 rw[pQ];have:=qx a h;unfold dB at this;rw[this];rfl
theorem B6{T:List a}(h:n t∉T.map n):g7 (bz (dK n v T)) (.inr (n t)) (.d (v t))=bz (dK n v (T++[t])):=by
 rw[Gw,if_neg]
 simp_all
theorem FF:∀ {l:List Nat}{x:Nat},x∈l->x<=l.sum
 |a::r,x,h=>by
  rw[Ye];rcases QL.mp h with rfl|h
  ·omega
  ·have:=FF h;omega
theorem dJ.before(O:dJ P):∀ {b a:List Kd}{x:Kd},P=b++x::a->∀q,x.ow=Qq q->q∈b.map (·.nm):=by
 induction O with
 |nil=>intro b a x e;simp at e
 | @snoc g k O n i f =>
  intro b a x e q d;rcases List.eq_nil_or_concat a with rfl|⟨c,y,rfl⟩
  ·simp_all
  ·have e2:g++[k]=(b++x::c)++[y]:=by rw[e];simp
   obtain⟨h,_⟩:=List.append_inj' e2 rfl;exact f h q d
noncomputable def C6:FS:=aO (aY 4 (d1 (bR ct (Qu "owner")) (fk (Qu "of") fK rC (dV 0) (au (dV 3) aw)))) (aO (aY 5 (pD (cW (d2 (fj Qv) (dV 4) (dC D.non))) (dC (D.int 1)) (d2 bF (dV 2) (dV 4)))) (iN (dV 2) (dV 3) (d2 dI (dV 5) (bN rC rX (au (dV 3) (au (dV 1) aw))))))
theorem Qj:xE=b8 6 2 (aO (aY 2 iQ) (aO (dP (aL (fk (Qu "order") oR rC (dV 0) aw)) (gN 3) C6) (cD (km (dV 2))))):=rfl
theorem xI(g:f b S=.ok v a)(h:e b a=.ok (.loc n) a)(i:c b a=.ok (.d (.str k)) a)(j:eR a n=Qq es)(l:es.length<LM):iN e c f b S=.nx b (a.set n (.dct (g7 es (.inr k) v))):=by
 unfold iN;rw[g];show bW (e b a) b _=_;rw[h];show bW (c b a) b _=_;rw[i];show(match eR a n,fU (.d (.str k))with|some es,Qq k=>if es.length<LM then Fl.nx b (a.set n (.dct (g7 es k v)))else .st|_,_=>.st)=_;rw[j];show(if es.length<LM then _ else _)=_;rw[if_pos l]
theorem xR:bR ct (Qu "owner") (.d (aS k)) S=.ok (.d (oS k.ow)) S:=by rfl
theorem MI(l:ff P)(h:kG P c)(hs:∀k,bx c k<=1000)(J:kX P c f)(t:total P f<=60)(S:aE):rC xE [.d (aU P),.d (aB c)] S=.ok (.d (.int (total P f))) S:=by
 refine gq (xs:=[aU P,aB c]) (S':=[.dct (bz (cK f P))]) ?_;have lm:LM=1000000:=rfl;have hl:=l.le;have od:=Bt l.le λk v=>(l.ok k v).nb;have N:aL (fk (Qu "order") oR rC (dV 0) aw) [Qq (.d (aU P)),Qq (.d (aB c)),Qq (.loc 0),Qs,Qs,Qs] [.dct []]=.ok (.items ((P.map λk=>D.str k.nm).map .d)) [.dct []]:=by
  unfold aL;rw[(Bi rfl).trans (od _),Z7];rfl
 have H:=λk v=>Z9 (FF (Qx.mpr ⟨k,v,rfl⟩)) t;obtain⟨G,S3,Q,s,p,n,rfl,rfl⟩:=jv (g:=gN 3) (b:=C6) P (λk=>D.str k.nm) (λa A T=>∃(s p n:Option U),A=[Qq (.d (aU P)),Qq (.d (aB c)),Qq (.loc 0),s,p,n]/\T=[.dct (bz (cK f a))]) N ⟨Qs,Qs,Qs,rfl,rfl⟩ λa x C e A T ⟨s,p,n,u,I⟩=>by
  subst u I;have w:x∈P:=by rw[e];simp
  have B:=l.own.nd;have Z:x.nm∉a.map (·.nm):=by
   rw[e,Zf,QY]at B;exact λz=>B.2.2 _ z _ (by simp) rfl
  have pl:a.length<=5:=by have:=congrArg Rh e;simp at this;omega
  have of:=of_eq (l.ok x w).nb (qx l.own.nd w) [.dct (bz (cK f a))];have s1:aY 4 (d1 (bR ct (Qu "owner")) (fk (Qu "of") fK rC (dV 0) (au (dV 3) aw))) [Qq (.d (aU P)),Qq (.d (aB c)),Qq (.loc 0),Qq (.d (.str x.nm)),p,n] [.dct (bz (cK f a))]=.nx [Qq (.d (aU P)),Qq (.d (aB c)),Qq (.loc 0),Qq (.d (.str x.nm)),Qq (.d (oS x.ow)),n] [.dct (bz (cK f a))]:=eZ ((sY ((rf rfl (gQ rfl)).trans of)).trans xR);obtain⟨m,L,W⟩:∃m:Nat,pD (cW (d2 (fj Qv) (dV 4) (dC D.non))) (dC (D.int 1)) (d2 bF (dV 2) (dV 4)) [Qq (.d (aU P)),Qq (.d (aB c)),Qq (.loc 0),Qq (.d (.str x.nm)),Qq (.d (oS x.ow)),n] [.dct (bz (cK f a))]=.ok (.d (.int m)) [.dct (bz (cK f a))]/\f x.nm=m*bx c x.nm/\m<=60:=by
   have r:=J x w;cases o:x.ow with
   |none =>
    rw[o]at r;refine⟨1,?_,r,by decide⟩;rfl
   |some q =>
    rw[o]at r;have qm:=l.own.before e q o;obtain⟨j,K,rfl⟩:=Qx.mp qm;have O:j∈P:=by simp_all
    have y:(a.map (·.nm)).Nodup:=by
     have:=l.own.nd;rw[e,Zf,QY]at this;exact this.1
    have ix:bF (.loc 0) (.d (.str j.nm)) [.dct (bz (cK f a))]=_:=yz (yn rfl) (Qh y K);refine⟨f j.nm,?_,r,H j O⟩
    simp_all
  obtain⟨Y,R⟩:=W;have F:=Kc h.le x.nm [.dct (bz (cK f a))];have X:d2 dI (dV 5) (bN rC rX (au (dV 3) (au (dV 1) aw))) [Qq (.d (aU P)),Qq (.d (aB c)),Qq (.loc 0),Qq (.d (.str x.nm)),Qq (.d (oS x.ow)),Qq (.d (.int m))] [.dct (bz (cK f a))]=.ok (.d (.int (f x.nm))) [.dct (bz (cK f a))]:=by
   rw[gj rfl (F),tX (v8 (by omega)),Y,YT]
  refine⟨_,_,_,rfl,(cU s1).trans ((cU (eZ L)).trans (xI X rfl rfl (yn rfl) (by rw[AZ,qJ];omega))),_,_,_,rfl,?_⟩;rw[B6 Z];rfl
 have sv:km (dV 2) [Qq (.d (aU P)),Qq (.d (aB c)),Qq (.loc 0),s,p,n] [.dct (bz (cK f P))]=.ok (.d (.int (total P f))) [.dct (bz (cK f P))]:=by
  show(match gx ((bz (cK f P)).map (·.2))with|some M=>aJ.ok (U.d (.int M.sum)) _|none=>.st)=_;have:(bz (cK f P)).map (·.2)=((P.map λk=>(f k.nm:Int)).map D.int).map U.d:=by
   unfold bz cK dK
   simp_all
  rw[this,AJ];simp only;rw[wq ];rfl
 rw[Qj];have E:iQ [Qq (.d (aU P)),Qq (.d (aB c)),Qs,Qs,Qs,Qs] []=.ok (.loc 0) [.dct []]:=rfl;exact congrArg dF ((cU (eZ (i:=2) E)).trans ((cU Q).trans (kZ sv)))
noncomputable def j7(cs:List (QD×QD))(x:QD):D:=match cs.find? λp=>decide (p.1=x)with
 |some p=>.str p.2
 |none=>.non
noncomputable def cQ(k:Kd)(cs:List (QD×QD)):D:=.tup (k.fs.map λf=>j7 cs f.1)
noncomputable def aI(k:Kd)(a:List Wr):List D:=(a.filter λr=>decide (r.kd=k.nm)).flatMap λr=>QE r.mn (cQ k r.cs)
theorem nQ:(aI k a).length=bx a k.nm:=by
 unfold aI bx
 induction a<;>simp_all
theorem CF{l:List m}(h:(l.map n).Nodup)(f:l.length<=LM):fP Qv [.d (.lst (l.map λx=>.tup [.str (n x),v x]))] S=.ok (.d (.dct (dK n v l))) S:=by
 have j:∀l ,fH (l.map λx=>.tup [.str (n x),v x])=Qq (dK n v l):=λl=>by
  induction l with
  |nil=>rfl
  |cons a r g =>
   show(match fU (.d (.str (n a))),fH (r.map λx=>.tup [.str (n x),v x])with|some k,Qq l=>Qq ((k,v a)::l)|_,_=>Qs)=_;rw[g];rfl
 have i:iJ (dK n v l)=Qr:=by
  unfold iJ dK;rw[Z7];refine decide_eq_true ?_;have:=Vy.mp h;exact Vy.mpr (by simp_all)
 have p:j9 Qv [.d (.lst (l.map λx=>.tup [.str (n x),v x]))] S=.ok (.d (.dct (dK n v l))) S:=by
  show(match cj ((l.map λx=>D.tup [.str (n x),v x]).map U.d)with|some e=>(match fH e with|some b=>if iJ b=Qr/\b.length<=LM then(if Qv=Qr then aJ.ok (U.loc S.length) (S++[cG.dct (bz b)])else .ok (.d (.dct b)) S)else .st|none=>.st)|none=>.st)=_;rw[mz];simp only;rw[j l];simp only;rw[if_pos ⟨i,by rw[qJ];exact f⟩,if_neg (by decide)]
 have c:jf Qv [.d (.lst (l.map λx=>.tup [.str (n x),v x]))] S=.st:=rfl;unfold fP;rw[c,p];rfl
theorem uk{n:Nat}(h:n<=100):dI (.d (.lst [x])) (.d (.int n)) S=.ok (.d (.lst (QE n x))) S:=by
 have:lG (.d (.lst [x])) (.d (.int n)) S=.ok (.d (.lst (QE n x))) S:=by
  have a:iK S (.d (.lst [x]))=Qq [.d x]:=rfl;have c:LM=1000000:=rfl;unfold lG;rw[a];simp only;rw[if_pos ⟨by omega,by omega,by rw[VF];show 1*n<=LM;omega⟩,VF];have e:(QE n [U.d x]).flatten=(QE n x).map U.d:=by
   simp_all
  rw[e,hW (by rw[UO];omega)]
 have b:ly (.d (.lst [x])) (.d (.int n)) S=.st:=rfl;unfold dI;rw[b,this];rfl
theorem PV(h:bI S n=Qq b)(f:b.length+a.length<=LM):kO (.loc n) [.d (.lst a)] S=.ok (.d .non) (S.set n (.lst (b++a.map .d))):=by
 show(match bI S n,Qq (a.map U.d)with|some c,Qq e=>if c.length+e.length<=LM then aJ.ok (U.d .non) (S.set n (.lst (c++e)))else .st|_,_=>.st)=_
 simp_all
theorem mF(h:t a S=.ok b S'):gP t f g a S=if b=Qr then f a S' else g a S':=by
 unfold gP;rw[h];cases b<;>rfl
theorem zk(f:e a S=.ok d S)(c:bK S d=Qq es)(g:b a S=.ok (.d (.str k)) S):eV e b a S=.ok ((b6 es (.inr k)).getD (.d .non)) S:=by
 unfold eV;rw[f];show(if(bK S d).isSome=Qr then(b a S).bind _ else _)=_;rw[if_pos (by rw[c];rfl),g];show(match bK S d,fU (.d (.str k))with|some es,Qq k=>aJ.ok ((b6 es k).getD (.d .non)) S|_,_=>.st)=_;rw[c];rfl
theorem su(h:c b S=.ok d a):bQ g c b S=g d a:=by
 simp_all
noncomputable def yD:FS:=gP (cW (d2 gU (d2 bF (dV 3) (dC (D.int 0))) (d1 (bR ct (Qu "name")) (dV 0)))) (aO (aY 4 (bQ (fP Qv) (au (d2 bF (dV 3) (dC (D.int 2))) aw))) (aO (aY 5 (bQ nv (au (aK ["field"].length (aL (d1 (bR ct (Qu "fields")) (dV 0))) (gN 6) dE (eV (dV 4) (d2 bF (dV 6) (dC (D.int 0))))) aw))) (fB (fG gJ kO (dV 2) (au (d2 dI (b9 (au (dV 5) aw)) (d2 bF (dV 3) (dC (D.int 1)))) aw))))) hZ
theorem Pg:ua=b8 6 2 (aO (aY 2 (eB aw)) (aO (dP (aL (dV 1)) (gN 3) yD) (cD (dV 2)))):=rfl
theorem N7:aI k (a++[r])=aI k a++(if r.kd=k.nm then QE r.mn (cQ k r.cs)else[]):=by
 unfold aI;rw[Y4,TU]
 congr 1
 by_cases h:r.kd=k.nm
 ·simp[h]
 ·simp[h]
theorem JR(g:fF k)(c:r.kd=k.nm->fV k.fs r.cs)(B:r.mn<=60)(C:us.length<=10000)(h a:Option U):∃u x,yD [Qq (.d (aS k)),Qq (.d w),Qq (.loc 0),Qq (.d (b7 r)),h,a] [.lst (us.map .d)]=.nx [Qq (.d (aS k)),Qq (.d w),Qq (.loc 0),Qq (.d (b7 r)),u,x] [.lst ((us++if r.kd=k.nm then QE r.mn (cQ k r.cs)else[]).map .d)]:=by
 have F:LM=1000000:=rfl;have E:∀S,bF (.d (b7 r)) (.d (.int 0)) S=.ok (.d (.str r.kd)) S:=λS=>j2;have n:∀S,bF (.d (b7 r)) (.d (.int 1)) S=.ok (.d (.int r.mn)) S:=λS=>mO;have o:∀S,bF (.d (b7 r)) (.d (.int 2)) S=.ok (.d (eW r.cs)) S:=λS=>rfl;have y:∀S,bR ct (Qu "name") (.d (aS k)) S=.ok (.d (.str k.nm)) S:=λS=>by rfl
 have z:∀S,bR ct (Qu "fields") (.d (aS k)) S=.ok (.d (aP k.fs)) S:=λS=>by rfl
 by_cases e:r.kd=k.nm
 ·have c:=c e;rw[if_pos e];have l:=CF (v:=λp=>.str p.2) (S:=[.lst (us.map .d)]) (c.nd g.fs.nd) (by have:=c.le;have:=g.fs.le;omega);have s:bQ nv (au (aK ["field"].length (aL (d1 (bR ct (Qu "fields")) (dV 0))) (gN 6) dE (eV (dV 4) (d2 bF (dV 6) (dC (D.int 0))))) aw) [Qq (.d (aS k)),Qq (.d w),Qq (.loc 0),Qq (.d (b7 r)),Qq (.d (.dct (dK (λp=>p.1) (λp=>.str p.2) r.cs))),a] [.lst (us.map .d)]=.ok (.d (cQ k r.cs)) [.lst (us.map .d)]:=by
   have j:aK 1 (aL (d1 (bR ct (Qu "fields")) (dV 0))) (gN 6) dE (eV (dV 4) (d2 bF (dV 6) (dC (D.int 0)))) [Qq (.d (aS k)),Qq (.d w),Qq (.loc 0),Qq (.d (b7 r)),Qq (.d (.dct (dK (λp=>p.1) (λp=>.str p.2) r.cs))),a] [.lst (us.map .d)]=.ok (.d (.lst (k.fs.map λf=>j7 r.cs f.1))) [.lst (us.map .d)]:=by
    refine kF k.fs fD _ ?_ (by have:=g.fs.le;omega) λf A=>⟨[Qq (.d (aS k)),Qq (.d w),Qq (.loc 0),Qq (.d (b7 r)),Qq (.d (.dct (dK (λp=>p.1) (λp=>.str p.2) r.cs))),a,Qq (.d (fD f))],rfl,?_⟩
    ·rfl
    ·have t:b6 (bz (dK (λp=>p.1) (λp=>.str p.2) r.cs)) (.inr f.1)=_:=pQ r.cs;have:(b6 (bz (dK (λp=>p.1) (λp=>.str p.2) r.cs)) (.inr f.1)).getD (.d .non)=.d (j7 r.cs f.1):=by
      rw[t];unfold j7;cases r.cs.find? λp=>decide (p.1=f.1)<;>rfl
     rw[<- this];rfl
   refine(su (gQ j)).trans ?_;show iV ((k.fs.map λf=>j7 r.cs f.1).map U.d) _=_;unfold iV;rw[mz];simp only;rw[if_pos (by rw[Z0];have:=g.fs.le;omega)];rfl
  refine⟨Qq (.d (.dct (dK (λp=>p.1) (λp=>.str p.2) r.cs))),Qq (.d (cQ k r.cs)),?_⟩;have m:fB (fG gJ kO (dV 2) (au (d2 dI (b9 (au (dV 5) aw)) (d2 bF (dV 3) (dC (D.int 1)))) aw)) [Qq (.d (aS k)),Qq (.d w),Qq (.loc 0),Qq (.d (b7 r)),Qq (.d (.dct (dK (λp=>p.1) (λp=>.str p.2) r.cs))),Qq (.d (cQ k r.cs))] [.lst (us.map .d)]=.nx [Qq (.d (aS k)),Qq (.d w),Qq (.loc 0),Qq (.d (b7 r)),Qq (.d (.dct (dK (λp=>p.1) (λp=>.str p.2) r.cs))),Qq (.d (cQ k r.cs))] [.lst ((us++QE r.mn (cQ k r.cs)).map .d)]:=by
   have i:bI [cG.lst (us.map .d)] 0=Qq (us.map .d):=rfl;refine(rW (uV rfl (og i) (gQ ((gj rfl ((gj rfl rfl).trans (n _))).trans (uk (by omega)))) (PV i (by rw[Z0,UO];omega)))).trans ?_;rw[Zf];rfl
  have q:aY 4 (bQ (fP Qv) (au (d2 bF (dV 3) (dC (D.int 2))) aw)) [Qq (.d (aS k)),Qq (.d w),Qq (.loc 0),Qq (.d (b7 r)),h,a] [.lst (us.map .d)]=.nx [Qq (.d (aS k)),Qq (.d w),Qq (.loc 0),Qq (.d (b7 r)),Qq (.d (.dct (dK (λp =>p.1) (λp=>.str p.2) r.cs))),a] [.lst (us.map .d)]:=eZ (by
   show(au (d2 bF (dV 3) (dC (D.int 2))) aw [Qq (.d (aS k)),Qq (.d w),Qq (.loc 0),Qq (.d (b7 r)),h,a] [.lst (us.map .d)]).bind (fP Qv)=_;rw[gQ ((gj rfl rfl).trans (o _))]
   exact l)
  refine(mF (b:=Qr) ?_).trans ((cU q).trans ((cU (eZ s)).trans m))
  simp_all
 ·rw[if_neg e,QP];refine⟨h,a,(mF (b:=Qv) ?_).trans rfl⟩
  simp_all
theorem Pb(s:ff P)(h:kG P f)(v:k∈P)(S:aE):rC ua [.d (aS k),.d (aB f)] S=.ok (.d (.lst (aI k f))) S:=by
 have Q:=h.le;have c:∀l ,(∀r∈l,r.mn<=60)->(aI k l).length<=60*l.length:=λl w=>by
  rw[nQ];unfold bx
  induction l with
  |nil=>simp
  |cons r t B =>
   have B:=B λr y=>w r (Z4 _ y);have N:=w r Za;rw[Sd];by_cases e:r.kd=k.nm
   ·simp[e,decide_true,Zg];omega
   ·simp only[e,decide_false,Zg];have:(if Qv=Qr then(r::t.filter λr=>decide (r.kd=k.nm))else t.filter λr=>decide (r.kd=k.nm))=t.filter λr=>decide (r.kd=k.nm):=rfl;rw[this];omega
 obtain⟨H,T,M,p,m,n,rfl,rfl⟩:=jv (fi:=aL (dV 1)) (g:=gN 3) (b:=yD) (S:=[.lst []]) f b7 (λa q T=>∃(p m n:Option U),q=[Qq (.d (aS k)),Qq (.d (aB f)),Qq (.loc 0),p,m,n]/\T=[.lst ((aI k a).map .d)]) (iU rfl) ⟨Qs,Qs,Qs,rfl,rfl⟩ λa x C e q T ⟨p,m,n,o,I⟩=>by
  subst o I;have A:x∈f:=by rw[e];simp
  have O:a.length<=100:=by have:=congrArg Rh e;simp at this;omega
  have L:=c a λr y=>(h.m1 r (by simp_all)).2
  obtain ⟨R,W,E⟩:=JR (s.ok k v) (λz=>by
   obtain⟨j,K,G,J⟩:=h.ex x A;rw[Bl s.own.nd v K (by rw[G,z])]
   exact J) (h.m1 x A).2 (us:=aI k a) (by omega) m n
  rw[<- N7]at E;exact⟨_,_,_,rfl,E,_,_,_,rfl,rfl⟩
 refine sZ (xs:=[aS k,aB f]) (u:=.loc 0) (S':=[.lst ((aI k f).map .d)]) ?_ (E3 rfl);rw[Pg];have F:eB aw [Qq (.d (aS k)),Qq (.d (aB f)),Qs,Qs,Qs,Qs] []=.ok (.loc 0) [.lst []]:=rfl;exact congrArg dF ((cU (eZ (i:=2) F)).trans ((cU M).trans (kZ rfl)))
theorem Gj(x:QD):R5++x=x:=qr (by rw[j8];rfl)
theorem tu(x y z:QD):x++y++z=x++(y++z):=qr (by rw[j8,j8,j8,j8,RP])
theorem n8(h:q≠[])(k:QD)(n:Nat):ax (q++[(k,n)])=ax q++"."++k++"."++bw n:=by
 have:ax (q++[(k,n)])=ax q++"."++(k++"."++bw n):=by
  unfold ax;rw[Bd,B9 _ _ (by simp[aC])]
  ·rfl
  ·intro e;have:=mG q;rw[e]at this;cases q<;>simp_all
 rw[this,tu,tu,tu,tu,tu]
noncomputable def d9(p:Pa):D:=if p=[]then .non else .str (ax p)
structure l9(P:List Kd)(p:Pa)(k:Kd):Prop where
 ok:(p=[]/\k.ow=Qs)\/(PathOk p/\cS P Qs p=Qr/\fN Qs p=k.ow/\k.ow≠Qs)
 le:p.length<=8
theorem zE:∀  p   a   k  (i:Nat),cS P a p=Qr->fN a p=k.ow->dB P k.nm=Qq k->cS P a (p++[(k.nm,i)])=Qr
 |[],a,k,i,_,h,c=>by
  show(match dB P k.nm with|some d=>decide (d.ow=a)&&cS P (Qq k.nm) []|none=>Qv)=Qr;rw[c];simp only;have:a=k.ow:=h;rw[decide_eq_true this.symm];rfl
 |(x,j)::t,a,k,i,b,h,c=>by
  rw[X7];unfold cS at b ⊢;cases e:dB P x with
  |none=>rw[e]at b;cases b
  |some d =>
   rw[e]at b;simp at b ⊢;exact⟨b.1,zE t (Qq x) k i b.2 h c⟩
theorem C4:∀  p   a  (k:QD) (i:Nat),fN a (p++[(k,i)])=Qq k
 |[],a,k,i=>rfl
 |(x,j)::t,a,k,i=>C4 t (Qq x) k i
theorem l9.path(s:l9 P p k)(c:fF k)(b:i<=999999):PathOk (p++[(k.nm,i)]):=by
 refine⟨by simp,by rw[Zh];have:=s.le;simp;omega,λq a=>?_⟩;rcases QO.mp a with a|a
 ·rcases s.ok with⟨rfl,_⟩|⟨h,_⟩
  ·cases a
  ·exact h.ok q a
 ·rw[QH.mp a];exact⟨c.nb,b⟩
theorem l9.chain(s:l9 P p k)(a:dB P k.nm=Qq k)(i:Nat):cS P Qs (p++[(k.nm,i)])=Qr:=by
 rcases s.ok with⟨rfl,h⟩|⟨_,b,c,_⟩
 ·exact zE [] Qs k i rfl h.symm a
 ·exact zE p Qs k i b c a
theorem rH(h:c b S=.ok d S)(g:wH d=Qq x)(i:x.length<=100000)(f:a.length<=100000):i7 c e b S a=e b S (a++x):=by
 unfold i7
 simp_all
theorem Bh(e:x.length<=100000)(d:a.length<=100000):jO x c b S a=c b S (a++x):=by
 unfold jO;rw[if_pos ⟨e,d⟩]
theorem E1(h:b a S R5=.ok x S)(c:dZ x=Qr):ji b a S=.ok (.d (.str x)) S:=by
 unfold ji
 simp_all
theorem jI(x y:QD):(x++y).length=x.length+y.length:=by
 have:=congrArg Rh (j8 x y);rw[Zh]at this;exact this
theorem Iu(c:ff P)(e:k∈P)(s:l9 P p k){i:Nat}(m:i<=999999)(S:aE):rC oh [.d (aU P),.d (.str k.nm),.d (d9 p),.d (.int i)] S=.ok (.d (.str (ax (p++[(k.nm,i)])))) S:=by
 refine gq (xs:=[aU P,.str k.nm,d9 p,.int i]) (S':=[]) ?_;have C:=qx c.own.nd e;have H:=s.path (c.ok k e) m;have F:=of_eq (c.ok k e).nb C [];have a:∀l,d1 (bR ct (Qu "owner")) (fk (Qu "of") fK rC (dV 0) (au (dV 1) aw)) [Qq (.d (aU P)),Qq (.d (.str k.nm)),Qq (.d (d9 p)),Qq (.d (.int i)),l] []=.ok (.d (oS k.ow)) []:=λl=>(sY ((rf (x:=.d (.str k.nm)) rfl (gQ rfl)).trans F)).trans xR;have a:=a Qs;have q:=C3 (i:Int) [];have E:(0:Int)<=(i:Int):=by omega
 have r:(i:Int)<=999999:=by omega
 have t:k.nm.length<=100000:=by have:=(qv (c.ok k e).nb).2.1;omega
 have M:(Qu ".").length=1:=by decide +kernel
 have L:R5.length=0:=rfl;have N:=(qv (c.ok k e).nb).2.1;have K:=wk m;have v:wH (.d (.int (i:Int)))=Qq (bw i):=by
  show(if(i:Int).natAbs<10^12 then Qq (Qu (Sy  i ))else Qs)=_;rw[if_pos (by rw[X2];omega)];rfl
 have w:=H.txt;rcases s.ok with⟨rfl,G⟩|⟨h,y,n,z⟩
 ·rw[G]at a;have f:R5++k.nm++Qu "."++bw i=ax ([]++[(k.nm,i)]):=by rw[Gj];rfl
  have os:d9 []=.non:=rfl;rw[os]at a ⊢;have j:ji (i7 (dV 1) (jO (Qu ".") (i7 (dV 3) pA))) [Qq (.d (aU P)),Qq (.d (.str k.nm)),Qq (.d .non),Qq (.d (.int i)),Qq (.d .non)] []=.ok (.d (.str (ax ([]++[(k.nm,i)])))) []:=by
   refine E1 ?_ w;rw[rH rfl rfl t (by omega),Bh (by omega) (by rw[jI];omega),rH rfl v (by omega) (by rw[jI,jI];omega),f];rfl
  have b:=a;have g:oh [.d (aU P),.d (.str k.nm),.d .non,.d (.int i)] []=dF (aO (aY 4 (d1 (bR ct (Qu "owner")) (fk (Qu "of") fK rC (dV 0) (au (dV 1) aw)))) _ [Qq (.d (aU P)),Qq (.d (.str k.nm)),Qq (.d .non),Qq (.d (.int i)),Qs] []):=rfl;show oh [.d (aU P),.d (.str k.nm),.d .non,.d (.int i)] []=_;generalize ax ([]++[(k.nm,i)])=J at *;rw[g,cU (eZ b)];generalize aU P=I at *;simp(decide:=Qr) [q,qu,E,r,j]
 ·obtain⟨o,A⟩:=Option.ne_none_iff_exists'.mp z;rw[A]at a n;have u:=wy h y [];rw[n]at u;have os:d9 p=.str (ax p):=if_neg h.ne;rw[os]at a ⊢;have O:=h.len;have B:bF (.d (.tup [.str o,oS (hJ p),.int (eH p)])) (.d (.int 0)) []=.ok (.d (.str o)) []:=j2;have f:R5++ax p++Qu "."++k.nm++Qu "."++bw i=ax (p++[(k.nm,i)]):=by rw[Gj,n8 h.ne]
  have j:ji (i7 (dV 2) (jO (Qu ".") (i7 (dV 1) (jO (Qu ".") (i7 (dV 3) pA))))) [Qq (.d (aU P)),Qq (.d (.str k.nm)),Qq (.d (.str (ax p))),Qq (.d (.int i)),Qq (.d (.str o))] []=.ok (.d (.str (ax (p++[(k.nm,i)])))) []:=by
   refine E1 ?_ w;rw[rH rfl (x:=ax p) rfl (by omega) (by omega),Bh (by omega) (by rw[jI];omega),rH rfl (x:=k.nm) rfl t (by rw[jI,jI];omega),Bh (by omega) (by rw[jI,jI,jI];omega),rH rfl v (by omega) (by rw[jI,jI,jI,jI];omega),f];rfl
  have b:=a;have g:oh [.d (aU P),.d (.str k.nm),.d (.str (ax p)),.d (.int i)] []=dF (aO (aY 4 (d1 (bR ct (Qu "owner")) (fk (Qu "of") fK rC (dV 0) (au (dV 1) aw)))) _ [Qq (.d (aU P)),Qq (.d (.str k.nm)),Qq (.d (.str (ax p))),Qq (.d (.int i)),Qs] []):=rfl;show oh [.d (aU P),.d (.str k.nm),.d (.str (ax p)),.d (.int i)] []=_;generalize ax (p++[(k.nm,i)])=J at *;generalize D.tup [.str o,oS (hJ p),.int (eH p)]=Q at *;rw[g,cU (eZ b)];generalize aU P=I at *;simp(decide:=Qr) [q,qu,r,u,B,j]
theorem uz{q:Type}(m:List q)(f:q->D)(I:List q->Ev->aE->Prop)(B:fi ev S=.ok (.cel n) S)(p:∀a ev S,I a ev S->bI S n=Qq ((m.map f).map .d))(s:I [] ev S)(step:∀a x j,m=a++x::j->∀ev S,I a ev S->∃(c k:Ev) (l:aE),g (.d (f x)) ev=Qq c/\b c S=.nx k l/\I (a++[x]) k l):∃c l,dP fi g b ev S=.nx c l/\I m c l:=by
 have v:∀  j a   ev   S ,m=a++j->I a ev S->∃c l,eM (.cel n) g b j.length a.length ev S=.nx c l/\I m c l:=by
  intro j
  induction j with
  |nil =>
   intro a ev S e i;rw[QP]at e;subst e;refine⟨ev,S,?_,i⟩;show eM (.cel n) g b 0 m.length ev S=_;rw[eM];simp[i5,p _ _ _ i]
  |cons x r E =>
   intro a ev S e i;obtain⟨c,k,l,w,y,A⟩:=step a x r e ev S i;obtain⟨u,t,z,C⟩:=E (a++[x]) k l (by simp_all) A;refine⟨u,t,?_,C⟩;rw[Zg,eM];have o:((m.map f).map U.d)[a.length]?=Qq (.d (f x)):=by rw[e];simp
   simp only[i5,p _ _ _ i,o,w,y]
   simp_all
 obtain⟨c,l,h,i⟩:=v m [] ev S rfl s;refine⟨c,l,?_,i⟩;unfold dP;rw[B];show eM _ _ _ (dY (.cel n) S) 0 _ _=_;have:dY (.cel n) S=m.length:=by
  show(match bI S n with|some m=>m.length|none=>0)=_;rw[p _ _ _ s];simp
 rw[this];exact h
noncomputable abbrev ke:=Pa×D
noncomputable abbrev jk(E:List ke):List (aR×D):=dK (λe:ke=>ax e.1) (·.2) E
noncomputable def eL(A:List (aR×U))(E:List ke)(L:List cG)(C:List Pa):aE:=.dct A::.dct (bz (jk E))::(L++[.lst (C.map λp=>.d (.str (ax p)))])
section
theorem rQ:eR (eL A E L C) 0=Qq A:=rfl
theorem sO:eR (eL A E L C) 1=Qq (bz (jk E)):=rfl
theorem HB:(eL A E L C)[2+L.length]?=Qq (.lst (C.map λp=>.d (.str (ax p)))):=by
 unfold eL;rw[W8,Sb,Sb];simp
theorem Pq:(eL A E L C).set (2+L.length) (.lst (C'.map λp=>.d (.str (ax p))))=eL A E L C':=by
 unfold eL
 grind
theorem OD:(eL A E L C).set 1 (.dct (bz (jk a)))=eL A a L C:=rfl
end
noncomputable def DN:FS:=aO (aY 11 (bN rC oh (au (dV 0) (au (dV 4) (au (dV 8) (au (dV 9) aw)))))) (aO (fB (fG gJ fS (d2 bF (dV 2) (dV 4)) (au (dV 11) aw))) (iN (dV 3) (dV 11) (dV 10)))
theorem OG(n:ff P)(q:k∈P)(s:l9 P p k){i:Nat}(o:i<=999999)(m:b6 A (.inr k.nm)=Qq (.loc (2+L.length)))(v:C.length<=1000)(y:E.length<=10000)(h:ax (p++[(k.nm,i)])∉E.map λe=>ax e.1)(b c f a:Option U):
 DN [Qq (.d (aU P)),Qq (.d rw),Qq (.loc 0),Qq (.loc 1),Qq (.d (.str k.nm)),b,c,f,Qq (.d (d9 p)),Qq (.d (.int i)),Qq (.d w),a] (eL A E L C)=.nx [Qq (.d (aU P)),Qq (.d rw),Qq (.loc 0),Qq (.loc 1),Qq (.d (.str k.nm)),b,c,f,Qq (.d (d9 p)),Qq (.d (.int i)),Qq (.d w),Qq (.d (.str (ax (p++[(k.nm,i)]))))] (eL A (E++[(p++[(k.nm,i)],w)]) L (C++[p++[(k.nm,i)]])):=by
 have z:LM=1000000:=rfl;have nm:=Iu n q s o (eL A E L C);have u:aY 11 (bN rC oh (au (dV 0) (au (dV 4) (au (dV 8) (au (dV 9) aw))))) [Qq (.d (aU P)),Qq (.d rw),Qq (.loc 0),Qq (.loc 1),Qq (.d (.str k.nm)),b,c,f,Qq (.d (d9 p)),Qq (.d (.int i)),Qq (.d w),a] (eL A E L C)=.nx [Qq (.d (aU P)),Qq (.d rw),Qq (.loc 0),Qq (.loc 1),Qq (.d (.str k.nm)),b,c,f,Qq (.d (d9 p)),Qq (.d (.int i)),Qq (.d w),Qq (.d (.str (ax (p++[(k.nm,i)]))))] (eL A E L C):=eZ (nm);have j:bI (eL A E L C) (2+L.length)=Qq (C.map λp=>.d (.str (ax p))):=ka HB;have r:bF (.loc 0) (.d (.str k.nm)) (eL A E L C)=.ok (.loc (2+L.length)) (eL A E L C):=yz rQ m;have l:=qw (x:=.d (.str (ax (p++[(k.nm,i)])))) j (by rw[Z0];omega);have g:fS (.loc (2+L.length)) [.d (.str (ax (p++[(k.nm,i)])))] (eL A E L C)=.ok (.d .non) (eL A E L (C++[p++[(k.nm,i)]])):=by
  rw[l,<- Pq (C':=C++[p++[(k.nm,i)]]),Zf];rfl
 refine(cU u).trans ((cU (rW (uV ((gj rfl rfl).trans r) (og j) (gQ rfl) g))).trans ((xI rfl rfl rfl sO (by rw[AZ,qJ];omega)).trans ?_));rw[B6 (t:=(p++[(k.nm,i)],w)) h,OD]
noncomputable def gn(k:Kd)(a:List D)(p:Pa):List ke:=a.zipIdx.map λx=>(p++[(k.nm,x.2)],x.1)
noncomputable def pf:FS:=dP (oZ (au (dV 7) aw)) (f7 (cu (gN 9) (cu (gN 10) f6))) DN
theorem PL(H:ff P)(J:k∈P)(s:l9 P p k)(R:b.length<=999)(G:b6 A (.inr k.nm)=Qq (.loc (2+L.length)))(O:C.length+b.length<=1000)(Q:E.length+b.length<=10000)(u:((E++gn k b p).map λe=>ax e.1).Nodup)(l m o h i:Option U):
 ∃j f c,pf [Qq (.d (aU P)),Qq (.d rw),Qq (.loc 0),Qq (.loc 1),Qq (.d (.str k.nm)),l,m,Qq (.d (.lst b)),Qq (.d (d9 p)),o,h,i] (eL A E L C)=.nx [Qq (.d (aU P)),Qq (.d rw),Qq (.loc 0),Qq (.loc 1),Qq (.d (.str k.nm)),l,m,Qq (.d (.lst b)),Qq (.d (d9 p)),j,f,c] (eL A (E++gn k b p) L (C++(gn k b p).map (·.1))):=by
 have v:oZ (au (dV 7) aw) [Qq (.d (aU P)),Qq (.d rw),Qq (.loc 0),Qq (.loc 1),Qq (.d (.str k.nm)),l,m,Qq (.d (.lst b)),Qq (.d (d9 p)),o,h,i] (eL A E L C)=.ok (.items ((b.zipIdx.map λx=>D.tup [.int (x.2),x.1]).map .d)) (eL A E L C):=by
  show aJ.ok (mr.items (gA b)) _=_;rw[Z7];rfl
 obtain⟨B,N,K,j,f,c,rfl,rfl⟩:=jv (g:=f7 (cu (gN 9) (cu (gN 10) f6))) b.zipIdx (λx=>D.tup [.int (x.2:Nat),x.1]) (λa t T=>∃(j f c:Option U),t=[Qq (.d (aU P)),Qq (.d rw),Qq (.loc 0),Qq (.loc 1),Qq (.d (.str k.nm)),l,m,Qq (.d (.lst b)),Qq (.d (d9 p)),j,f,c]/\T=eL A (E++a.map λx=>(p++[(k.nm,x.2)],x.1)) L (C++a.map λx=>p++[(k.nm,x.2)])) v ⟨o,h,i,rfl,by simp_all⟩ λa x n e t T ⟨j,f,c,q,I⟩=>by
  subst q I;have S:a.length<b.length:=by have:=congrArg Rh e;simp at this;omega
  have W:x.2=a.length:=by
   have:b.zipIdx[a.length]?=Qq x:=by rw[e];simp
   rw[UV]at this;obtain⟨y,_,rfl⟩:=QA.mp this;simp
  have r:ax (p++[(k.nm,x.2)])∉(E++a.map λx=>(p++[(k.nm,x.2)],x.1)).map λe=>ax e.1:=by
   have F:E++gn k b p=(E++a.map λx=>(p++[(k.nm,x.2)],x.1))++((p++[(k.nm,x.2)],x.1)::n.map λx=>(p++[(k.nm,x.2)],x.1)):=by
    unfold gn
    simp_all
   rw[F,Zf,QY]at u;exact λz=>u.2.2 _ z _ (by simp) rfl
  have M:=OG H J s (by omega) (w:=x.1) (rw:=rw) (C:=C++a.map λx=>p++[(k.nm,x.2)]) G (by rw[Zh,Z0];omega) (by rw[Zh,Z0];omega) r l m (Qq (.d (.lst b))) c;exact⟨_,_,_,rfl,M,_,_,_,rfl,by simp_all⟩
 refine⟨j,f,c,?_⟩;rw[show(gn k b p).map (·.1)=b.zipIdx.map λx=>p++[(k.nm,x.2)] by unfold gn;rw[Z7];rfl];exact K
noncomputable def cy(k:Kd)(b:List D)(a:List Pa):List ke:=a.flatMap (gn k b)
noncomputable def uH:FS:=dP (aL (dV 6)) (gN 8) pf
theorem IL(O:ff P)(Q:k∈P)(s:∀p∈ps,l9 P p k)(W:ws.length<=999)(N:b6 A (.inr k.nm)=Qq (.loc (2+L.length)))(hC:(cy k ws ps).length<=1000)(hE:E.length+(cy k ws ps).length<=10000)(I:((E++cy k ws ps).map λe=>ax e.1).Nodup)(q:Option U)(r:U)(t u n o:Option U)
 (M:(r=.d (.lst [.non])/\ps=[[]])\/∃j,r=.loc (2+j)/\L[j]?=Qq (.lst (ps.map λp=>.d (.str (ax p))))/\∀p∈ps,p≠[]) :
 ∃h f b c,uH [Qq (.d (aU P)),Qq (.d rw),Qq (.loc 0),Qq (.loc 1),Qq (.d (.str k.nm)),q,Qq r,Qq (.d (.lst ws)),t,u,n,o] (eL A E L [])=.nx [Qq (.d (aU P)),Qq (.d rw),Qq (.loc 0),Qq (.loc 1),Qq (.d (.str k.nm)),q,Qq r,Qq (.d (.lst ws)),h,f,b,c] (eL A (E++cy k ws ps) L ((cy k ws ps).map (·.1))):=by
 have step:∀a x g,ps=a++x::g->∀l T,(∃(h f b c:Option U),l=[Qq (.d (aU P)),Qq (.d rw),Qq (.loc 0),Qq (.loc 1),Qq (.d (.str k.nm)),q,Qq r,Qq (.d (.lst ws)),h,f,b,c]/\T=eL A (E++cy k ws a) L ((cy k ws a).map (·.1)))->∃(i m:Ev) (B:aE),gN 8 (.d (d9 x)) l=Qq i/\pf i T=.nx m B/\∃(h f b c:Option U),m=[Qq (.d (aU P)),Qq (.d rw),Qq (.loc 0),Qq (.loc 1),Qq (.d (.str k.nm)),q,Qq r,Qq (.d (.lst ws)),h,f,b,c]/\B=eL A (E++cy k ws (a++[x])) L ((cy k ws (a++[x])).map (·.1)):=λa x g e l T ⟨h,f,b,c,w,v⟩=>by
  subst w v;have ea:cy k ws (a++[x])=cy k ws a++gn k ws x:=by unfold cy;simp_all
  have G:cy k ws ps=cy k ws a++gn k ws x++cy k ws g:=by
   rw[e];unfold cy
   simp_all
  have K:(gn k ws x).length=ws.length:=by unfold gn;simp_all
  have l1:(cy k ws ps).length=(cy k ws a).length+ws.length+(cy k ws g).length:=by rw[G,Zh,Zh,K]
  obtain ⟨y9,Y,Z,X⟩:=PL O Q (s x (by rw [e];simp)) W (E:=E++cy k ws a) (C:=(cy k ws a).map (·.1)) N (by rw [Z0];omega) (by rw [Zh];omega) (by
   rw[G,<- RP,<- RP,Zf]at I
   exact(QY.mp I).1) q (Qq r) f b c
  refine⟨_,_,_,rfl,X,_,_,_,_,rfl,?_⟩
  simp_all
 rcases M with⟨rfl,rfl⟩|⟨j,rfl,H,y⟩
 ·obtain⟨i,J,z,h,f,b,c,rfl,rfl⟩:=jv (fi:=aL (dV 6)) (S:=eL A E L []) [[]] d9 (λa l T=>∃(h f b c:Option U),l=[Qq (.d (aU P)),Qq (.d rw),Qq (.loc 0),Qq (.loc 1),Qq (.d (.str k.nm)),q,Qq (.d (.lst [.non])),Qq (.d (.lst ws)),h,f,b,c]/\T=eL A (E++cy k ws a) L ((cy k ws a).map (·.1))) (iU rfl) ⟨t,u,n,o,rfl,by unfold cy;rw[VN,QP];rfl⟩ step;exact⟨h,f,b,c,z⟩
 ·have os:ps.map (λp=>U.d (.str (ax p)))=(ps.map d9).map .d:=by
   rw[Z7];refine TQ λp R=>?_;show _=U.d (d9 p);unfold d9;rw[if_neg (y p R)]
  have F:∀(E:List ke) (C:List Pa),bI (eL A E L C) (2+j)=Qq ((ps.map d9).map .d):=λE C=>by
   rw[<- os];refine ka ?_;unfold eL;rw[W8,Sb,Sb,Zi (Qw.mp H).1];exact H
  obtain ⟨i,J,z,h,f,b,c,rfl,rfl⟩:=uz (fi:=aL (dV 6)) ps d9 (λa l T=>∃ (h f b c:Option U),l=[Qq (.d (aU P)),Qq (.d rw),Qq (.loc 0),Qq (.loc 1),Qq (.d (.str k.nm)),q,Qq (.loc (2 + j)),Qq (.d (.lst ws)),h,f,b,c]/\T=eL A (E++cy k ws a) L ((cy k ws a).map (·.1))) (by
   show(match bI (eL A E L []) (2+j)with|some _=>aJ.ok (mr.cel (2+j)) (eL A E L [])|none=>.st)=_
   rw[F]) (λa l T ⟨_,_,_,_,_,v⟩=>by rw[v];exact F _ _) ⟨t,u,n,o,rfl,by unfold cy;rw[VN,QP];rfl⟩ step
  exact⟨h,f,b,c,z⟩
noncomputable def cm(g:QD->List Pa)(k:Kd):List Pa:=match k.ow with
 |none=>[[]]
 |some o=>g o
noncomputable def gK(b:List Wr)(k:Kd)(a:List Pa):List Pa:=a.flatMap λp=>(Q7 (bx b k.nm)).map λi=>p++[(k.nm,i)]
theorem AV:(cy k (aI k a) b).map (·.1)=gK a k b:=by
 unfold cy gK;rw[X5]
 congr 1
 funext p;unfold gn;rw[Z7,<- nQ];generalize aI k a=c;show c.zipIdx.map (λx=>p++[(k.nm,x.2)])=_;rw[show(λx=>p++[(k.nm,x.2)])=(λi=>p++[(k.nm,i)]) ∘ Prod.snd from rfl,<- Z7,List.zipIdx_map_snd,<- List.range_eq_range']
noncomputable def gL(a:List Kd)(b:List Wr)(g:QD->List Pa):Prop:=∀k∈a,g k.nm=gK b k (cm g k)
theorem D2(O:dJ b)(d:List Wr):∃g,gL b d g:=by
 induction O with
 |nil=>exact⟨λ_=>[],λk a=>nomatch a⟩
 | @snoc b j O n f h =>
  obtain⟨g,e⟩:=h;refine⟨λx=>if x=j.nm then gK d j (cm g j)else g x,λk a=>?_⟩;have c:cm (λx=>if x=j.nm then gK d j (cm g j)else g x) k=cm g k:=by
   unfold cm;cases q:k.ow with
   |none=>rfl
   |some o =>
    have:o∈b.map (·.nm):=by
     rcases QO.mp a with a|a
     ·exact(O.in_own k a o q).1
     ·rw[QH.mp a]at q;exact f o q
    simp only;rw[if_neg (λz=>n (by rw[<- z];exact this))]
  rw[c];show(if k.nm=j.nm then _ else _)=_;rcases QO.mp a with a|a
  ·rw[if_neg (λz=>n (by simp_all))];exact e k a
  simp_all
theorem gL.one(O:dJ c)(d:gL c p f)(h:gL c p g):∀k∈c,f k.nm=g k.nm:=by
 induction O with
 |nil=>simp_all
 | @snoc c j O n m b =>
  have b:=b (λk a=>d k (Zj _ a)) (λk a=>h k (Zj _ a));intro k a;rcases QO.mp a with a|a
  ·exact b k a
  ·rw[QH.mp a,d j (by simp),h j (by simp)]
   congr 1
   unfold cm;cases e:j.ow with
   |none=>rfl
   |some o =>
    obtain⟨i,l,rfl⟩:=Qx.mp (m o e);exact b i l
theorem zB:(gK c k a).length=a.length*bx c k.nm:=by
 unfold gK
 induction a with
 |nil=>simp
 |cons p r b=>rw[Zx,Zh,b,Z0,Y2,Zg,W6,W8]
theorem gL.cnt(a:gL c d g):kX c d λx=>(g x).length:=λk b=>by
 show(g k.nm).length=_;rw[a k b,zB];unfold cm;cases k.ow<;>rfl
structure s9(P:List Kd)(k:QD)(p:Pa):Prop where
 ok:PathOk p
 ch:cS P Qs p=Qr
 la:fN Qs p=Qq k
theorem t9(r:ff P)(x:∀k,bx C k<=1000)(u:gL P C g):∀ {b:List Kd},dJ b->(∀k∈b,k∈P)->b.length<=5->∀k∈b,∀p∈g k.nm,s9 P k.nm p/\p.length<=b.length:=by
 intro b O
 induction O with
 |nil=>exact λ_ ω k a=>nomatch a
 | @snoc b j O n w h =>
  intro e v k a p c;rw[Zh]at v ⊢;have h:=h (λk a=>e k (Zj _ a)) (by omega);rcases QO.mp a with a|a
  ·obtain⟨d,m⟩:=h k a p c;exact⟨d,by omega⟩
  ·rw[QH.mp a]at c ⊢;have l:=e j (by simp);rw[u j l]at c;obtain⟨q,f,c⟩:=QT.mp c;obtain⟨i,s,rfl⟩:=Qx.mp c;have s:=R9.mp s;have B:i<=999999:=by have:=x j.nm;omega
   have t:l9 P q j/\q.length<=b.length:=by
    unfold cm at f;cases o:j.ow with
    |none =>
     rw[o]at f;rw[QH.mp f];exact⟨⟨.inl ⟨rfl,o⟩,by simp⟩,by simp⟩
    |some z =>
     rw[o]at f;obtain⟨y,A,rfl⟩:=Qx.mp (w z o);obtain⟨d,m⟩:=h y A q f;exact⟨⟨.inr ⟨d.ok,d.ch,by rw[d.la,o],by rw[o];simp⟩,by omega⟩,m⟩
   exact⟨⟨t.1.path (r.ok j l) B,t.1.chain (qx r.own.nd l) i,C4 _ _ _ _⟩,by simp_all⟩
theorem Ni(a:ff P)(f:∀k,bx j k<=1000)(d:gL P j g)(e:k∈P):∀p∈cm g k,l9 P p k:=λp b=>by
 unfold cm at b;cases o:k.ow with
 |none =>
  rw[o]at b;rw[QH.mp b];exact⟨.inl ⟨rfl,o⟩,by simp⟩
 |some z =>
  rw[o]at b;obtain⟨y,i,rfl⟩:=Qx.mp (a.own.in_own k e z o).1;obtain⟨c,l⟩:=t9 a f d a.own (λ_ h=>h) a.le y i p b;have:=a.le;exact⟨.inr ⟨c.ok,c.ch,by rw[c.la,o],by rw[o];simp⟩,by omega⟩
theorem JM(h:bw a=bw b):a=b:=by
 have:=congrArg (λx=>Zaa x.cps.toList) h;simp[wQ,PySem.W.KIN.val_back]at this;exact this
theorem GL:∀ {p q:Pa},aC p=aC q->p=q
 |[],[],_=>rfl
 |[],(k,n)::q,h=>by cases h
 |(k,n)::p,[],h=>by cases h
 |(k,n)::p,(d,e)::q,h=>by
  injection h with b a;injection a with a c;rw[b,GL c,JM a]
theorem Ff(a:PathOk p)(b:PathOk q)(h:ax p=ax q):p=q:=GL (OM a b h)
theorem HG(h:d.Nodup):(gK o k d).Nodup:=by
 unfold gK
 induction d with
 |nil=>exact Yh
 |cons p r n =>
  obtain⟨f,g⟩:=QZ.mp h;rw[Zx,QY];refine⟨?_,n g,λa l b c e=>?_⟩
  ·refine Vy.mpr (Zan (fun {a b} h z=>h ?_) List.nodup_range)
   simp_all
  ·obtain⟨i,_,rfl⟩:=Qx.mp l;obtain⟨q,m,c⟩:=QT.mp c;obtain⟨j,_,rfl⟩:=Qx.mp c;have:=List.append_inj_left' e rfl;exact f (this▸m)
theorem AA(e:gL P i g):∀ {c:List Kd},dJ c->(∀k∈c,k∈P)->∀k∈c,(g k.nm).Nodup:=by
 intro c O
 induction O with
 |nil=>exact λ_ k a=>nomatch a
 | @snoc c j O n f d =>
  intro b k a;have d:=d λk a=>b k (Zj _ a);rcases QO.mp a with a|a
  ·exact d k a
  ·rw[QH.mp a,e j (b j (by simp))];refine HG ?_;unfold cm;cases o:j.ow with
   |none=>simp
   |some z =>
    obtain⟨y,h,rfl⟩:=Qx.mp (f z o);exact d y h
theorem zR{b d:Type}{f g:b->List d}:∀ {l:List b},(∀x∈l,f x=g x)->l.flatMap f=l.flatMap g
 |[],_=>rfl
 |a::r,h=>by rw[Zx,Zx,h a Za,zR λx c=>h x (Z4 _ c)]
noncomputable def aA(rs:List Wr)(g:QD->List Pa)(a:List Kd):List ke:=a.flatMap λk=>cy k (aI k rs) (cm g k)
theorem vJ(b:gL P d g)(h:∀k∈a,k∈P):(aA d g a).map (·.1)=a.flatMap λk=>g k.nm:=by
 unfold aA;rw[X5];refine zR λk c=>?_;rw[AV,b k (h k c)]
theorem G1(i:ff P)(H:∀k,bx w k<=1000)(o:gL P w g):((aA w g P).map λe=>ax e.1).Nodup:=by
 have u:=t9 i H o i.own (λ_ h=>h) i.le;have B:=AA o i.own λ_ h=>h;rw[show(λe:ke=>ax e.1)=ax ∘ Prod.fst from rfl,<- Z7,vJ o λ_ h=>h];have C:∀m:List Kd,(∀k∈m,k∈P)->(m.map (·.nm)).Nodup->((m.flatMap λk=>g k.nm).map ax).Nodup:=λm=>by
  induction m with
  |nil=>exact λ_ ω=>Yh
  |cons k r J =>
   intro c N;obtain⟨O,M⟩:=QZ.mp N;rw[Zx,Zf,QY];refine⟨?_,J (λx I=>c x (Z4 _ I)) M,λa E b F e=>?_⟩
   ·have v:=c k Za;have:∀l:List Pa,l.Nodup->(∀p∈l,PathOk p)->(l.map ax).Nodup:=λl=>by
     induction l with
     |nil=>exact λ_ ω=>Yh
     |cons p t K =>
      intro n f;obtain⟨y,A⟩:=QZ.mp n;refine QZ.mpr ⟨λz=>?_,K A λq d=>f q (Z4 _ d)⟩;obtain⟨q,d,e⟩:=Qx.mp z;exact y (Ff (f q (Z4 _ d)) (f p Za) e▸d)
    exact this _ (B k v) λp s=>(u k v p s).1.ok
   ·obtain⟨p,s,rfl⟩:=Qx.mp E;obtain⟨q,d,rfl⟩:=Qx.mp F;obtain⟨j,G,d⟩:=QT.mp d;have n:=(u k (c k Za) p s).1;have f:=(u j (c j (Z4 _ G)) q d).1;have:=Ff n.ok f.ok e;have L:=n.la;rw[this,f.la]at L
    simp_all
 exact C P (λ_ h=>h) i.own.nd
noncomputable def Ci:FS:=aO (aY 5 (d1 (bR ct (Qu "owner")) (fk (Qu "of") fK rC (dV 0) (au (dV 4) aw)))) (aO (aY 6 (pD (cW (d2 (fj Qv) (dV 5) (dC D.non))) (b9 (au (dC D.non) aw)) (d2 bF (dV 2) (dV 5)))) (aO (aY 7 (bN rC ua (au (fk (Qu "of") fK rC (dV 0) (au (dV 4) aw)) (au (dV 1) aw)))) (aO (iN (dV 2) (dV 4) (eB aw)) uH)))
theorem Kt:yg=b8 12 2 (aO (aY 2 iQ) (aO (aY 3 iQ) (aO (dP (aL (fk (Qu "order") oR rC (dV 0) aw)) (gN 4) Ci) (cD (dV 3))))):=rfl
noncomputable def mI(a:List Kd):List (aR×U):=a.zipIdx.map λx=>(.inr x.1.nm,.loc (2+x.2))
noncomputable def oz(g:QD->List Pa)(a:List Kd):List cG:=a.map λk=>.lst ((g k.nm).map λp=>.d (.str (ax p)))
noncomputable def gR(b:List Wr)(g:QD->List Pa)(a:List Kd):aE:=.dct (mI a)::.dct (bz (jk (aA b g a)))::oz g a
theorem OR:mI (a++[k])=mI a++[(.inr k.nm,.loc (2+a.length))]:=by
 unfold mI;rw[List.zipIdx_append,Zf];simp
theorem D5(c:(b.map (·.nm)).Nodup)(h:b[j]?=Qq k):b6 (mI b) (.inr k.nm)=Qq (.loc (2+j)):=by
 have d:∀(l:List Kd)  m j ,(l.map (·.nm)).Nodup->l[j]?=Qq k->b6 ((l.zipIdx m).map λx=>((.inr x.1.nm),U.loc (2+x.2))) (.inr k.nm)=Qq (.loc (2+(m+j))):=λl=>by
  induction l with
  |nil=>intro m j _ h;simp at h
  |cons a r f =>
   intro m j c h;obtain⟨g,i⟩:=QZ.mp c;rw[List.zipIdx_cons,Z8];cases j with
   |zero =>
    cases h;unfold b6
    simp_all
   |succ j =>
    have n:a.nm≠k.nm:=λz=>g (Qx.mpr ⟨k,Ze h,z.symm⟩);have:=f (m+1) j i h;unfold b6 at this ⊢;rw[Yr];have e:decide ((Ua a.nm:aR)=Ua k.nm)=Qv:=decide_eq_false λz=>n (YO z);simp only[e];rw[this]
    congr 3
    omega
 have:=d b 0 j c h;rw[Zaj]at this;exact this
theorem Nt(h:b6 a k=Qs):g7 a k v=a++[(k,v)]:=by
 unfold g7;rw[if_neg];intro z;obtain⟨e,b,c⟩:=X8.mp z;unfold b6 at h;rw[WC,RJ]at h;exact h e b c
theorem JC(h:x∉c.map (·.nm)):b6 (mI c) (.inr x)=Qs:=by
 unfold b6;rw[WC,RJ];intro e a;obtain⟨y,b,rfl⟩:=Qx.mp a;simp only[decide_eq_true_eq];intro z;exact h (Qx.mpr ⟨y.1,SD b,YO z⟩)
theorem PX(i:ff P)(h:kG P b)(C:∀k,bx b k<=900)(B:gL P b g)(hE:(aA b g P).length<=900)(e:P=a++x::u)(J v s m n c f:Option U):∃x5 x6 x7 H I q r,Ci [Qq (.d (aU P)),Qq (.d (aB b)),Qq (.loc 0),Qq (.loc 1),Qq (.d (.str x.nm)),J,v,s,m,n,c,f] (gR b g a)=.nx [Qq (.d (aU P)),Qq (.d (aB b)),Qq (.loc 0),Qq (.loc 1),Qq (.d (.str x.nm)),x5,x6,x7,H,I,q,r] (gR b g (a++[x])):=by
 have lm:LM=1000000:=rfl;have t:x∈P:=by rw[e];simp
 have F:=i.own.nd;have G:(a.map (·.nm)).Nodup:=by rw[e,Zf]at F;exact(QY.mp F).1
 have W:x.nm∉a.map (·.nm):=by
  rw[e,Zf,QY]at F;exact λz=>F.2.2 _ z _ (by simp) rfl
 have pl:a.length<=5:=by have:=congrArg Rh e;have:=i.le;simp at *;omega
 have K:=of_eq (i.ok x t).nb (qx i.own.nd t) (gR b g a);have N:(aA b g P).length=(aA b g a).length+(cy x (aI x b) (cm g x)).length+(aA b g u).length:=by
  rw[e];unfold aA;rw[TU,Zx,Zh,Zh];omega
 have Z:aY 5 (d1 (bR ct (Qu "owner")) (fk (Qu "of") fK rC (dV 0) (au (dV 4) aw))) [Qq (.d (aU P)),Qq (.d (aB b)),Qq (.loc 0),Qq (.loc 1),Qq (.d (.str x.nm)),J,v,s,m,n,c,f] (gR b g a)=.nx [Qq (.d (aU P)),Qq (.d (aB b)),Qq (.loc 0),Qq (.loc 1),Qq (.d (.str x.nm)),Qq (.d (oS x.ow)),v,s,m,n,c,f] (gR b g a):=eZ ((sY ((rf rfl (gQ rfl)).trans K)).trans xR);obtain⟨l,M,X⟩:∃l,pD (cW (d2 (fj Qv) (dV 5) (dC D.non))) (b9 (au (dC D.non) aw)) (d2 bF (dV 2) (dV 5)) [Qq (.d (aU P)),Qq (.d (aB b)),Qq (.loc 0),Qq (.loc 1),Qq (.d (.str x.nm)),Qq (.d (oS x.ow)),v,s,m,n,c,f] (gR b g a)=.ok l (gR b g a)/\((l=.d (.lst [.non])/\cm g x=[[]])\/∃j,l=.loc (2+j)/\(oz g a)[j]?=Qq (.lst ((cm g x).map λp=>.d (.str (ax p))))/\∀p∈cm g x,p≠[]):=by
  unfold cm;cases o:x.ow with
  |none =>
   refine⟨.d (.lst [.non]),?_,.inl ⟨rfl,rfl⟩⟩;rfl
  |some z =>
   obtain⟨y,R,rfl⟩:=Qx.mp (i.own.before e z o);obtain⟨j,O,w⟩:=Yf R;have w:a[j]?=Qq y:=by rw[Z2 O,w]
   have ix:bF (.loc 0) (.d (.str y.nm)) (gR b g a)=.ok (.loc (2+j)) (gR b g a):=yz (es:=mI a) rfl (D5 G w);refine⟨.loc (2+j),?_,.inr ⟨j,rfl,by unfold oz;rw[Zk,w];rfl,λp Q=>?_⟩⟩
   ·simp_all
   ·exact(t9 i (λk=>by have:=C k;omega) B i.own (λ_ h=>h) i.le y (by simp_all) p Q).1.ok.ne
 have oe:=Pb i h t (gR b g a)
 have s7:aY 7 (bN rC ua (au (fk (Qu "of") fK rC (dV 0) (au (dV 4) aw)) (au (dV 1) aw))) [Qq (.d (aU P)),Qq (.d (aB b)),Qq (.loc 0),Qq (.loc 1),Qq (.d (.str x.nm)),Qq (.d (oS x.ow)),Qq l,s,m,n,c,f] (gR b g a)=.nx [Qq (.d (aU P)),Qq (.d (aB b)),Qq (.loc 0),Qq (.loc 1),Qq (.d (.str x.nm)),Qq (.d (oS x.ow)),Qq l,Qq (.d (.lst (aI x b))),m,n,c,f] (gR b g a):=eZ (by
  have mf:fk (Qu "of") fK rC (dV 0) (au (dV 4) aw) [Qq (.d (aU P)),Qq (.d (aB b)),Qq (.loc 0),Qq (.loc 1),Qq (.d (.str x.nm)),Qq (.d (oS x.ow)),Qq l,s,m,n,c,f] (gR b g a)=_:=(rf rfl (gQ rfl)).trans K
  simp_all)
 have sp:iN (dV 2) (dV 4) (eB aw) [Qq (.d (aU P)),Qq (.d (aB b)),Qq (.loc 0),Qq (.loc 1),Qq (.d (.str x.nm)),Qq (.d (oS x.ow)),Qq l,Qq (.d (.lst (aI x b))),m,n,c,f] (gR b g a)=.nx [Qq (.d (aU P)),Qq (.d (aB b)),Qq (.loc 0),Qq (.loc 1),Qq (.d (.str x.nm)),Qq (.d (oS x.ow)),Qq l,Qq (.d (.lst (aI x b))),m,n,c,f] (eL (mI (a++[x])) (aA b g a) (oz g a) []):=by
  have sl:(gR b g a).length=2+a.length:=by unfold gR oz;simp;omega
  have L:eB aw [Qq (.d (aU P)),Qq (.d (aB b)),Qq (.loc 0),Qq (.loc 1),Qq (.d (.str x.nm)),Qq (.d (oS x.ow)),Qq l,Qq (.d (.lst (aI x b))),m,n,c,f] (gR b g a)=.ok (.loc (2+a.length)) (gR b g a++[.lst []]):=by
   rw[<- sl];rfl
  refine(xI (k:=x.nm) L rfl rfl rfl (by unfold mI;rw[Z0,XD];omega)).trans ?_;rw[Nt (JC W),<- OR];rfl
 have S:(oz g a).length=a.length:=by unfold oz;rw[Z0]
 obtain ⟨H,I,q,r,Y⟩:=IL i t (ps:=cm g x) (Ni i (λk=>by have:=C k;omega) B t) (ws:=aI x b) (by rw [nQ];have:=C x.nm;omega) (rw:=aB b) (A:=mI (a++[x])) (E:=aA b g a) (by
  rw[S]
  exact D5 (by rw[Zf,QY];simp_all) (by simp)) (by omega) (by omega) (by
   have:=G1 i (λk=>by have:=C k;omega) B;rw[e]at this;unfold aA at this ⊢;rw[TU,Zx,<- RP,Zf]at this
   exact(QY.mp this).1) (Qq (.d (oS x.ow))) l m n c f X
 refine⟨Qq (.d (oS x.ow)),Qq l,Qq (.d (.lst (aI x b))),H,I,q,r,(cU Z).trans ((cU (eZ M)).trans ((cU s7).trans ((cU sp).trans (Y.trans ?_))))⟩
 congr 1
 unfold eL gR;rw[AV,<- B x t]
 congr 2
 ·congr 2
  unfold aA;rw[TU];simp
 ·unfold oz;rw[Zf];rfl
theorem KL(p:ff P)(h:kG P a)(E:∀k,bx a k<=900)(B:gL P a g)(z:(aA a g P).length<=900)(S:aE):rC yg [.d (aU P),.d (aB a)] S=.ok (.d (.dct (jk (aA a g P)))) S:=by
 have od:=Bt p.le λk C=>(p.ok k C).nb;have F:aL (fk (Qu "order") oR rC (dV 0) aw) [Qq (.d (aU P)),Qq (.d (aB a)),Qq (.loc 0),Qq (.loc 1),Qs,Qs,Qs,Qs,Qs,Qs,Qs,Qs] (gR a g [])=.ok (.items ((P.map λk=>D.str k.nm).map .d)) (gR a g []):=by
  unfold aL;rw[(Bi rfl).trans (od _),Z7];rfl
 obtain⟨y,K,G,r,j,l,m,n,o,b,c,rfl,rfl⟩:=jv (g:=gN 4) P (λk=>D.str k.nm) (λf s T=>∃(r j l m n o b c:Option U),s=[Qq (.d (aU P)),Qq (.d (aB a)),Qq (.loc 0),Qq (.loc 1),r,j,l,m,n,o,b,c]/\T=gR a g f) F ⟨Qs,Qs,Qs,Qs,Qs,Qs,Qs,Qs,rfl,rfl⟩ λf x t e s T ⟨r,j,l,m,n,o,b,c,q,A⟩=>by
  subst q A;obtain⟨L,M,N,O,Q,I,J,H⟩:=PX p h E B z e j l m n o b c;exact⟨_,_,_,rfl,H,_,_,_,_,_,_,_,_,rfl,rfl⟩
 refine sZ (xs:=[aU P,aB a]) (u:=.loc 1) (S':=gR a g P) ?_ ?_
 ·rw[Kt];have v:iQ [Qq (.d (aU P)),Qq (.d (aB a)),Qs,Qs,Qs,Qs,Qs,Qs,Qs,Qs,Qs,Qs] []=.ok (.loc 0) [.dct []]:=rfl;have w:iQ [Qq (.d (aU P)),Qq (.d (aB a)),Qq (.loc 0),Qs,Qs,Qs,Qs,Qs,Qs,Qs,Qs,Qs] [.dct []]=.ok (.loc 1) (gR a g []):=rfl;exact congrArg dF ((cU (eZ (i:=2) v)).trans ((cU (eZ (i:=3) w)).trans ((cU G).trans (kZ rfl))))
 ·show(bP (cZ 3 _) (bz (jk (aA a g P)))).map D.dct=_;rw[vR λx=>vj];rfl
noncomputable def FU(P:List Kd)(a:List Wr)(E:List ke):List (QD×D):=[("kinds",aU P),("rows",aB a),("by_name",.dct (jk E))]
noncomputable def iR(P:List Kd)(rs:List Wr)(E:List ke):D:=.obj "Wishes" (FU P rs E)
structure cY(P:List Kd)(rs:List Wr)(g:QD->List Pa):Prop where
 pw:ff P
 ro:kG P rs
 gp:gL P rs g
 cc:total P (λx=>(g x).length)<=60
 each:∀k,bx rs k<=900
theorem cY.len(w:cY P rs g):(aA rs g P).length<=60:=by
 have h:=congrArg Rh (vJ w.gp (λ_ h=>h));rw[Z0]at h;rw[h];have:=w.cc;rw[List.length_flatMap];exact this
theorem Am(w:cY P a g)(m:l j S=.ok [.d (aU P),.d (aB a)] S):eC "Wishes" oA [] l j S=.ok (.d (iR P a (aA a g P))) S:=by
 refine zY (xs:=[aU P,aB a]) ?_ m;have B:LM=1000000:=rfl;have e:=λS=>Kz w.pw w.ro S;have i:=λS=>MI w.pw w.ro (λk=>by have:=w.each k;omega) w.gp.cnt w.cc S;have t:=λS=>KL w.pw w.ro w.each w.gp (by have:=w.len;omega) S;have f:¬(60)<(total P (λx=>(g x).length):Int):=by have:=w.cc;omega
 have q:∀S,kP cX qj (Qu "Kinds") (.d (aU P)) S=.ok (.d (.bl Qr)) S:=λS=>rfl;have h:∀b S,aK 1 (aL (dV 2)) (gN 3) dE (dW (au (d2 bF (dV 3) (dC (D.int 0))) (au (d2 bF (dV 3) (dC (D.int 1))) (au (bQ cB (au (d2 bF (dV 3) (dC (D.int 2))) aw)) aw)))) [b,Qq (.d (aU P)),Qq (.d (aB a))] S=.ok (.d (aB a)) S:=λb S=>by
  refine kF a b7 b7 (iU rfl) (by have:=w.ro.le;omega) λr p=>⟨[b,Qq (.d (aU P)),Qq (.d (aB a)),Qq (.d (b7 r))],rfl,?_⟩;have y:bF (.d (b7 r)) (.d (.int 0)) S=.ok (.d (.str r.kd)) S:=j2;have z:bF (.d (b7 r)) (.d (.int 1)) S=.ok (.d (.int r.mn)) S:=mO;have A:bF (.d (b7 r)) (.d (.int 2)) S=.ok (.d (eW r.cs)) S:=rfl
  have c:=B0 (xs:=r.cs.map ib) (S:=S) (by
   obtain⟨k,o,_,n⟩:=w.ro.ex r p;have u:=n.le;have v:=(w.pw.ok k o).fs.le;rw[Z0]
   omega)
  have c:cB [.d (eW r.cs)] S=.ok (.d (eW r.cs)) S:=c;have mt:iV [.d (.str r.kd),.d (.int r.mn),.d (eW r.cs)] S=.ok (.d (b7 r)) S:=by rfl
  simp_all
 have s:bz (FU P a (aA a g P))=[((Qu "kinds"),U.d (aU P)),(Qu "rows",U.d (aB a)),(Qu "by_name",U.d (.dct (jk (aA a g P))))]:=rfl;rw[s];generalize jk (aA a g P)=F at *;generalize aU P=C at *;generalize aB a=E at *;simp(decide:=Qr) [oA,yP,q,e,i,f,iv,jo,jn,h,t]
noncomputable def dz(E:List ke):List QD:=E.map λe=>ax e.1
noncomputable def cE(E:List ke)(x:QD):D:=match E.find? λe=>decide (ax e.1=x)with
 |some e=>e.2
 |none=>.non
theorem Dg:∀E ,iC (bz (jk E))=Qq (dz E)
 |[]=>rfl
 |e::r=>by
  show(iC (bz (jk r))).map (ax e.1::·)=_;rw[Dg r];rfl
theorem Ol(c:∀x∈dz E,dZ x=Qr)(e:E.length<64)(S:aE):rC vF [.d (iR P rs E)] S=.ok (.d (.lst ((bE (dz E)).map .str))) S:=by
 refine gq (xs:=[iR P rs E]) (S':=[]) ?_;have b:bR ct (Qu "by_name") (.d (iR P rs E)) []=.ok (.d (.dct (jk E))) []:=by rfl
 have s:lJ [.d (.dct (jk E))] []=.ok (.d (.lst ((bE (dz E)).map .str))) []:=by
  have:j3 [.d (.dct (jk E))] []=.ok (.d (.lst ((bE (dz E)).map .str))) []:=by
   show(match iC (bz (jk E))with|some a=>if a.length<64/\gY a=Qr then aJ.ok (U.d (.lst ((bE a).map D.str))) []else .st|none=>.st)=_;rw[Dg];simp only;rw[if_pos ⟨by unfold dz;simp_all,QM.mpr c⟩]
  unfold lJ;rw[this];rfl
 generalize (bE (dz E)).map D.str=f at *;generalize jk E=g at *;generalize iR P rs E=h at *;simp[vF,zG,b,s]
theorem KB(h:PathOk p)(f:cS P Qs p=Qr)(S:aE):rC xp [.d (iR P rs E),.d (.str (ax p))] S=.ok (.d (cE E (ax p))) S:=by
 refine gq (xs:=[iR P rs E,.str (ax p)]) (S':=[]) ?_;have a:bR ct (Qu "by_name") (.d (iR P rs E)) []=.ok (.d (.dct (jk E))) []:=by rfl
 have b:bR ct (Qu "kinds") (.d (iR P rs E)) []=.ok (.d (aU P)) []:=by rfl
 have g:=wy h f [];have c:eV (d1 (bR ct (Qu "by_name")) (dV 0)) (dV 1) [Qq (.d (iR P rs E)),Qq (.d (.str (ax p)))] []=.ok (.d (cE E (ax p))) []:=by
  rw[zk ((sY rfl).trans a) rfl rfl,pQ];unfold cE;cases E.find? λe=>decide (ax e.1=ax p)<;>rfl
 generalize D.tup [oS (fN Qs p),oS (hJ p),.int (eH p)]=i at *;generalize cE E (ax p)=j at *;generalize iR P rs E=k at *;generalize aU P=l at *;simp[xp,yp,b,g,c]
noncomputable def de(E:List ke):List (aR×D):=dK id (cE E) (bE (dz E))
noncomputable def bA(E:List ke):D:=.dct (de E)
theorem ub(w:cY P rs g)(h:x∈dz (aA rs g P)):∃k∈P,∃p∈g k.nm,x=ax p/\s9 P k.nm p:=by
 obtain⟨e,c,rfl⟩:=Qx.mp h;have:e.1∈(aA rs g P).map (·.1):=Qx.mpr ⟨e,c,rfl⟩;rw[vJ w.gp λ_ h=>h]at this;obtain⟨k,a,b⟩:=QT.mp this;exact⟨k,a,e.1,b,rfl,(t9 w.pw (λk=>by have:=w.each k;omega) w.gp w.pw.own (λ_ h=>h) w.pw.le k a e.1 b).1⟩
theorem rB(w:cY P a g):(dz (aA a g P)).Nodup:=G1 w.pw (λk=>by have:=w.each k;omega) w.gp
theorem Bv(w:cY P c g):∀x∈dz (aA c g P),dZ x=Qr:=λx a=>by
 obtain⟨k,d,p,e,rfl,b⟩:=ub w a;exact b.ok.txt
theorem Ay:(dz E).length=E.length:=by unfold dz;rw[Z0]
theorem yt(w:cY P a g)(S:aE):rC mw [.d (iR P a (aA a g P))] S=.ok (.d (bA (aA a g P))) S:=by
 refine gq (xs:=[iR P a (aA a g P)]) (S':=[]) ?_;have r:LM=1000000:=rfl;have j:=w.len;have t:(bE (dz (aA a g P))).length=(aA a g P).length:=by rw[(gw _).length_eq,Ay]
 have nm:=Ol (P:=P) (rs:=a) (Bv w) (by omega) [];have l:fk (Qu "names") vv rC (dV 0) aw [Qq (.d (iR P a (aA a g P)))] []=_:=(wx rfl (by rfl) (by rfl) rfl).trans nm;have e:aK 1 (aL (fk (Qu "names") vv rC (dV 0) aw)) (gN 1) dE (dW (au (dV 1) (au (fk (Qu "wished") u7 rC (dV 0) (au (dV 1) aw)) aw))) [Qq (.d (iR P a (aA a g P)))] []=.ok (.d (.lst ((bE (dz (aA a g P))).map λx=>.tup [.str (id x),cE (aA a g P) x]))) []:=by
  refine kF (bE (dz (aA a g P))) .str _ (by unfold aL;rw[l];rfl) (by omega) λx i=>⟨[Qq (.d (iR P a (aA a g P))),Qq (.d (.str x))],rfl,?_⟩;obtain⟨k,o,p,q,rfl,b⟩:=ub w ((gw _).mem_iff.mp i);have m:=KB (rs:=a) (E:=aA a g P) b.ok b.ch [];have s:fk (Qu "wished") u7 rC (dV 0) (au (dV 1) aw) [Qq (.d (iR P a (aA a g P))),Qq (.d (.str (ax p)))] []=_:=(wx (c:="Wishes") rfl (by rfl) (by rfl) (gQ rfl)).trans m;have mt:iV [.d (.str (ax p)),.d (cE (aA a g P) (ax p))] []=.ok (.d (.tup [.str (id (ax p)),cE (aA a g P) (ax p)])) []:=by rfl
  simp_all
 have f:=CF (n:=id) (v:=cE (aA a g P)) (S:=[]) (by rw[Zal];exact(gw _).nodup_iff.mpr (rB w)) (by omega);have h:mw=b8 1 1 (cD (bQ (fP Qv) (au (aK ["_law_name"].length (aL (fk (Qu "names") vv rC (dV 0) aw)) (gN 1) dE (dW (au (dV 1) (au (fk (Qu "wished") u7 rC (dV 0) (au (dV 1) aw)) aw)))) aw))):=rfl;rw[h];exact congrArg dF (kZ ((su (gQ e)).trans f))
theorem NY(O:dJ P)(h:gL P c g)(j:gL P b f)(e:∀k∈P,aI k c=aI k b):aA c g P=aA b f P:=by
 have i:∀k∈P,bx c k.nm=bx b k.nm:=λk a=>by rw[<- nQ,<- nQ,e k a]
 have l:gL P c f:=λk a=>by
  rw[j k a];unfold gK;rw[i k a]
 have d:=h.one O l;refine zR λk a=>?_;rw[e k a]
 congr 1
 unfold cm;cases o:k.ow with
 |none=>rfl
 |some z =>
  obtain⟨y,m,rfl⟩:=Qx.mp (O.in_own k a z o).1;exact d y m
theorem zZ:(b6 (bz (de E)) (.inr y)).isSome=decide (y∈dz E):=by
 unfold de;rw[pQ,S8];rw[Yk,List.find?_isSome,decide_eq_true_eq];constructor
 ·rintro⟨x,a,e⟩;have:=of_decide_eq_true e;rw[<- this];exact(gw _).mem_iff.mp a
 ·exact λh=>⟨y,(gw _).mem_iff.mpr h,decide_eq_true rfl⟩
theorem GS:kC (.d (.str y)) (.d (bA E)) S=.ok (.d (.bl (!decide (y∈dz E)))) S:=by
 rw[CH rfl,zZ]
theorem zM(w:cY P c g)(a:k∈P)(b:p∈g k.nm):ax p∈dz (aA c g P):=by
 unfold dz;rw[show(λe=>ax e.1)=ax ∘ Prod.fst from rfl,<- Z7,vJ w.gp λ_ h=>h];exact Qx.mpr ⟨p,QT.mpr ⟨k,a,b⟩,rfl⟩
theorem Qp(h:gL P e g)(c:k∈P)(a:p∈g k.nm):∃q∈cm g k,∃i,i<bx e k.nm/\p=q++[(k.nm,i)]:=by
 rw[h k c]at a;obtain⟨q,d,a⟩:=QT.mp a;obtain⟨i,b,rfl⟩:=Qx.mp a;exact⟨q,d,i,R9.mp b,rfl⟩
theorem NP(h:gL P d g)(b:k∈P)(c:q∈cm g k)(a:i<bx d k.nm):q++[(k.nm,i)]∈g k.nm:=by
 rw[h k b];exact QT.mpr ⟨q,c,Qx.mpr ⟨i,R9.mpr a,rfl⟩⟩
theorem Ju(h:x∈dz (aA f g P)):∃i,cE (aA f g P) x=.tup i:=by
 obtain⟨d,a,rfl⟩:=Qx.mp h;unfold cE;cases e:(aA f g P).find? λe=>decide (ax e.1=ax d.1)with
 |none =>
  have:=RJ.mp e d a;simp at this
 |some j =>
  have m:=R3 e;obtain⟨k,_,m⟩:=QT.mp m;obtain⟨p,_,m⟩:=QT.mp m;obtain⟨y,c,rfl⟩:=Qx.mp m;have c:=SD c;obtain⟨r,_,b⟩:=QT.mp c;obtain⟨_,b⟩:=Vm.mp b;exact⟨_,b⟩
noncomputable def pS(q:Pa)(k:QD):QD:=if q=[]then k++"." else ax q++"."++k++"."
theorem wC:ax (q++[(k,i)])=pS q k++bw i:=by
 unfold pS;by_cases h:q=[]
 ·subst h;rw[if_pos rfl];rfl
 ·rw[if_neg h,n8 h]
theorem FC{i:Nat}(h:i<=999999)(S:aE):jF [.d (.int  i )] S=.ok (.d (.str (bw i))) S:=by
 show(if(i:Int).natAbs<10^12/\dZ (bw i)=Qr then aJ.ok (U.d (.str (bw i))) S else .st)=_;rw[if_pos ⟨by rw[X2];omega,FM h⟩]
theorem M4(h:x.length+y.length<=100000)(S:aE):cN (.d (.str x)) (.d (.str y)) S=.ok (.d (.str (x++y))) S:=by
 have:kS (.d (.str x)) (.d (.str y)) S=.ok (.d (.str (x++y))) S:=if_pos h;have a:pH (.d (.str x)) (.d (.str y)) S=.st:=rfl;unfold cN;rw[a,this];rfl
theorem L9:Sf (ax (q++[(k,i)])) Qs (Qq (((ax (q++[(k,i)])).length)-((bw i).length)))=pS q k:=by
 have e:((ax (q++[(k,i)])).length)-((bw i).length:Int)=((pS q k).length):=by
  rw[wC,jI];omega
 rw[e];refine qr ?_;rw[MG,wC,j8];exact YF rfl
noncomputable def Cm:FS:=aO (kN (f7 (cu (gN 4) (cu (gN 5) (cu (gN 6) f6)))) (bN rC lF (au (dV 0) (au (dV 2) aw)))) (aO (gP (iG (cW (d2 (fj Qv) (dV 3) (dC D.non))) (eJ (cW (d2 (fj Qr) (dV 5) (dC D.non))) (cW (d2 kC (dV 5) (dV 1))))) (cD (dC (D.bl Qv))) hZ) (gP (eJ (cW (d2 k7 (dV 6) (dC (D.int 0)))) (cW (d2 kC (d2 cN (ju (dV 2) jy (jz (d2 i0 (bQ bZ (au (dV 2) aw)) (bQ bZ (au (bQ jF (au (dV 6) aw)) aw))))) (bQ jF (au (d2 i0 (dV 6) (dC (D.int 1))) aw))) (dV 1)))) (cD (dC (D.bl Qv))) hZ))
theorem K0:tN=b8 7 2 (aO (dP (oD (dV 1)) (f7 (cu (gN 2) (cu (gN 3) f6))) Cm) (cD (dC (D.bl Qr)))):=rfl
theorem OS:eH (q++[(k,i)])=i:=by simp[eH]
theorem LC:hJ (q++[(k,i)])=if q=[]then Qs else Qq (ax q):=by
 unfold hJ
 simp_all
theorem M8(w:cY P a g)(C:x∈dz (aA a g P))(r s t:Option U):∃R W X,Cm [Qq (.d (aU P)),Qq (.d (bA (aA a g P))),Qq (.d (.str x)),Qq (.d (cE (aA a g P) x)),r,s,t] []=.nx [Qq (.d (aU P)),Qq (.d (bA (aA a g P))),Qq (.d (.str x)),Qq (.d (cE (aA a g P) x)),R,W,X] []:=by
 obtain⟨k,f,p,M,rfl,A⟩:=ub w C;obtain⟨e,K⟩:=Ju C;obtain⟨q,j,i,hi,rfl⟩:=Qp w.gp f M;have Y:=w.each k.nm;have m:=wy A.ok A.ch [];rw[A.la,OS,LC]at m;have m:rC lF [.d (aU P),.d (.str (ax (q++[(k.nm,i)])))] []=.ok (.d (.tup [.str k.nm,oS (if q=[]then Qs else Qq (ax q)),.int i])) []:=m;rw[K];refine⟨Qq (.d (.str k.nm)),Qq (.d (oS (if q=[]then Qs else Qq (ax q)))),Qq (.d (.int i)),?_⟩;have Z:f7 (cu (gN 4) (cu (gN 5) (cu (gN 6) f6))) (.d (.tup [.str k.nm,oS (if q=[]then Qs else Qq (ax q)),.int i])) [Qq (.d (aU P)),Qq (.d (bA (aA a g P))),Qq (.d (.str (ax (q++[(k.nm,i)])))),Qq (.d (.tup e)),r,s,t]=Qq [Qq (.d (aU P)),Qq (.d (bA (aA a g P))),Qq (.d (.str (ax (q++[(k.nm,i)])))),Qq (.d (.tup e)),Qq (.d (.str k.nm)),Qq (.d (oS (if q=[]then Qs else Qq (ax q)))),Qq (.d (.int i))]:=rfl;have B:kN (f7 (cu (gN 4) (cu (gN 5) (cu (gN 6) f6)))) (bN rC lF (au (dV 0) (au (dV 2) aw))) [Qq (.d (aU P)),Qq (.d (bA (aA a g P))),Qq (.d (.str (ax (q++[(k.nm,i)])))),Qq (.d (.tup e)),r,s,t] []=.nx [Qq (.d (aU P)),Qq (.d (bA (aA a g P))),Qq (.d (.str (ax (q++[(k.nm,i)])))),Qq (.d (.tup e)),Qq (.d (.str k.nm)),Qq (.d (oS (if q=[]then Qs else Qq (ax q)))),Qq (.d (.int i))] []:=by
  have c:bN rC lF (au (dV 0) (au (dV 2) aw)) [Qq (.d (aU P)),Qq (.d (bA (aA a g P))),Qq (.d (.str (ax (q++[(k.nm,i)])))),Qq (.d (.tup e)),r,s,t] []=_:=m;unfold kN
  simp_all
 have qn:∀y,(if q=[]then Qs else Qq (ax q))=Qq y->y∈dz (aA a g P):=λy l=>by
  by_cases h:q=[]
  ·simp_all
  ·rw[if_neg h]at l;cases l;unfold cm at j;cases o:k.ow with
   |none=>simp_all
   |some z =>
    rw[o]at j;obtain⟨y,l,rfl⟩:=Qx.mp (w.pw.own.in_own k f z o).1;exact zM w l j
 have n:gP (iG (cW (d2 (fj Qv) (dV 3) (dC D.non))) (eJ (cW (d2 (fj Qr) (dV 5) (dC D.non))) (cW (d2 kC (dV 5) (dV 1))))) (cD (dC (D.bl Qv))) hZ [Qq (.d (aU P)),Qq (.d (bA (aA a g P))),Qq (.d (.str (ax (q++[(k.nm,i)])))),Qq (.d (.tup e)),Qq (.d (.str k.nm)),Qq (.d (oS (if q=[]then Qs else Qq (ax q)))),Qq (.d (.int i))] []=.nx [Qq (.d (aU P)),Qq (.d (bA (aA a g P))),Qq (.d (.str (ax (q++[(k.nm,i)])))),Qq (.d (.tup e)),Qq (.d (.str k.nm)),Qq (.d (oS (if q=[]then Qs else Qq (ax q)))),Qq (.d (.int i))] []:=by
  refine(mF (b:=Qv) ?_).trans rfl;cases o:(if q=[]then Qs else Qq (ax q))with
  |none =>
   rfl
  |some y =>
   have v:=GS (E:=aA a g P) (y:=y) (S:=[])
   simp_all
 have Q:gP (eJ (cW (d2 k7 (dV 6) (dC (D.int 0)))) (cW (d2 kC (d2 cN (ju (dV 2) jy (jz (d2 i0 (bQ bZ (au (dV 2) aw)) (bQ bZ (au (bQ jF (au (dV 6) aw)) aw))))) (bQ jF (au (d2 i0 (dV 6) (dC (D.int 1))) aw))) (dV 1)))) (cD (dC (D.bl Qv))) hZ [Qq (.d (aU P)),Qq (.d (bA (aA a g P))),Qq (.d (.str (ax (q++[(k.nm,i)])))),Qq (.d (.tup e)),Qq (.d (.str k.nm)),Qq (.d (oS (if q=[]then Qs else Qq (ax q)))),Qq (.d (.int i))] []=.nx [Qq (.d (aU P)),Qq (.d (bA (aA a g P))),Qq (.d (.str (ax (q++[(k.nm,i)])))),Qq (.d (.tup e)),Qq (.d (.str k.nm)),Qq (.d (oS (if q=[]then Qs else Qq (ax q)))),Qq (.d (.int i))] []:=by
  refine(mF (b:=Qv) ?_).trans rfl;by_cases h0:i=0
  ·simp_all
  ·have L:(0:Int) <  i:=by omega
   have u:0<i:=by omega
   have B:=FC (i:=i) (by omega) [];have n:=FC (i:=i-1) (by omega) [];have J:(i:Int)-1=((i-1:Nat):Int):=by omega
   have I:=L9 (q:=q) (k:=k.nm) (i:=i);have G:q++[(k.nm,i-1)]∈g k.nm:=NP w.gp f j (by omega);have O:=(t9 w.pw (λk=>by have:=w.each k;omega) w.gp w.pw.own (λ_ h=>h) w.pw.le k f _ G).1;have N:=O.ok.len;rw[wC,jI]at N;have H:=M4 (x:=pS q k.nm) (y:=bw (i-1)) (by omega) [];have v:=GS (E:=aA a g P) (y:=pS q k.nm++bw (i-1)) (S:=[]);rw[decide_eq_true (by rw[<- wC];exact zM w f G)]at v;rw[<- J]at n;generalize bA (aA a g P)=w1 at *;generalize aU P=w2;generalize oS (if q=[]then Qs else Qq (ax q))=w3;generalize ax (q++[(k.nm,i)])=w4 at *;generalize pS q k.nm++bw (i-1)=w5 at *;generalize bw (i-1)=w6 at *;generalize bw i=w7 at *;simp[L,u,ju,jy,jz,o6,p0,B,n,I,H,v]
 exact(cU B).trans ((cU n).trans Q)
theorem Hx(w:cY P a g)(S:aE):rC tN [.d (aU P),.d (bA (aA a g P))] S=.ok (.d (.bl Qr)) S:=by
 refine gq (xs:=[aU P,bA (aA a g P)]) (S':=[]) ?_;have q:oD (dV 1) [Qq (.d (aU P)),Qq (.d (bA (aA a g P))),Qs,Qs,Qs,Qs,Qs] []=.ok (.items (((bE (dz (aA a g P))).map λx=>D.tup [.str x,cE (aA a g P) x]).map .d)) []:=by
  have r:((de (aA a g P)).all λe=>dD e.1)=Qr:=by
   unfold de dK;rw[Yu,Zp];exact λx p=>Bv w x ((gw _).mem_iff.mp p)
  show(if((de (aA a g P)).all λe=>dD e.1)=Qr then aJ.ok (mr.items (jm (de (aA a g P)))) []else .st)=_;rw[if_pos r];unfold jm de dK;rw[Z7,Z7];rfl
 obtain⟨n,u,s,j,k,b,c,f,rfl,rfl⟩:=jv (g:=f7 (cu (gN 2) (cu (gN 3) f6))) (bE (dz (aA a g P))) (λx=>D.tup [.str x,cE (aA a g P) x]) (λi l T=>∃(j k b c f:Option U),l=[Qq (.d (aU P)),Qq (.d (bA (aA a g P))),j,k,b,c,f]/\T=[]) q ⟨Qs,Qs,Qs,Qs,Qs,rfl,rfl⟩ λi x m e l T ⟨j,k,b,c,f,h,o⟩=>by
  subst h o;obtain⟨v,y,z,t⟩:=M8 w (x:=x) ((gw _).mem_iff.mp (by rw[e];simp)) b c f;exact⟨_,_,_,rfl,t,_,_,_,_,_,rfl,rfl⟩
 rw[K0];exact congrArg dF ((cU s).trans (kZ rfl))
theorem xx(h:c b S=.ok (.d (.lst e)) a):aL c b S=.ok (.items (e.map .d)) a:=by
 unfold aL;rw[h];rfl
theorem Jd(d:(c.map (·.1)).Nodup)(x:QD):j7 c.reverse x=j7 c x:=by
 have:c.reverse.find? (λp=>decide (p.1=x))=c.find? λp=>decide (p.1=x):=by
  cases h:c.find? λp=>decide (p.1=x)with
  |none =>
   refine RJ.mpr λp k=>?_;exact RJ.mp h p (Tt.mp k)
  |some p =>
   cases i:c.reverse.find? λp=>decide (p.1=x)with
   |none=>exact absurd (TK h) (RJ.mp i p (Tt.mpr (R3 h)))
   |some q =>
    have k:=R3 h;have s:=Tt.mp (R3 i);have n:=of_decide_eq_true (TK (p:=λp:QD×QD=>decide (p.1=x)) h);have o:=of_decide_eq_true (TK (p:=λp:QD×QD=>decide (p.1=x)) i);have m:∀(l:List (QD×QD)),(l.map (·.1)).Nodup->∀a∈l,∀b∈l,a.1=b.1->a=b:=λl=>by
     induction l with
     |nil=>intro _ a j;cases j
     |cons y l t =>
      intro d a j b r e;rw[Z8,Yb]at d;rcases QL.mp j with rfl|f<;>rcases QL.mp r with rfl|g
      ·rfl
      ·exact absurd (Qx.mpr ⟨b,g,e.symm⟩) d.1
      ·exact absurd (Qx.mpr ⟨a,f,e⟩) d.1
      ·exact t d.2 a f b g e
    exact congrArg Qq (m c d q s p k (o.trans n.symm))
 unfold j7;rw[this]
theorem II(b:(a.map (·.1)).Nodup):cQ k a.reverse=cQ k a:=by
 unfold cQ
 congr 1
 exact TQ λf ω=>Jd b f.1
theorem Jx(h:fV b a):fV b a.reverse:=by
 refine⟨?_,λp c=>h.val p (Tt.mp c)⟩;rw[SI,List.reverse_reverse];exact h.sub.symm
theorem GR:aI k (a++b)=aI k a++aI k b:=by
 unfold aI
 simp_all
noncomputable def jW(r:Wr)(j:Nat):List Wr:=([j,r.mn-j].filter λi=>decide (0<i)).map λi=>⟨r.kd,i,r.cs.reverse⟩
theorem Nk(f:j<r.mn)(g:r.kd=k.nm->(r.cs.map (·.1)).Nodup):aI k (jW r j)=aI k [r]:=by
 by_cases e:r.kd=k.nm
 ·have w:=II (k:=k) (g e);have d:0<r.mn-j:=by omega
  by_cases b:j=0
  ·subst b;simp[jW,aI,f,e,w]
  ·have c:0<j:=by omega
   simp only[jW,aI,Sd,List.filter_nil,c,d,e,decide_true,if_true,Z8,Vz,Zx,VN,QP];rw[List.replicate_append_replicate]
   congr 1
   omega
 ·unfold aI;rw[Tb.mpr λx a=>?_,Tb.mpr λx a=>?_]
  ·simp_all
  ·obtain⟨i,_,rfl⟩:=Qx.mp a
   simpa using e
structure Ot(ks:List Kd)(rs got:List Wr):Prop where
 of:∀k∈ks,aI k got=aI k rs
 ex:∀r∈got,g9 ks r
 le:got.length<=2*rs.length
 kd:∀r∈got,r.kd∈rs.map (·.kd)
theorem Ot.step(w:(d.map (·.nm)).Nodup)(u:∀k∈d,fF k)(h:Ot d v f)(l:g9 d r)(o:j<r.mn):Ot d (v++[r]) (f++jW r j):=by
 obtain⟨m,c,n,g⟩:=l.ex;refine⟨λk p=>?_,λq a=>?_,?_,λq a=>?_⟩
 ·rw[GR,GR,h.of k p,Nk o λe=>g.nd (u m c).fs.nd]
 ·rcases QO.mp a with a|a
  ·exact h.ex q a
  ·obtain⟨i,b,rfl⟩:=Qx.mp a;have b:=Sn.mp b;have s:=of_decide_eq_true b.2;have t:i<=r.mn:=by
    have:=b.1;simp at this;omega
   exact⟨⟨m,c,n,Jx g⟩,s,Z9 t l.m12⟩
 ·have:(jW r j).length<=2:=by
   unfold jW;rw[Z0];exact Zw _ _
  rw[Zh,Zh,UN];have:=h.le;omega
 ·rw[Zf];rcases QO.mp a with a|a
  ·exact Zj _ (h.kd q a)
  ·obtain⟨i,b,rfl⟩:=Qx.mp a;exact Zt _ (QH.mpr rfl)
noncomputable def grp(es:List QD)(got:List Wr):List Wr:=es.flatMap λx=>got.filter λr=>decide (r.kd=x)
theorem Fo:∀ {a:List QD},a.Nodup->(grp a got).filter (λr=>decide (r.kd=y))=if y∈a then got.filter (λr=>decide (r.kd=y))else[]
 |[],_=>rfl
 |x::a,c=>by
  rw[Yb]at c;have b:=Fo (got:=got) (y:=y) c.2;unfold grp at b ⊢;rw[Zx,Y4,b,XF];by_cases e:y=x
  all_goals simp_all
theorem Ot.grp(h:Ot g b got)(i:es.Nodup)(a:∀x∈b.map (·.kd),x∈es)(d:k∈g):aI k (grp es got)=aI k b:=by
 rw[<- h.of k d];unfold aI;rw[Fo i];by_cases e:k.nm∈es
 ·rw[if_pos e]
 ·rw[if_neg e,Tb.mpr λr f=>?_];simp;intro c;exact e (a _ (c▸h.kd r f))
theorem xZ:∀ {es:List QD},(grp es got).length<=es.length*got.length
 |[]=>by simp[My.grp]
 |x::es=>by
  have a:=xZ (got:=got) (es:=es);have:=Zw (λr=>decide (r.kd=x)) got;unfold My.grp at a ⊢;rw[Zx,Zh,Zg,W6];omega
theorem Hg:∀r∈grp c a,r∈a:=λr b=>by
 obtain⟨x,d,b⟩:=QT.mp b
 simp_all
theorem q0:∀ {l:List QD},(dl l).Nodup:=fun {l}=>by
 have:∀(l c:List QD),c.Nodup->(l.foldl cO c).Nodup:=λl=>by
  induction l with
  |nil=>exact λc h=>h
  |cons x l i =>
   intro c h;rw[Zz];refine i _ ?_;unfold cO;split
   ·exact h
   ·next g=>exact QY.mpr ⟨h,by simp,λa d b f=>by rw[QH.mp f];exact λe=>g (e▸d)⟩
 exact this l [] .nil
noncomputable abbrev E7:FS:=aO (aY 6 (bN rC gV (au (dV 0) (au (dV 4) aw)))) (aY 2 (d2 cN (dV 2) (aK ["_law_part"].length (aL (b9 (au (dV 6) (au (d2 i0 (dV 4) (dV 6)) aw)))) (gN 9) (cW (d2 k7 (dV 9) (dC (D.int 0)))) (dW (au (dV 3) (au (dV 9) (au (d1 mE (dV 5)) aw)))))))
noncomputable abbrev Ca:FS:=aY 8 (d2 cN (dV 8) (aK ["_law_row"].length (aL (dV 2)) (gN 9) (cW (d2 gU (d2 bF (dV 9) (dC (D.int 0))) (dV 3))) (dV 9)))
theorem ED:pR=b8 9 2 (aO (aY 2 (b9 aw)) (aO (dP (aL (dV 1)) (f7 (cu (gN 3) (cu (gN 4) (cu (gN 5) f6)))) E7) (aO (aY 7 (ec (aK ["_law_row"].length (aL (dV 1)) (gN 9) dE (d2 bF (dV 9) (dC (D.int 0)))))) (aO (gP (cW (d2 gU (dV 7) (b9 aw))) (cD (dV 2)) hZ) (aO (aY 8 (b9 aw)) (aO (dP (aL (bN rC l8 (au (dV 0) (au (dV 7) aw)))) (gN 3) Ca) (cD (dV 8)))))))):=rfl
theorem OU{S T:aE}(u:Up S n [] T)(G:1<=r.mn)(l:r.mn<=12)(B:r.cs.length<=10)(C:got.length<=100)(t b c:Option U):∃(j:Nat) (e:aE) (x:Option U),j<r.mn/\E7 [Qq (.loc n),Qq (.d w),Qq (.d (aB got)),Qq (.d (.str r.kd)),Qq (.d (.int r.mn)),Qq (.d (eW r.cs)),t,b,c] T=.nx [Qq (.loc n),Qq (.d w),Qq (.d (aB (got++jW r j))),Qq (.d (.str r.kd)),Qq (.d (.int r.mn)),Qq (.d (eW r.cs)),x,b,c] e/\Up S n [] e:=by
 have F:LM=1000000:=rfl;obtain⟨v,a,f,y,o,p,k,z⟩:=iq u.src u.cl (q:=r.mn ) (by omega) (by omega);have s:=u.keep k p;obtain⟨j,rfl⟩:=QN f;have A :  r.mn  -  j  = ((r.mn-j:Nat):Int):=by omega
 have J:(jW r j).length<=2:=by
  unfold jW;rw[Z0];exact Zw _ _
 have I:mE (.d (eW r.cs)) a=.ok (.d (eW r.cs.reverse)) a:=by
  show eU ((r.cs.map ib).map U.d).reverse a=_;rw[<- SI,<- SI,hW (by rw[Z0,Vf];omega)];rfl
 have h:aK ["_law_part"].length (aL (b9 (au (dV 6) (au (d2 i0 (dV 4) (dV 6)) aw)))) (gN 9) (cW (d2 k7 (dV 9) (dC (D.int 0)))) (dW (au (dV 3) (au (dV 9) (au (d1 mE (dV 5)) aw)))) [Qq (.loc n),Qq (.d w),Qq (.d (aB got)),Qq (.d (.str r.kd)),Qq (.d (.int r.mn)),Qq (.d (eW r.cs)),Qq (.d (.int  j )),b,c] a=.ok (.d (.lst ((jW r j).map b7))) a:=by
  unfold jW;rw[Z7];refine mZ [j,r.mn-j] (λi=>D.int  i ) (λi=>decide (0<i)) _ ?_ (by show 2<=LM;omega) λi E=>⟨[Qq (.loc n),Qq (.d w),Qq (.d (aB got)),Qq (.d (.str r.kd)),Qq (.d (.int r.mn)),Qq (.d (eW r.cs)),Qq (.d (.int  j )),b,c,Qq (.d (.int  i ))],rfl,?_,λ_=>?_⟩
  ·have H:eU [.d (.int  j ),.d (.int ((r.mn-j:Nat)))] a=.ok (.d (.lst [.int  j ,.int ((r.mn-j:Nat))])) a:=hW (ds:=[.int  j ,.int ((r.mn-j:Nat))]) (by show 2<=LM;omega);refine xx ?_
   simp_all
  ·simp_all
  ·have mt:iV [.d (.str r.kd),.d (.int  i ),.d (eW r.cs.reverse)] a=.ok (.d (b7 ⟨r.kd,i,r.cs.reverse⟩)) a:=by rfl
   simp_all
 have g:cN (.d (aB got)) (.d (.lst ((jW r j).map b7))) a=.ok (.d (aB (got++jW r j))) a:=by
  unfold aB;rw[Zf];exact uo (by rw[Z0,Z0];omega)
 refine⟨j,a,Qq (.d (.int  j )),by omega,?_,s⟩;have m:=o;exact(cU (eZ m)).trans (eZ ((gj rfl h).trans g))
theorem K5{T:aE}(j:got.length<=100)(k:out.length<=10000)(a b c e f g:Option U):Ca [a,b,Qq (.d (aB got)),Qq (.d (.str x)),c,e,f,g,Qq (.d (aB out))] T=.nx [a,b,Qq (.d (aB got)),Qq (.d (.str x)),c,e,f,g,Qq (.d (aB (out++got.filter λr=>decide (r.kd=x))))] T:=by
 have n:LM=1000000:=rfl;have i:aK ["_law_row"].length (aL (dV 2)) (gN 9) (cW (d2 gU (d2 bF (dV 9) (dC (D.int 0))) (dV 3))) (dV 9) [a,b,Qq (.d (aB got)),Qq (.d (.str x)),c,e,f,g,Qq (.d (aB out))] T=.ok (.d (.lst ((got.filter λr=>decide (r.kd=x)).map b7))) T:=by
  refine mZ got b7 (λr=>decide (r.kd=x)) _ (iU rfl) (by omega) λr l=>⟨[a,b,Qq (.d (aB got)),Qq (.d (.str x)),c,e,f,g,Qq (.d (aB out)),Qq (.d (b7 r))],rfl,?_,λ_=>rfl⟩;have m:bF (.d (b7 r)) (.d (.int 0)) T=.ok (.d (.str r.kd)) T:=j2
  simp_all
 have h:cN (.d (aB out)) (.d (.lst ((got.filter λr=>decide (r.kd=x)).map b7))) T=.ok (.d (aB (out++got.filter λr=>decide (r.kd=x)))) T:=by
  unfold aB;rw[Zf];have:=Zw (λr=>decide (r.kd=x)) got;exact uo (by rw[Z0,Z0];omega)
 exact eZ ((gj rfl i).trans h)
theorem Ef(h:e c S=.ok (.d (.lst (a.map .str))) b)(f:a.length<=4000)(g:(dl a).length<64):ec e c S=.ok (.d (.lst ((bE (dl a)).map D.str))) b:=by
 unfold ec;rw[h]
 show (match dw ((a.map D.str).map U.d) with
  |some a=>if a.length<=4000/\(dl a).length<64 then aJ.ok (U.d (.lst ((bE (dl a)).map D.str))) b else .st
  |none=>.st)=_
 rw[qt];exact if_pos ⟨f,g⟩
theorem KP:gU (.d (.lst (a.map .str))) (.d (.lst [])) S=.ok (.d (.bl (decide (a=[])))) S:=by
 have:=Ik (S:=S) rfl (xU a) (xU []) (Z9 (t8 a) (by decide)) (Z9 (t8 []) (by decide));simp only[Q5,CA]at this;exact this
theorem pZ(h:e c S=.ok (.d (.bl b)) a):cW e c S=.ok b a:=by
 rw[LK,h];rfl
theorem Cf{j k:Type}{f:j->k}{i m:List k}(h:i.Perm m):∀l ,m=l.map f->∃c:List j,i=c.map f/\c.Perm l:=by
 induction h with
 |nil=>simp_all
 |cons x h o =>
  intro l e;cases l with
  |nil=>cases e
  |cons a l =>
   rw[Z8,List.cons.injEq]at e;obtain⟨c,rfl,p⟩:=o l e.2;exact⟨a::c,by rw[Z8,e.1],p.cons a⟩
 |swap x y t =>
  intro l e;cases l with
  |nil=>cases e
  |cons a l =>
   cases l with
   |nil=>simp at e
   |cons b l =>
    simp at e;exact⟨b::a::l,by simp_all,.swap _ _ _⟩
 |trans v w d g =>
  intro l e;obtain⟨q,n,s⟩:=g l e;obtain⟨r,e2,u⟩:=d q n;exact⟨r,e2,u.trans s⟩
theorem L5(hs:fR S n)(cl:cq S.length S=Qr)(nd:(H.map (·.nm)).Nodup)(ok:∀k∈H,fF k)(h6:b.length<=6)(s:∀r∈b,g9 H r):∃(v:List Wr) (t:aE),rC pR [.loc n,.d (aB b)] S=.ok (.d (aB v)) t/\fR t n/\bU S t [n]/\cq t.length t=Qr/\v.length<=72/\(∀r∈v,g9 H r)/\∀k∈H,aI k v=aI k b:=by
 have lm:LM=1000000:=rfl;obtain⟨ac,p,l1,a,f,l,m,h,rfl,K,y⟩:=jv (fi:=aL (dV 1)) (g:=f7 (cu (gN 3) (cu (gN 4) (cu (gN 5) f6)))) b b7 (λc E T=>∃(a:List Wr) (f l m h:Option U),E=[Qq (.loc n),Qq (.d (aB b)),Qq (.d (aB a)),f,l,m,h,Qs,Qs]/\Up S n [] T/\Ot H c a) (iU rfl) ⟨[],Qs,Qs,Qs,Qs,rfl,Up.mk0 hs cl,λk ω=>rfl,λr s=>(nomatch s),by simp,λr s=>(nomatch s)⟩ λc x I e E T ⟨a,f,l,m,h,w,u,y⟩=>by
  subst w;have pl:c.length<=6:=by have:=congrArg Rh e;simp at this;omega
  have A:=s x (by rw[e];simp);obtain⟨k0,O,e0,J⟩:=A.ex;have gl:=y.le;obtain⟨j,T',y6,hj,h1,u'⟩:=OU u A.m1 A.m12 (by have:=J.le;have:=(ok k0 O).fs.le;omega) (got:=a) (by omega) h Qs Qs;exact⟨_,_,T',rfl,h1,a++jW x j,_,_,_,_,rfl,u',y.step nd ok A hj⟩
 have gl:=y.le;have c2:aK ["_law_row"].length (aL (dV 1)) (gN 9) dE (d2 bF (dV 9) (dC (D.int 0))) [Qq (.loc n),Qq (.d (aB b)),Qq (.d (aB a)),f,l,m,h,Qs,Qs] p=.ok (.d (.lst ((b.map (·.kd)).map .str))) p:=by
  rw[Z7];exact kF b b7 _ (iU rfl) (by omega) λr s=>⟨[Qq (.loc n),Qq (.d (aB b)),Qq (.d (aB a)),f,l,m,h,Qs,Qs,Qq (.d (b7 r))],rfl,(gj rfl rfl).trans j2⟩
 have M:=xW (b.map (·.kd));rw[Z0]at M;have c3:=Ef c2 (by rw[Z0];omega) (by omega);have Z:=gw (dl (b.map (·.kd)));have jW:=Z.length_eq;have Q:∀x,x∈bE (dl (b.map (·.kd))) ↔ x∈b.map (·.kd):=λx=>Z.mem_iff.trans vo;have R:=Z.nodup_iff.mpr q0;generalize bE (dl (b.map (·.kd)))=o at *;have s7:=eZ (i:=7) c3;have J:aY 2 (b9 aw) [Qq (.loc n),Qq (.d (aB b)),Qs,Qs,Qs,Qs,Qs,Qs,Qs] S=.nx [Qq (.loc n),Qq (.d (aB b)),Qq (.d (aB [])),Qs,Qs,Qs,Qs,Qs,Qs] S:=rfl;have tt:cW (d2 gU (dV 7) (b9 aw)) [Qq (.loc n),Qq (.d (aB b)),Qq (.d (aB a)),f,l,m,h,Qq (.d (.lst (o.map D.str))),Qs] p=.ok (decide (o=[])) p:=pZ ((gj rfl rfl).trans KP);by_cases N:o=[]
 ·have eg:a=[]:=by
   cases a with
   |nil=>rfl
   |cons r a=>exact absurd ((Q _).mpr (y.kd r (Za ..))) (by simp_all)
  have er:b=[]:=by
   cases b with
   |nil=>rfl
   |cons r b=>exact absurd ((Q r.kd).mpr (Za ..)) (by simp_all)
  have Y:gP (cW (d2 gU (dV 7) (b9 aw))) (cD (dV 2)) hZ [Qq (.loc n),Qq (.d (aB b)),Qq (.d (aB a)),f,l,m,h,Qq (.d (.lst (o.map D.str))),Qs] p=.rt (.d (aB a)) p:=by
   rw[mF tt,decide_eq_true N];rfl
  have sq:∀g ,aO (gP (cW (d2 gU (dV 7) (b9 aw))) (cD (dV 2)) hZ) g [Qq (.loc n),Qq (.d (aB b)),Qq (.d (aB a)),f,l,m,h,Qq (.d (.lst (o.map D.str))),Qs] p=.rt (.d (aB a)) p:=λg=>by
   unfold aO;rw[Y]
  obtain ⟨t,q,X,P,L⟩:=K.fin (F:=pR) (us:=[.d (aB b)]) (by
   rw[ED]
   exact congrArg dF ((cU J).trans ((cU l1).trans ((cU s7).trans (sq _))))) qW
  subst eg er;exact⟨[],t,q,X,P,L,by simp,λr s=>(nomatch s),λk ω=>rfl⟩
 ·have ae:=TR.mpr N;obtain⟨ab,T2,q2,p2,s2,k2,aa⟩:=C8 K.src K.cl (ds:=o.map D.str) (by simp_all) (by rw[Z0];omega);have u2:=K.keep k2 s2;obtain⟨z,rfl,W⟩:=Cf p2 o rfl;have C:=W.nodup_iff.mpr R;have B:=λx A=>W.mem_iff.mpr ((Q x).mpr A);have el:z.length<=6:=by rw[W.length_eq];omega
  have G:a.length<=12:=by omega
  obtain⟨ad,T3,l2,y3,rfl,rfl⟩:=jv (fi:=aL (bN rC l8 (au (dV 0) (au (dV 7) aw)))) (g:=gN 3) (ev:=[Qq (.loc n),Qq (.d (aB b)),Qq (.d (aB a)),f,l,m,h,Qq (.d (.lst (o.map D.str))),Qq (.d (aB []))]) (S:=p) z .str (λc E T=>∃(f:Option U),E=[Qq (.loc n),Qq (.d (aB b)),Qq (.d (aB a)),f,l,m,h,Qq (.d (.lst (o.map D.str))),Qq (.d (aB (grp c a)))]/\T=T2) (xx q2) ⟨f,rfl,rfl⟩ λc x I e E T ⟨f,w,hT⟩=>by
   subst w hT;have pl:c.length<=6:=by have:=congrArg Rh e;simp at this;omega
   have g1:=xZ (got:=a) (es:=c);have g2:=U6 pl G;have st:=K5 (T:=T) (got:=a) (out:=grp c a) (by omega) (by omega) (x:=x) (Qq (.loc n)) (Qq (.d (aB b))) l m h (Qq (.d (.lst (o.map D.str))));have gg:grp (c++[x]) a=grp c a++a.filter λr=>decide (r.kd=x):=by unfold grp;simp
   rw[<- gg]at st;exact⟨_,_,_,rfl,st,_,rfl,rfl⟩
  have Y:gP (cW (d2 gU (dV 7) (b9 aw))) (cD (dV 2)) hZ [Qq (.loc n),Qq (.d (aB b)),Qq (.d (aB a)),f,l,m,h,Qq (.d (.lst (o.map D.str))),Qs] p=.nx [Qq (.loc n),Qq (.d (aB b)),Qq (.d (aB a)),f,l,m,h,Qq (.d (.lst (o.map D.str))),Qs] p:=by
   rw[mF tt,decide_eq_false N];rfl
  have s8:aY 8 (b9 aw) [Qq (.loc n),Qq (.d (aB b)),Qq (.d (aB a)),f,l,m,h,Qq (.d (.lst (o.map D.str))),Qs] p=.nx [Qq (.loc n),Qq (.d (aB b)),Qq (.d (aB a)),f,l,m,h,Qq (.d (.lst (o.map D.str))),Qq (.d (aB []))] p:=rfl;have r8:cD (dV 8) [Qq (.loc n),Qq (.d (aB b)),Qq (.d (aB a)),y3,l,m,h,Qq (.d (.lst (o.map D.str))),Qq (.d (aB (grp z a)))] T3=.rt (.d (aB (grp z a))) T3:=kZ rfl
  obtain ⟨t,q,X,P,L⟩:=u2.fin (F:=pR) (us:=[.d (aB b)]) (by
   rw[ED]
   exact congrArg dF ((cU J).trans ((cU l1).trans ((cU s7).trans ((cU Y).trans ((cU s8).trans ((cU l2).trans r8))))))) qW
  have g1:=xZ (got:=a) (es:=z);have g2:=U6 el G;exact⟨grp z a,t,q,X,P,L,by omega,λr s=>y.ex r (Hg r s),λk hk=>y.grp C B hk⟩
noncomputable def qU(o:Option QD)(a:List QD):Bool:=match o with
 |none=>Qv
 |some y=>decide (y∈a)
noncomputable def gG(us:List QD)(k:Kd):List QD:=if qU k.ow us=Qr then us++[k.nm]else us
noncomputable def fm(a:List Kd)(x:QD):List QD:=a.foldl gG [x]
theorem yu:fm (a++[k]) x=gG (fm a x) k:=by unfold fm;rw[XY];rfl
theorem El(h:y∈a):y∈gG a k:=by
 unfold gG;split
 ·exact Zj _ h
 ·exact h
theorem BV(h:y∈gG a k):y∈a\/y=k.nm:=by
 unfold gG at h
 grind
theorem rj(O:dJ a)(x:QD):x∈fm a x:=by
 induction O with
 |nil=>exact QH.mpr rfl
 | @snoc a j O n c b=>rw[yu];exact El b
theorem xX(O:dJ c):∀k∈c,k.nm∉fm c x->k.nm≠x/\∀o,k.ow=Qq o->o∉fm c x:=by
 intro k a h;refine⟨λe=>h (e▸rj O x),?_⟩
 induction O with
 |nil=>cases a
 | @snoc c j O n f g =>
  rw[yu]at h ⊢;intro o b m;rcases QO.mp a with a|a
  ·have d:=λz=>h (El z);rcases BV m with m|rfl
   ·exact g a d o b m
   ·exact n (O.in_own k a _ b).1
  ·rw[QH.mp a]at b h
   have i :=Bool.eq_false_iff.mpr λz=>h (by
    unfold gG;rw[if_pos z]
    simp)
   rcases BV m with m|rfl
   ·rw[b]at i;exact of_decide_eq_false i m
   ·exact n (f _ b)
theorem qP:jx (.d (oS o)) (.loc 0) [.lst ((a.map D.str).map .d)]=.ok (.d (.bl (qU o a))) [.lst ((a.map D.str).map .d)]:=by
 have g:f5 [cG.lst ((a.map D.str).map .d)] (.loc 0)=Qq (.list (a.map .str)):=by
  show(match cj ((a.map D.str).map U.d)with|some b=>(toPs b).map RV|none=>Qs)=_;rw[mz];simp only;rw[vB];rfl
 have e:kq Qv (.d (oS o)) (.loc 0) [.lst ((a.map D.str).map .d)]=.ok (.d (.bl (qU o a))) [.lst ((a.map D.str).map .d)]:=by
  unfold kq;rw[g];cases o with
  |none =>
   have:(a.map Vd).any (λy=>Q5 y .none)=Qv:=by
    rw[ZV];exact XZ.mpr λy ω=>by simp[Q5]
   rw[show f5 [cG.lst ((a.map D.str).map .d)] (.d (oS Qs))=Qq .none from rfl];simp only[jX];rw[if_pos ⟨by simp[RA],Z9 (t8 a) (by decide)⟩,this];rfl
  |some x =>
   rw[show f5 [cG.lst ((a.map D.str).map .d)] (.d (oS (Qq x)))=Qq (.str x)from rfl];simp only[jX];rw[if_pos ⟨by simp[RA],Z9 (t8 a) (by decide)⟩,ET];simp[qU]
 have c:l0 Qv (.d (oS o)) (.loc 0) [.lst ((a.map D.str).map .d)]=.st:=by cases o<;>rfl
 have f:lg Qv (.d (oS o)) (.loc 0) [.lst ((a.map D.str).map .d)]=.st:=by cases o<;>rfl
 unfold jx;rw[c,f,e];rfl
noncomputable def EM:FS:=gP (cW (d2 jx (dV 5) (dV 2))) (fB (fG gJ fS (dV 2) (au (dV 3) aw))) hZ
theorem O5:sV=b8 6 2 (aO (aY 2 (eB (au (dV 1) aw))) (aO (dP (aL (dV 0)) (f7 (cu (gN 3) (cu (gN 4) (cu (gN 5) f6)))) EM) (cD (dV 2)))):=rfl
theorem JD(O:dJ c)(A:c.length<=5)(x:QD)(S:aE):rC sV [.d (aH c),.d (.str x)] S=.ok (.d (.lst ((fm c x).map .str))) S:=by
 have B:LM=1000000:=rfl;obtain⟨t,T,y,j,m,n,rfl,rfl⟩:=jv (fi:=aL (dV 0)) (g:=f7 (cu (gN 3) (cu (gN 4) (cu (gN 5) f6)))) (b:=EM) c ez (λa p T=>∃(j m n:Option U),p=[Qq (.d (aH c)),Qq (.d (.str x)),Qq (.loc 0),j,m,n]/\T=[.lst (((fm a x).map D.str).map .d)]) (iU rfl) ⟨Qs,Qs,Qs,rfl,rfl⟩ λa k q e p T ⟨j,m,n,h,v⟩=>by
  subst h v;have C:a.length<=5:=by have:=congrArg Rh e;simp at this;omega
  have E:(fm a x).length<=6:=by
   have:∀(l:List Kd)  f ,(l.foldl gG f).length<=l.length+f.length:=λl=>by
    induction l with
    |nil=>intro f;simp
    |cons k l w =>
     intro f;have:=w (gG f k);have:(gG f k).length<=f.length+1:=by unfold gG;split<;>simp
     rw[Zz,Zg];omega
   have:=this a [x];unfold fm;simp at this;omega
  refine⟨_,[Qq (.d (aH c)),Qq (.d (.str x)),Qq (.loc 0),Qq (.d (.str k.nm)),Qq (.d (aP k.fs)),Qq (.d (oS k.ow))],_,rfl,?_,_,_,_,rfl,rfl⟩;have z:cW (d2 jx (dV 5) (dV 2)) [Qq (.d (aH c)),Qq (.d (.str x)),Qq (.loc 0),Qq (.d (.str k.nm)),Qq (.d (aP k.fs)),Qq (.d (oS k.ow))] [.lst (((fm a x).map D.str).map .d)]=.ok (qU k.ow (fm a x)) [.lst (((fm a x).map D.str).map .d)]:=pZ ((gj rfl rfl).trans qP);refine(mF z).trans ?_;rw[yu];unfold gG;split
  ·have o:bI [cG.lst (((fm a x).map D.str).map .d)] 0=Qq (((fm a x).map D.str).map .d):=rfl;have r:=qw (x:=.d (.str k.nm)) o (by rw[Z0,Z0];omega);refine(rW (uV rfl (og o) (gQ rfl) r)).trans ?_;rw[Zf,Zf];rfl
  ·rfl
 refine sZ (xs:=[aH c,.str x]) (u:=.loc 0) (S':=[.lst (((fm c x).map D.str).map .d)]) ?_ (E3 rfl);rw[O5];have s:eB (au (dV 1) aw) [Qq (.d (aH c)),Qq (.d (.str x)),Qs,Qs,Qs,Qs] []=.ok (.loc 0) [.lst [.d (.str x)]]:=rfl;exact congrArg dF ((cU (eZ (i:=2) s)).trans ((cU y).trans (kZ rfl)))
noncomputable def EV(b a:List Wr):Prop:=∀k,bx a k<=bx b k
theorem JF{a:List Kd}(h:∀j∈a,∀p∈b j.nm,p∈g j.nm)(d:∀o,k.ow=Qq o->o∈a.map (·.nm)):∀p∈cm b k,p∈cm g k:=by
 unfold cm;cases e:k.ow with
 |none=>exact λp f=>f
 |some o =>
  obtain⟨j,c,rfl⟩:=Qx.mp (d o e);exact h j c
theorem Co(u:EV x l)(O:dJ c)(h:gL c x g)(r:gL c l m):∀k∈c,(∀p∈m k.nm,p∈g k.nm)/\(m k.nm).length<=(g k.nm).length:=by
 induction O with
 |nil=>simp_all
 | @snoc c j O n s b =>
  have b:=b (λk a=>h k (Zj _ a)) (λk a=>r k (Zj _ a));intro k a;rcases QO.mp a with a|a
  ·exact b k a
  ·rw[QH.mp a,h j (by simp),r j (by simp)];have w:=u j.nm;refine⟨λp f=>?_,?_⟩
   ·obtain⟨q,v,f⟩:=QT.mp f;obtain⟨i,d,rfl⟩:=Qx.mp f;have:=R9.mp d;exact QT.mpr ⟨q,JF (λj t=>(b j t).1) s q v,Qx.mpr ⟨i,R9.mpr (by omega),rfl⟩⟩
   ·rw[zB,zB];refine U6 ?_ w;unfold cm;cases e:j.ow with
    |none=>exact Z3 _
    |some o =>
     obtain⟨i,d,rfl⟩:=Qx.mp (s o e);exact(b i d).2
theorem Oa{B:QD->Prop}(O:dJ c)(h:gL c u g)(p:gL c m f)(q:∀k∈c,¬B k.nm->bx m k.nm=bx u k.nm/\∀o,k.ow=Qq o->¬B o):∀k∈c,¬B k.nm->f k.nm=g k.nm/\cm f k=cm g k:=by
 induction O with
 |nil=>simp_all
 | @snoc c j O n t d =>
  have d:=d (λk a=>h k (Zj _ a)) (λk a=>p k (Zj _ a)) (λk a=>q k (Zj _ a));intro k a l;rcases QO.mp a with a|a
  ·exact d k a l
  ·rw[QH.mp a]at l ⊢;have b:=q j (by simp) l;have r:cm f j=cm g j:=by
    unfold cm;cases e:j.ow with
    |none=>rfl
    |some o =>
     obtain⟨i,s,rfl⟩:=Qx.mp (t o e);exact(d i s (b.2 _ e)).1
   refine⟨?_,r⟩;rw[h j (by simp),p j (by simp),r];unfold gK;rw[b.1]
noncomputable def cJ(a:List Wr)(i:Nat):List Wr:=a.take i++a.drop (i+1)
theorem BW{r:Wr}(h:a[i]?=Qq r):a=a.take i++r::a.drop (i+1):=by
 obtain⟨b,e⟩:=Qw.mp h;rw[<- e,List.getElem_cons_drop,Xa]
theorem vZ(h:a[i]?=Qq r)(b:k.nm≠r.kd):aI k (cJ a i)=aI k a:=by
 have e:=BW h;have:aI k a=aI k (a.take i++r::a.drop (i+1)):=congrArg _ e;rw[this];unfold cJ aI;have n:¬r.kd=k.nm:=λz=>b z.symm;rw[Y4,Y4,Sd,decide_eq_false n];rfl
theorem yq(h:a[i]?=Qq r):EV a (cJ a i):=λk=>by
 have e:=BW h;have:=congrArg (λl=>bx l k) e;rw[this];unfold cJ bx;rw[Y4,Y4,Sd,Zf,V3,Zf,V3];by_cases z:r.kd=k
 ·rw[decide_eq_true z,if_pos rfl,Z8,Ye];omega
 ·rw[decide_eq_false z];exact Z3 _
theorem FA:∀r∈cJ a i,r∈a:=λr h=>by
 rcases QO.mp h with h|h
 ·exact List.mem_of_mem_take h
 ·exact Xi h
theorem OW:(cJ a i).length<=a.length:=by
 unfold cJ;rw[Zh,Zu,Y7];omega
theorem cY.cut(w:cY P c g)(h:c[i]?=Qq r):∃a,cY P (cJ c i) a:=by
 obtain⟨a,d⟩:=D2 w.pw.own (cJ c i);have j:=Co (yq h) w.pw.own w.gp d;refine⟨a,w.pw,⟨λr b=>w.ro.ex r (FA r b),λr b=>w.ro.m1 r (FA r b),Z9 OW w.ro.le⟩,d,?_,λk=>Z9 (yq h k) (w.each k)⟩;refine Z9 ?_ w.cc;have:∀l:List Kd,(∀k∈l,k∈P)->(l.map λk=>(a k.nm).length).sum<=(l.map λk=>(g k.nm).length).sum:=λl=>by
  induction l with
  |nil=>exact λ_=>Z3 _
  |cons k l f =>
   intro h;have:=f λk e=>h k (Z4 _ e);have:=(j k (h k Za)).2;rw[Z8,Z8,Ye,Ye];omega
 exact this P λ_ h=>h
theorem Bn(a:(dz E).Nodup)(c:e∈E):cE E (ax e.1)=e.2:=by
 unfold cE;have:E.find? (λx=>decide (ax x.1=ax e.1))=Qq e:=by
  induction E with
  |nil=>cases c
  |cons y E d =>
   rw[dz,Z8,Yb]at a;rw[Yr];rcases QL.mp c with rfl|b
   ·rw[decide_eq_true rfl]
   ·rw[decide_eq_false λz=>a.1 (Qx.mpr ⟨e,b,z.symm⟩)];exact d a.2 b
 rw[this]
theorem MV(O:dJ t)(d:∀k∈P,k∈t)(s:a[i]?=Qq r)(w:cY P a g)(v:cY P (cJ a i) m)(c:k∈P)(o:k.nm∉fm t r.kd)(z:p∈g k.nm):cE (aA a g P) (ax p)=cE (aA (cJ a i) m P) (ax p)/\∃x,cE (aA a g P) (ax p)=cQ k x:=by
 have E:=Oa w.pw.own w.gp v.gp (λj n u=>⟨by
  rw[<- nQ,<- nQ,vZ s (xX O j (d j n) u).1],(xX O j (d j n) u).2⟩) k c o
 have f:p∈(cy k (aI k a) (cm g k)).map (·.1):=by
  rw[AV,<- w.gp k c];exact z
 obtain⟨e,b,rfl⟩:=Qx.mp f;have A:e∈aA a g P:=QT.mpr ⟨k,c,b⟩
 have B:e∈aA (cJ a i) m P:=QT.mpr ⟨k,c,by
  rw[E.2,vZ s (xX O k (d k c) o).1]
  exact b⟩
 rw[Bn (rB w) A,Bn (rB v) B];refine⟨rfl,?_⟩;obtain⟨q,_,b⟩:=QT.mp b;obtain⟨y,l,rfl⟩:=Qx.mp b;have l:=SD l;obtain⟨C,_,h⟩:=QT.mp l;exact⟨C.cs,(Vm.mp h).2⟩
theorem MC(f:a[i]?=Qq r)(w:cY P a g)(c:cY P (cJ a i) d):∀x∈dz (aA (cJ a i) d P),x∈dz (aA a g P):=λx h=>by
 obtain⟨k,b,p,e,rfl,j⟩:=ub c h;exact zM w b ((Co (yq f) w.pw.own w.gp c.gp k b).1 p e)
theorem Dp:∃a,gX (cQ k cs)=Qq (.tuple a)/\(SB a).depth<=60:=by
 have:∀b:List (QD×List QD),∃a,toPs (b.map λf=>j7 cs f.1)=Qq a/\Q4 a<=1:=λb=>by
  induction b with
  |nil=>exact⟨[],rfl,by simp[Q4]⟩
  |cons f b g =>
   obtain⟨a,e,d⟩:=g;obtain⟨p,c,d1⟩:∃p,gX (j7 cs f.1)=Qq p/\p.depth<=1:=by
    unfold j7;cases cs.find? λp=>decide (p.1=f.1)with
    |none=>exact⟨_,rfl,by simp[RA]⟩
    |some q=>exact⟨_,rfl,by simp[RA]⟩
   refine⟨p::a,?_,by simp only[Q4];omega⟩;show(match gX (j7 cs f.1)with|some p=>(toPs (b.map λf:QD×List QD=>j7 cs f.1)).map (p::·)|none=>Qs)=_;rw[c,e];rfl
 obtain⟨a,e,d⟩:=this k.fs;refine⟨a,?_,by simp[RA];omega⟩;show(toPs (k.fs.map λf=>j7 cs f.1)).map SB=_;rw[e];rfl
theorem OA:fZ (.d (cQ k cs)) (.d (cQ k cs)) S=.ok (.d (.bl Qv)) S:=by
 obtain⟨a,e,d⟩:=Dp (cs:=cs);exact Ls rfl e d
theorem yO:((b6 (bz (de E)) (.inr x)).getD (.d .non))=.d (cE E x):=by
 have s:=zZ (E:=E) (y:=x);unfold de at s ⊢;rw[pQ]at s ⊢;cases e:(bE (dz E)).find? λy=>decide (id y=x)with
 |some y =>
  have:=of_decide_eq_true (TK (p:=λy=>decide (id y=x)) e);rw[<- this];rfl
 |none =>
  have:cE E x=.non:=by
   unfold cE;rw[RJ.mpr λz a h=>?_];have:=RJ.mp e (ax z.1) ((gw _).mem_iff.mpr (Qx.mpr ⟨z,a,rfl⟩));exact this h
  rw[this];rfl
theorem CG(w:cY P a g)(S:aE):cB [.d (bA (aA a g P))] S=.ok (.d (.lst ((bE (dz (aA a g P))).map .str))) S:=by
 have f:((bz (de (aA a g P))).all λe=>dD e.1)=Qr:=by
  unfold de dK bz;rw[Yu,Yu,Zp];exact λx c=>Bv w x ((gw _).mem_iff.mp c)
 have e:jd Qv [.d (bA (aA a g P))] S=.ok (.d (.lst ((bE (dz (aA a g P))).map .str))) S:=by
  show(if((bz (de (aA a g P))).all λe=>dD e.1)=Qr then aJ.ok (U.d (.lst ((bz (de (aA a g P))).map λh=>jY h.1))) S else .st)=_;rw[if_pos f];unfold de dK bz;rw[Z7,Z7];rfl
 have b:iD [.d (bA (aA a g P))] S=.st:=rfl;unfold cB;rw[b,e];rfl
theorem Ph{a b:List QD}(k:a.Nodup)(h:∀x∈b,x∈a):dl (a++b)=a:=by
 have i:∀(l c:List QD),(c++l).Nodup->l.foldl cO c=c++l:=λl=>by
  induction l with
  |nil=>simp_all
  |cons x l d =>
   intro c e;have f:=λz=>(QY.mp e).2.2 x z x (by simp) rfl;rw[Zz,show cO c x=c++[x]from if_neg f,d _ (by simpa using e)];simp
 have j:∀l:List QD,(∀x∈l,x∈a)->l.foldl cO a=a:=λl=>by
  induction l with
  |nil=>exact λ_=>rfl
  |cons x l d =>
   intro h;rw[Zz,show cO a x=a from if_pos (h x Za)];exact d λy g=>h y (Z4 _ g)
 unfold L2.dl
 simp_all
theorem kz(h:c b S=.ok d a):bN R F c b S=R F d a:=by
 simp_all
theorem mH(h:f d S=.ok a e)(i:g d e=.ok b c):au f (au g aw) d S=.ok [a,b] c:=by
 simp_all
theorem ur(h:t b S=.ok Qv a):eJ t u b S=.ok Qv a:=by
 simp_all
theorem sx(h:t a S=.ok Qr b):eJ t u a S=u a b:=by
 simp_all
theorem MY(h:t a S=.ok Qv b):iG t u a S=u a b:=by
 unfold iG;rw[h];rfl
theorem JE(w:cY P d g)(h:x∈dz (aA d g P)):∃k f,cE (aA d g P) x=cQ k f:=by
 obtain⟨e,a,rfl⟩:=Qx.mp h;rw[Bn (rB w) a];obtain⟨k,_,a⟩:=QT.mp a;obtain⟨q,_,a⟩:=QT.mp a;obtain⟨y,c,rfl⟩:=Qx.mp a;have c:=SD c;obtain⟨i,_,b⟩:=QT.mp c;exact⟨k,i.cs,(Vm.mp b).2⟩
theorem Na(a:x∈dz E):b6 (bz (de E)) (.inr x)=Qq (.d (cE E x)):=by
 have s:=zZ (E:=E) (y:=x);have g:=yO (E:=E) (x:=x);rw[decide_eq_true a]at s;obtain⟨v,b⟩:=RH.mp s
 simp_all
theorem Fy(w:cY P a g):∀l ,(∀x∈l,x∈dz (aA a g P))->nK S (bz (de (aA a g P))) (bz (dK id (cE (aA a g P)) l))=Qq Qr
 |[],_=>rfl
 |x::l,h=>by
  have c:=h x Za;obtain⟨k,i,j⟩:=JE w c;obtain⟨n,f,b⟩:=Dp (cs:=i);have o:f5 S (.d (cE (aA a g P) x))=Qq (.tuple n):=by rw[j];exact f
  have e:bz (dK id (cE (aA a g P)) (x::l))=(.inr x,.d (cE (aA a g P) x))::bz (dK id (cE (aA a g P)) l):=rfl;rw[e,nK,Na c];simp only[o];rw[if_pos ⟨b,b⟩,Fy w l λy m=>h y (Z4 _ m),yN f];rfl
theorem P4(w:cY P a g):fZ (.d (bA (aA a g P))) (.d (bA (aA a g P))) S=.ok (.d (.bl Qv)) S:=by
 have e:pj Qr (.d (bA (aA a g P))) (.d (bA (aA a g P))) S=.ok (.d (.bl Qv)) S:=by
  show(if(bz (de (aA a g P))).length=(bz (de (aA a g P))).length then match nK S (bz (de (aA a g P))) (bz (de (aA a g P)))with|some r=>aJ.ok (U.d (.bl (XJ Qr r))) S|none=>.st else .ok (.d (.bl (XJ Qr Qv))) S)=_;have q:nK S (bz (de (aA a g P))) (bz (de (aA a g P)))=Qq Qr:=Fy w _ λx c=>(gw _).mem_iff.mp c;rw[if_pos rfl,q];rfl
 have b:pd (.d (bA (aA a g P))) (.d (bA (aA a g P))) S=.st:=rfl;unfold fZ;rw[b,e];rfl
theorem E9:∀c:List Wr,∃b,toPs (c.map b7)=Qq b/\Q4 b<=10/\b.length=c.length
 |[]=>⟨[],rfl,by simp[Q4],rfl⟩
 |r::c=>by
  obtain⟨b,e,d,l⟩:=E9 c;have i:gX (eW r.cs)=Qq (.list ((r.cs.map λp=>[p.1,p.2]).map λa=>.tuple (a.map .str))):=by
   have:eW r.cs=.lst ((r.cs.map λp=>[p.1,p.2]).map tD):=by
    rw[Z7];rfl
   rw[this];show(toPs ((r.cs.map λp=>[p.1,p.2]).map tD)).map RV=_;rw[Dj];rfl
  have k:=Li (r.cs.map λp=>[p.1,p.2]);generalize RV ((r.cs.map λp=>[p.1,p.2]).map λa=>.tuple (a.map .str))=q at *;have j:gX (b7 r)=Qq (.tuple [.str r.kd,.int r.mn,q]):=by
   show(toPs [.str r.kd,.int r.mn,eW r.cs]).map SB=_;generalize eW r.cs=z at *;have h:toPs [z]=Qq [q]:=by
    show(match gX z with|some p=>(toPs []).map (p::·)|none=>Qs)=_;rw[i];rfl
   have g:toPs [.int r.mn,z]=Qq [.int r.mn,q]:=by
    show(toPs [z]).map (PyData.int r.mn::·)=_;rw[h];rfl
   have f:toPs [.str r.kd,.int r.mn,z]=Qq [.str r.kd,.int r.mn,q]:=by
    show(toPs [.int r.mn,z]).map (Vd r.kd::·)=_;rw[g];rfl
   rw[f];rfl
  refine⟨.tuple [.str r.kd,.int r.mn,q]::b,?_,?_,by simp[l]⟩
  ·show(match gX (b7 r)with|some p=>(toPs (c.map b7)).map (p::·)|none=>Qs)=_;rw[j,e];rfl
  ·simp[Q4,RA];omega
theorem MP:fZ (.d (aB rs)) (.d (.lst [])) S=.ok (.d (.bl (!decide (rs=[])))) S:=by
 obtain⟨a,e,d,l⟩:=E9 rs;have b:gX (aB rs)=Qq (.list a):=by
  show(toPs (rs.map b7)).map RV=_;rw[e];rfl
 rw[Kn rfl b rfl (by simp[RA];omega) (by simp[RA,Q4])];have:Q5 (.list a) (.list [])=decide (rs=[]):=by
  cases a with
  |nil =>
   rw[YI]at l;rw[List.eq_nil_of_length_eq_zero l.symm];rfl
  |cons p a =>
   have:rs≠[]:=λz=>by rw[z]at l;cases l
   rw[decide_eq_false this];rfl
 rw[this]
theorem Lx(v:Int)(S:aE):∃i,rS sA [.d (.int v)] S=.ok (.loc S.length) (S++[src i v 0]):=by
 refine⟨v/2*(1-v%2),?_⟩;have d:∀S,jT (.d (.int v)) (.d (.int 2)) S=.ok (.d (.int (v/2))) S:=λS=>tf (by decide) (by decide);have m:∀S,ie (.d (.int v)) (.d (.int 2)) S=.ok (.d (.int (v%2))) S:=λS=>p6 (by decide);have b:bJ (1-v%2)=Qr:=by
  unfold bJ;rw[Zl];exact⟨decide_eq_true (by omega),decide_eq_true (by omega)⟩
 have a:∀S,dI (.d (.int (v/2))) (.d (.int (1-v%2))) S=.ok (.d (.int (v/2*(1-v%2)))) S:=λS=>EN b;unfold rS;have c:3<=LM:=by decide
 simp(decide:=Qr) [sA,A4,eB,d,m,a]
noncomputable def ze:FS:=gP (eJ (cW (d2 kC (d2 bF (bN rC lF (au (dV 4) (au (dV 11) aw))) (dC (D.int 0))) (dV 9))) (cW (d2 fZ (eV (dV 6) (dV 11)) (eV (dV 10) (dV 11))))) (cD (dC (D.bl Qv))) hZ
noncomputable def yk:FS:=aO (aY 8 (bN rC gV (au (dV 2) (au (bQ bZ (au (dV 5) aw)) aw)))) (aO (aY 9 (bN rC sV (au (dV 3) (au (d2 bF (d2 bF (dV 5) (dV 8)) (dC (D.int 0))) aw)))) (aO (aY 10 (bN rC mw (au (eC ("Wishes") oA [] (au (dV 4) (au (d2 cN (ju (dV 5) jy (jz (dV 8))) (ju (dV 5) (jz (d2 cN (dV 8) (dC (D.int 1)))) jy)) aw))) aw))) (dP (aL (ec (d2 cN (bQ cB (au (dV 6) aw)) (bQ cB (au (dV 10) aw))))) (gN 11) ze)))
theorem Ij(O:dJ b)(A:∀k∈P,k∈b)(E:a[i]?=Qq r)(w:cY P a g)(I:cY P (cJ a i) c)(F:x∈dz (aA a g P))(e f h j l m n:Option U)(T:aE):ze [e,f,h,j,Qq (.d (aU P)),l,Qq (.d (bA (aA a g P))),m,n,Qq (.d (.lst ((fm b r.kd).map .str))),Qq (.d (bA (aA (cJ a i) c P))),Qq (.d (.str x))] T=.nx [e,f,h,j,Qq (.d (aU P)),l,Qq (.d (bA (aA a g P))),m,n,Qq (.d (.lst ((fm b r.kd).map .str))),Qq (.d (bA (aA (cJ a i) c P))),Qq (.d (.str x))] T:=by
 obtain⟨k,B,p,C,rfl,s⟩:=ub w F;have v:=wy s.ok s.ch T;rw[s.la]at v;have G:d2 bF (bN rC lF (au (dV 4) (au (dV 11) aw))) (dC (D.int 0)) [e,f,h,j,Qq (.d (aU P)),l,Qq (.d (bA (aA a g P))),m,n,Qq (.d (.lst ((fm b r.kd).map .str))),Qq (.d (bA (aA (cJ a i) c P))),Qq (.d (.str (ax p)))] T=.ok (.d (.str k.nm)) T:=(gj ((kz (mH rfl rfl)).trans v) rfl).trans j2;have o:cW (d2 kC (d2 bF (bN rC lF (au (dV 4) (au (dV 11) aw))) (dC (D.int 0))) (dV 9)) [e,f,h,j,Qq (.d (aU P)),l,Qq (.d (bA (aA a g P))),m,n,Qq (.d (.lst ((fm b r.kd).map .str))),Qq (.d (bA (aA (cJ a i) c P))),Qq (.d (.str (ax p)))] T=.ok (!decide (k.nm∈fm b r.kd)) T:=pZ ((gj G rfl).trans GY);by_cases q:k.nm∈fm b r.kd
 ·rw[decide_eq_true q]at o;exact(mF (ur o)).trans rfl
 ·rw[decide_eq_false q]at o;obtain⟨H,t,u⟩:=MV O A E w I B q C;have y:eV (dV 6) (dV 11) [e,f,h,j,Qq (.d (aU P)),l,Qq (.d (bA (aA a g P))),m,n,Qq (.d (.lst ((fm b r.kd).map .str))),Qq (.d (bA (aA (cJ a i) c P))),Qq (.d (.str (ax p)))] T=.ok (.d (cQ k t)) T:=by
   rw[zk rfl rfl rfl,yO,u]
  have z:eV (dV 10) (dV 11) [e,f,h,j,Qq (.d (aU P)),l,Qq (.d (bA (aA a g P))),m,n,Qq (.d (.lst ((fm b r.kd).map .str))),Qq (.d (bA (aA (cJ a i) c P))),Qq (.d (.str (ax p)))] T=.ok (.d (cQ k t)) T:=by
   rw[zk rfl rfl rfl,yO,<- H,u]
  exact(mF ((sx o).trans (pZ ((gj y z).trans OA)))).trans rfl
theorem q9{T:aE}(hs:fR T n)(R:cq T.length T=Qr)(O:dJ c)(Z:c.length<=5)(hP:∀k∈P,k∈c)(w:cY P rs g)(Y:rs≠[])(h6:rs.length<=6)(m o p L H h f:Option U):∃(y8 y9 I l:Option U) (u:aE),yk [m,o,Qq (.loc n),Qq (.d (aH c)),Qq (.d (aU P)),Qq (.d (aB rs)),Qq (.d (bA (aA rs g P))),p,L,H,h,f] T=.nx [m,o,Qq (.loc n),Qq (.d (aH c)),Qq (.d (aU P)),Qq (.d (aB rs)),Qq (.d (bA (aA rs g P))),p,y8,y9,I,l] u/\cq u.length u=Qr:=by
 have lm:LM=1000000:=rfl;have rp:=TR.mpr Y;obtain⟨v,a,M,b1,q1,s1,k1,Q⟩:=iq hs R (q:=rs.length ) (by omega) (by omega);obtain⟨j,rfl⟩:=QN M;have hj:j<rs.length:=by omega
 obtain⟨r,A⟩:∃r,rs[j]?=Qq r:=⟨_,Z2 hj⟩;obtain⟨s,t⟩:=w.cut A;have ln:bZ [.d (aB rs)] T=.ok (.d (.int rs.length)) T:=by unfold aB;rw[k8,Z0]
 have S:bN rC gV (au (dV 2) (au (bQ bZ (au (dV 5) aw)) aw)) [m,o,Qq (.loc n),Qq (.d (aH c)),Qq (.d (aU P)),Qq (.d (aB rs)),Qq (.d (bA (aA rs g P))),p,L,H,h,f] T=.ok (.d (.int (j:Nat))) a:=(kz (mH rfl ((su (gQ rfl)).trans ln))).trans q1;have i1:bF (.d (aB rs)) (.d (.int  j )) a=.ok (.d (b7 r)) a:=pU (by rw[Zk,A];rfl);have W:bN rC sV (au (dV 3) (au (d2 bF (d2 bF (dV 5) (dV 8)) (dC (D.int 0))) aw)) [m,o,Qq (.loc n),Qq (.d (aH c)),Qq (.d (aU P)),Qq (.d (aB rs)),Qq (.d (bA (aA rs g P))),p,Qq (.d (.int (j:Nat))),H,h,f] a=.ok (.d (.lst ((fm c r.kd).map .str))) a:=(kz (mH rfl ((gj ((gj rfl rfl).trans i1) rfl).trans j2))).trans (JD O Z r.kd a);have sa:ju (dV 5) jy (jz (dV 8)) [m,o,Qq (.loc n),Qq (.d (aH c)),Qq (.d (aU P)),Qq (.d (aB rs)),Qq (.d (bA (aA rs g P))),p,Qq (.d (.int  j )),Qq (.d (.lst ((fm c r.kd).map .str))),h,f] a=.ok (.d (.lst ((rs.map b7).take j))) a:=by
  exact GQ (by rw[Z0];omega) (by rw[Z0];omega)
 have sb:ju (dV 5) (jz (d2 cN (dV 8) (dC (D.int 1)))) jy [m,o,Qq (.loc n),Qq (.d (aH c)),Qq (.d (aU P)),Qq (.d (aB rs)),Qq (.d (bA (aA rs g P))),p,Qq (.d (.int  j )),Qq (.d (.lst ((fm c r.kd).map .str))),h,f] a=.ok (.d (.lst ((rs.map b7).drop (j+1)))) a:=by
  show o6 (.d (aB rs)) (Qq ((j:Int)+1)) Qs a=_;have:(j:Int)+1=((j+1:Nat):Int):=by omega
  rw[this];exact F9 (by rw[Z0];omega) (by rw[Z0];omega)
 have N:cN (.d (.lst ((rs.map b7).take j))) (.d (.lst ((rs.map b7).drop (j+1)))) a=.ok (.d (aB (cJ rs j))) a:=by
  unfold aB cJ;rw[Zf,List.map_take,ZG];exact uo (by rw[Zu,Y7,Z0];omega)
 have B:bN rC mw (au (eC ("Wishes") oA [] (au (dV 4) (au (d2 cN (ju (dV 5) jy (jz (dV 8))) (ju (dV 5) (jz (d2 cN (dV 8) (dC (D.int 1)))) jy)) aw))) aw) [m,o,Qq (.loc n),Qq (.d (aH c)),Qq (.d (aU P)),Qq (.d (aB rs)),Qq (.d (bA (aA rs g P))),p,Qq (.d (.int (j:Nat))),Qq (.d (.lst ((fm c r.kd).map .str))),h,f] a=.ok (.d (bA (aA (cJ rs j) s P))) a:=(kz (gQ (Am t (mH rfl ((gj sa sb).trans N))))).trans (yt t a);have nd:(bE (dz (aA rs g P))).Nodup:=(gw _).nodup_iff.mpr (rB w);have y:=Ph nd λx F=>(gw _).mem_iff.mpr (MC A w t x ((gw _).mem_iff.mp F));have l1:(bE (dz (aA rs g P))).length<=60:=by rw[(gw _).length_eq,Ay];exact w.len
 have l2:(bE (dz (aA (cJ rs j) s P))).length<=60:=by rw[(gw _).length_eq,Ay];exact t.len
 have C:d2 cN (bQ cB (au (dV 6) aw)) (bQ cB (au (dV 10) aw)) [m,o,Qq (.loc n),Qq (.d (aH c)),Qq (.d (aU P)),Qq (.d (aB rs)),Qq (.d (bA (aA rs g P))),p,Qq (.d (.int  j )),Qq (.d (.lst ((fm c r.kd).map .str))),Qq (.d (bA (aA (cJ rs j) s P))),f] a=.ok (.d (.lst ((bE (dz (aA rs g P))++bE (dz (aA (cJ rs j) s P))).map .str))) a:=by
  rw[gj ((su (gQ rfl)).trans (CG w a)) ((su (gQ rfl)).trans (CG t a)),Zf];exact uo (by rw[Z0,Z0];omega)
 have z:=Ef C (by rw[Zh];omega) (by rw[y];omega);rw[y]at z;have mm:∀x∈bE (bE (dz (aA rs g P))),x∈dz (aA rs g P):=λx F=>(gw _).mem_iff.mp ((gw _).mem_iff.mp F);generalize bE (bE (dz (aA rs g P)))=ms at *;obtain⟨X,u,lp,l,rfl,rfl⟩:=jv (g:=gN 11) (b:=ze) ms .str (λG J T=>∃(l:Option U),J=[m,o,Qq (.loc n),Qq (.d (aH c)),Qq (.d (aU P)),Qq (.d (aB rs)),Qq (.d (bA (aA rs g P))),p,Qq (.d (.int  j )),Qq (.d (.lst ((fm c r.kd).map .str))),Qq (.d (bA (aA (cJ rs j) s P))),l]/\T=a) (xx z) ⟨f,rfl,rfl⟩ λG x K e J T ⟨l,E,hT⟩=>by
  subst E hT;exact⟨_,_,_,rfl,Ij O hP A w t (x:=x) (mm x (by rw[e];simp)) m o (Qq (.loc n)) (Qq (.d (aH c))) (Qq (.d (aB rs))) p (Qq (.d (.int  j ))) T,_,rfl,rfl⟩
 refine⟨Qq (.d (.int (j:Nat))),Qq (.d (.lst ((fm c r.kd).map .str))),Qq (.d (bA (aA (cJ rs j) s P))),l,u,?_,Q⟩;exact(cU (eZ S)).trans ((cU (eZ (i:=9) W)).trans ((cU (eZ (i:=10) B)).trans lp))
noncomputable def CW:FS:=aO (aY 2 (bN rS sA (au (dV 1) aw))) (aO (aY 3 (bN rC p9 (au (dV 2) aw))) (aO (aY 4 (bN rC oW (au (bN rC l8 (au (dV 2) (au (dV 3) aw))) aw))) (aO (aY 5 (bN rC p8 (au (dV 2) (au (dV 3) aw)))) (aO (aY 6 (bN rC mw (au (eC ("Wishes") oA [] (au (dV 4) (au (dV 5) aw))) aw))) (aO (aY 7 (eC ("Wishes") oA [] (au (bN rC oW (au (bN rC l8 (au (dV 2) (au (dV 3) aw))) aw)) (au (bN rC pR (au (dV 2) (au (dV 5) aw))) aw)))) (aO (gP (iG (cW (d2 fZ (bN rC mw (au (dV 7) aw)) (dV 6))) (jb (nu (bN rC tN (au (dV 4) (au (dV 6) aw)))))) (cD (dC (D.bl Qv))) hZ) (gP (cW (d2 fZ (dV 5) (b9 aw))) yk hZ)))))))
theorem ON:Bg=b8 12 1 (aO (dP (aL (ju (dV 0) jy (jz (dC (D.int 15))))) (gN 1) CW) (cD (dC (D.bl Qr)))):=rfl
theorem Eb(h:fR S n)(f:cq S.length S=Qr)(j:0<b.length)(l:b.length<=5):∃(e:List Kd) (a:aE),rC l8 [.loc n,.d (aH b)] S=.ok (.d (aH e)) a/\e.Perm b/\fR a n/\bU S a [n]/\cq a.length a=Qr:=by
 obtain⟨g,a,q,p,s,k,c⟩:=C8 h f (ds:=b.map ez) (by simp_all) (by rw[Z0];omega);obtain⟨e,rfl,i⟩:=Cf p b rfl;exact⟨e,a,q,i,s,k,c⟩
theorem MM{P d:List Kd}(g:(P.map (·.nm)).Nodup)(m:(d.map (·.nm)).Nodup)(h:∀k∈P,k∈d)(i:∀k∈d,k∈P):P.Perm d:=by
 induction P generalizing d with
 |nil =>
  cases d with
  |nil=>exact .nil
  |cons k d=>exact nomatch i k Za
 |cons k P l =>
  obtain⟨a,b,rfl⟩:=List.append_of_mem (h k Za);rw[Z8,Yb]at g;have c:(a++k::b).Perm (k::(a++b)):=List.perm_middle;have e:=(c.map (·.nm)).nodup_iff.mp m;rw[Z8,Yb]at e;refine .trans (.cons k (l g.2 e.2 (λj f=>?_) λj f=>?_)) c.symm
  ·rcases QL.mp (c.mem_iff.mp (h j (Z4 _ f)))with rfl|z
   ·exact absurd (Qx.mpr ⟨j,f,rfl⟩) g.1
   ·exact z
  ·rcases QL.mp (i j (c.mem_iff.mpr (Z4 _ f)))with rfl|z
   ·exact absurd (Qx.mpr ⟨j,f,rfl⟩) e.1
   ·exact z
theorem Lr(a:cq S.length S=Qr)(i v:Int):fR (S++[src i v 0]) S.length/\cq (S++[src i v 0]).length (S++[src i v 0])=Qr:=by
 refine⟨⟨i,v,0,by simp_all⟩,?_⟩;exact MQ (yo (by simp) a) rfl
theorem LY{b d P:List Kd}(O:dJ b)(l:d.Perm b)(n:b.length<=5)(o:∀k∈b,fF k)(i:dJ P)(m:∀k∈P,k∈d)(c:∀k∈d,k.nm∈P.map (·.nm)):P.Perm b/\ff P:=by
 have f:=λk a=>l.mem_iff.mp (m k a);have h:=MM i.nd O.nd f λk a=>by
  obtain⟨j,g,e⟩:=Qx.mp (c k (l.mem_iff.mpr a));exact Bl O.nd (f j g) a e▸g
 exact⟨h,i,by rw[h.length_eq];exact n,λk a=>o k (f k a)⟩
theorem B7(l:P.Perm m)(f:ff P)(a:∀r∈b,g9 m r)(n:b.length<=72)(i:gL P b g)(d:total P (λx=>(g x).length)<=60):cY P b g:=by
 refine⟨f,⟨λr h=>?_,λr h=>⟨(a r h).m1,Z9 (a r h).m12 (by decide)⟩,by omega⟩,i,d,λk=>?_⟩
 ·obtain⟨k,j,e,c⟩:=(a r h).ex;exact⟨k,l.mem_iff.mpr j,e,c⟩
 ·have:=Ez (k:=k) λr h=>(a r h).m12;omega
theorem HJ(cl:cq S.length S=Qr)(v:Int)(e x2 Y E y s p j l a b:Option U):∃(y2 y3 y4 y5 y6 y7 R W q r:Option U) (T:aE),CW [e,Qq (.d (.int v)),x2,Y,E,y,s,p,j,l,a,b] S=.nx [e,Qq (.d (.int v)),y2,y3,y4,y5,y6,y7,R,W,q,r] T/\cq T.length T=Qr:=by
 obtain⟨i,d1⟩:=Lx v S;obtain⟨s1,c1⟩:=Lr cl i v;generalize S++[src i v 0]=S1 at *;generalize S.length=n at *;obtain⟨m,S2,ab,s2,k2,c2,O,H,z,L⟩:=P1 s1 c1;obtain⟨ag,Z,d3,t,s3,k3,c3⟩:=Eb s2 c2 H z;obtain⟨P,oP,ac,m1,G,d4⟩:=G2 O t H z L;obtain⟨J,hP⟩:=LY O t z L oP m1 G;obtain⟨c,F,d5,s4,k4,c4,r6,N,f,fc,ft⟩:=P9 s3 c3 O H z L;obtain⟨g,X⟩:=D2 oP c;have cc:total P (λx=>(g x).length)<=60:=by
  rw[fc.total O J X.cnt];exact ft
 have w:=B7 J hP N (by omega) X cc;obtain⟨ah,S5,d6,M,s5,k5,c5⟩:=Eb s4 c4 H z;obtain⟨P2,ai,ad,m2,aa,d7⟩:=G2 O M H z L;have eP:=NX (λk=>t.mem_iff.trans M.mem_iff.symm) ((t.map _).nodup_iff.mpr O.nd) ac ad G aa;subst eP;obtain⟨u,o,d8,s6,k6,c6,l6,Q,ae⟩:=L5 s5 c5 O.nd L r6 N;have K:=λk C=>ae k (J.mem_iff.mp C);have I:gL P u g:=λk C=>by
  rw[X k C];unfold gK;rw[<- nQ,<- nQ,K k C]
 have w':=B7 J hP Q l6 I cc;have ee:=NY oP I X K;have t7:=yt w' o;rw[ee]at t7;have af:=Hx w o;have nt:=P4 w (S:=o);have e2:aY 2 (bN rS sA (au (dV 1) aw)) [e,Qq (.d (.int v)),x2,Y,E,y,s,p,j,l,a,b] S=.nx [e,Qq (.d (.int v)),Qq (.loc n),Y,E,y,s,p,j,l,a,b] S1:=eZ ((kz (gQ rfl)).trans d1);have e3:aY 3 (bN rC p9 (au (dV 2) aw)) [e,Qq (.d (.int v)),Qq (.loc n),Y,E,y,s,p,j,l,a,b] S1=.nx [e,Qq (.d (.int v)),Qq (.loc n),Qq (.d (aH m)),E,y,s,p,j,l,a,b] S2:=eZ ((kz (gQ rfl)).trans ab);have e4:aY 4 (bN rC oW (au (bN rC l8 (au (dV 2) (au (dV 3) aw))) aw)) [e,Qq (.d (.int v)),Qq (.loc n),Qq (.d (aH m)),E,y,s,p,j,l,a,b] S2=.nx [e,Qq (.d (.int v)),Qq (.loc n),Qq (.d (aH m)),Qq (.d (aU P)),y,s,p,j,l,a,b] Z:=eZ ((kz (gQ ((kz (mH rfl rfl)).trans d3))).trans (d4 Z));have e5:aY 5 (bN rC p8 (au (dV 2) (au (dV 3) aw))) [e,Qq (.d (.int v)),Qq (.loc n),Qq (.d (aH m)),Qq (.d (aU P)),y,s,p,j,l,a,b] Z=.nx [e,Qq (.d (.int v)),Qq (.loc n),Qq (.d (aH m)),Qq (.d (aU P)),Qq (.d (aB c)),s,p,j,l,a,b] F:=eZ ((kz (mH rfl rfl)).trans d5);have e6:aY 6 (bN rC mw (au (eC ("Wishes") oA [] (au (dV 4) (au (dV 5) aw))) aw)) [e,Qq (.d (.int v)),Qq (.loc n),Qq (.d (aH m)),Qq (.d (aU P)),Qq (.d (aB c)),s,p,j,l,a,b] F=.nx [e,Qq (.d (.int v)),Qq (.loc n),Qq (.d (aH m)),Qq (.d (aU P)),Qq (.d (aB c)),Qq (.d (bA (aA c g P))),p,j,l,a,b] F:=eZ ((kz (gQ (Am w (mH rfl rfl)))).trans (yt w F));have a7:au (bN rC oW (au (bN rC l8 (au (dV 2) (au (dV 3) aw))) aw)) (au (bN rC pR (au (dV 2) (au (dV 5) aw))) aw) [e,Qq (.d (.int v)),Qq (.loc n),Qq (.d (aH m)),Qq (.d (aU P)),Qq (.d (aB c)),Qq (.d (bA (aA c g P))),p,j,l,a,b] F=.ok [.d (aU P),.d (aB u)] o:=mH ((kz (gQ ((kz (mH rfl rfl)).trans d6))).trans (d7 S5)) ((kz (mH rfl rfl)).trans d8);have m7:=(C7 a7).trans (Am w' rfl);rw[ee]at m7;have e7:=eZ (i:=7) m7;have mq:=λh=>q9 s6 c6 O z (λk C=>J.mem_iff.mp C) w h r6 e (Qq (.d (.int v))) (Qq (.d (iR P u (aA c g P)))) j l a b;have nr:=MP (rs:=c) (S:=o);generalize bA (aA c g P)=A at *;generalize iR P u (aA c g P)=B at *;have e8:gP (iG (cW (d2 fZ (bN rC mw (au (dV 7) aw)) (dV 6))) (jb (nu (bN rC tN (au (dV 4) (au (dV 6) aw)))))) (cD (dC (D.bl Qv))) hZ [e,Qq (.d (.int v)),Qq (.loc n),Qq (.d (aH m)),Qq (.d (aU P)),Qq (.d (aB c)),Qq (.d A),Qq (.d B),j,l,a,b] o=.nx [e,Qq (.d (.int v)),Qq (.loc n),Qq (.d (aH m)),Qq (.d (aU P)),Qq (.d (aB c)),Qq (.d A),Qq (.d B),j,l,a,b] o:=by
  have o1:cW (d2 fZ (bN rC mw (au (dV 7) aw)) (dV 6)) [e,Qq (.d (.int v)),Qq (.loc n),Qq (.d (aH m)),Qq (.d (aU P)),Qq (.d (aB c)),Qq (.d A),Qq (.d B),j,l,a,b] o=.ok Qv o:=pZ ((gj ((kz (gQ rfl)).trans t7) rfl).trans nt)
  simp_all
 have o9:cW (d2 fZ (dV 5) (b9 aw)) [e,Qq (.d (.int v)),Qq (.loc n),Qq (.d (aH m)),Qq (.d (aU P)),Qq (.d (aB c)),Qq (.d A),Qq (.d B),j,l,a,b] o=.ok (!decide (c=[])) o:=pZ ((gj rfl rfl).trans nr);obtain⟨R,W,q,r,T,e9,cT⟩:∃(R W q r:Option U) (T:aE),gP (cW (d2 fZ (dV 5) (b9 aw))) yk hZ [e,Qq (.d (.int v)),Qq (.loc n),Qq (.d (aH m)),Qq (.d (aU P)),Qq (.d (aB c)),Qq (.d A),Qq (.d B),j,l,a,b] o=.nx [e,Qq (.d (.int v)),Qq (.loc n),Qq (.d (aH m)),Qq (.d (aU P)),Qq (.d (aB c)),Qq (.d A),Qq (.d B),R,W,q,r] T/\cq T.length T=Qr:=by
  by_cases hn:c=[]
  ·rw[decide_eq_true hn]at o9;exact⟨j,l,a,b,o,(mF o9).trans rfl,c6⟩
  simp_all
 refine⟨Qq (.loc n),Qq (.d (aH m)),Qq (.d (aU P)),Qq (.d (aB c)),Qq (.d A),Qq (.d B),R,W,q,r,T,?_,cT⟩;exact(cU e2).trans ((cU e3).trans ((cU e4).trans ((cU e5).trans ((cU e6).trans ((cU e7).trans ((cU e8).trans e9))))))
theorem zWc(a:List Int)(F:a.length<=63):∃w,Bg [.d (.frl (a.map .int))] []=.ok (.d (.bl Qr)) w:=by
 have G:LM=1000000:=rfl;have A:ju (dV 0) jy (jz (dC (D.int 15))) [Qq (.d (.frl (a.map .int))),Qs,Qs,Qs,Qs,Qs,Qs,Qs,Qs,Qs,Qs,Qs] []=.ok (.d (.lst ((a.take 15).map .int))) []:=by
  show eU (eN ((a.map D.int).map U.d) Qs (Qq 15)) []=_;have e:eN ((a.map D.int).map U.d) Qs (Qq 15)=((a.take 15).map D.int).map .d:=by
   unfold eN HT.sIx
   simp_all
  rw[e];exact hW (by rw[Z0,Zu];omega)
 obtain⟨y,T,z,r,f,h,i,j,k,l,m,n,b,c,rfl,s⟩:=jv (g:=gN 1) (S1:=[]) (a.take 15) .int (λq t T=>∃(r f h i j k l m n b c:Option U),t=[Qq (.d (.frl (a.map .int))),r,f,h,i,j,k,l,m,n,b,c]/\cq T.length T=Qr) (xx A) ⟨Qs,Qs,Qs,Qs,Qs,Qs,Qs,Qs,Qs,Qs,Qs,rfl,rfl⟩ λq v u e t T ⟨r,f,h,i,j,k,l,m,n,b,c,p,s⟩=>by
  subst p;obtain⟨H,I,J,K,L,M,N,O,C,E,x,B,o⟩:=HJ s v (Qq (.d (.frl (a.map .int)))) f h i j k l m n b c;exact⟨_,_,x,rfl,B,_,_,_,_,_,_,_,_,_,_,_,rfl,o⟩
 refine⟨T,?_⟩;rw[ON];exact congrArg dF ((cU z).trans (kZ rfl))
theorem Aq{α:Type}{us:List α}(h:us.length=1):∃a,us=[a]:=List.length_eq_one_iff.mp h
theorem zm{α:Type}{us:List α}(h:us.length=2):∃a0 a1,us=[a0,a1]:=by
 cases us with
 |nil=>cases h
 |cons a0 r=>obtain⟨a1,rfl⟩:=Aq (show r.length=1 from VD.inj h);exact⟨a0,a1,rfl⟩
theorem tL{α:Type}{us:List α}(h:us.length=3):∃a0 a1 a2,us=[a0,a1,a2]:=by
 cases us with
 |nil=>cases h
 |cons a0 r=>obtain⟨a1,a2,rfl⟩:=zm (show r.length=2 from VD.inj h);exact⟨a0,a1,a2,rfl⟩
theorem Af{α:Type}{us:List α}(h:us.length=4):∃a0 a1 a2 a3,us=[a0,a1,a2,a3]:=by
 cases us with
 |nil=>cases h
 |cons a0 r=>obtain⟨a1,a2,a3,rfl⟩:=tL (show r.length=3 from VD.inj h);exact⟨a0,a1,a2,a3,rfl⟩
theorem zLc{K:aV}{C TD f:QC}{oc ocT:Qz}{od an odT:Option QC}{osl slT:Array (Option Qz)}{nT:Nat}{kV doc pm cdv ct:Qz}(a:QX K (.ref C) "__init__" = Qq (Qq (.ref f)))(i:R1 K (.ref f)=Qr)(l:K.lookup f=Qq ⟨oc,od,.func (Q0 "__init__" "Kind.__init__" (bp (aW (bD 17) 0)) (bo (aW (bD 17) 0)) (aF (aW (bD 17) 0)) (.ref TD) kV doc pm an cdv ct),osl⟩)
 (c:Ry K cdv "Kind.__init__" = Qr) (k:Rk K (.ref f)=Qr) (t:K.lookup TD=Qq ⟨ocT,odT,.seq #[.none] nT,slT⟩):MD K C "__init__" "Kind.__init__" (aW (bD 17) 0) (cM (aW (bD 17) 0)) f (Q0 "__init__" "Kind.__init__" (bp (aW (bD 17) 0)) (bo (aW (bD 17) 0)) (aF (aW (bD 17) 0)) (.ref TD) kV doc pm an cdv ct) :=
 rM (λ_ ω ω ω ω ω s us hK t hl=>by obtain⟨z0,z1,z2,z3,rfl⟩:=Af hl;exact PySem.W.binds_K hK rfl t rfl (by rfl) (by rfl)) (λ_ ω ω ω ω ω s us hK t hl=>by obtain⟨z0,z1,z2,rfl⟩:=tL (VD.inj hl);exact PySem.W.binds_K hK rfl t rfl (by rfl) (by rfl)) a i l c k t
end My
namespace PySem.W.Fast
theorem tw12529199927874391907:True:=.intro
theorem tw16398605497249001725:True:=.intro
theorem tw12268934820651312421:True:=.intro
theorem tw12243183317950860409:True:=.intro
theorem tw2496233473895915608:True:=.intro
theorem tw14954535433766995118:True:=.intro
theorem tw14097447798385865640:True:=.intro
theorem tw6835819445127624650:True:=.intro
theorem tw10077005935494981127:True:=.intro
theorem tw1167516480267323119:True:=.intro
theorem tw6538560232315580769:True:=.intro
theorem tw16041295593509672216:True:=.intro
theorem tw16506143546592591192:True:=.intro
theorem tw5357803572894532979:True:=.intro
theorem tw2763310663343911253:True:=.intro
theorem tw10077111989415480663:True:=.intro
theorem tw9602004823217609186:True:=.intro
theorem tw16918227602457677731:True:=.intro
theorem tw6548552383698231807:True:=.intro
theorem tw5357628120799849275:True:=.intro
theorem tw11634317676957843549:True:=.intro
theorem tw4536033915377216221:True:=.intro
theorem tw6522572201387797978:True:=.intro
theorem tw9644021476172208806:True:=.intro
theorem tw6734387027643180856:True:=.intro
theorem tw4120755930214383583:True:=.intro
theorem tw17083381062863524004:True:=.intro
theorem tw14888649752261339521:True:=.intro
theorem tw7367746217516802862:True:=.intro
theorem tw4055928131981508890:True:=.intro
theorem tw748898801058135965:True:=.intro
theorem tw6397107412470487607:True:=.intro
theorem tw8547976044536692341:True:=.intro
theorem tw14311938975876577456:True:=.intro
theorem tw875312783434527489:True:=.intro
theorem tw16462092029837945798:True:=.intro
theorem tw10267022709161450744:True:=.intro
theorem tw10230480992539289306:True:=.intro
theorem tw2461028065185049491:True:=.intro
theorem tw12212247025471780522:True:=.intro
theorem tw13217951572541821213:True:=.intro
theorem tw1435759749352029624:True:=.intro
theorem tw7113090704793755484:True:=.intro
theorem tw9381570946677341564:True:=.intro
theorem tw16682084669152949736:True:=.intro
theorem tw2720798180586073481:True:=.intro
theorem tw17765773356965302042:True:=.intro
theorem tw14948555672825238737:True:=.intro
theorem tw12674805466565932441:True:=.intro
theorem tw771893094686747945:True:=.intro
theorem tw15964351607321016350:True:=.intro
theorem tw17798022085778023662:True:=.intro
theorem tw6620975377795441603:True:=.intro
theorem tw14305692595280622322:True:=.intro
theorem tw5832052186640055187:True:=.intro
theorem tw13969552403893281687:True:=.intro
theorem tw10957719438581492768:True:=.intro
theorem tw10253974374936744683:True:=.intro
theorem tw4214003361681971767:True:=.intro
theorem tw16752632827755434664:True:=.intro
theorem tw16233405653981744833:True:=.intro
theorem tw4880147728695579280:True:=.intro
theorem tw15735061227099850815:True:=.intro
theorem tw1253921966734800091:True:=.intro
theorem tw4297850227932795383:True:=.intro
theorem tw14694417849990579954:True:=.intro
theorem tw16096670472530360543:True:=.intro
theorem tw94046338433733331:True:=.intro
theorem tw10359817025812081872:True:=.intro
theorem tw8221897359922925726:True:=.intro
theorem tw7408609383256859055:True:=.intro
theorem tw14116371292655448318:True:=.intro
theorem tw15731731882369405710:True:=.intro
theorem tw7655929695229412040:True:=.intro
theorem tw15125554764896866539:True:=.intro
theorem tw3699607605460033887:True:=.intro
theorem tw13091357981957205372:True:=.intro
theorem tw10928574497065650536:True:=.intro
theorem tw10126953873875892532:True:=.intro
theorem tw17813001318302496817:True:=.intro
theorem tw18346086897174706157:True:=.intro
theorem tw1516159605817597544:True:=.intro
theorem tw16978998542613877805:True:=.intro
theorem tw4052485964994663920:True:=.intro
theorem tw9083833575569680625:True:=.intro
theorem tw17795557386910331228:True:=.intro
theorem tw3253116424361798131:True:=.intro
theorem tw11848706324293293076:True:=.intro
theorem tw5058247398812188307:True:=.intro
theorem tw18235631049517347832:True:=.intro
theorem tw15964487246026346303:True:=.intro
theorem tw12692350308378313105:True:=.intro
theorem tw9407334399083908037:True:=.intro
theorem tw8242857683335521468:True:=.intro
theorem tw16412144009684730780:True:=.intro
theorem tw14834218984220470893:True:=.intro
theorem tw8393344676182866661:True:=.intro
theorem tw12988246783953300886:True:=.intro
theorem tw10395591189879731823:True:=.intro
theorem tw13460944502198069534:True:=.intro
theorem tw5952492524722202849:True:=.intro
theorem tw16806060080920476645:True:=.intro
theorem tw10586343256923827448:True:=.intro
theorem tw3970106574689104855:True:=.intro
theorem tw13665219144902864161:True:=.intro
theorem tw14209935399536329805:True:=.intro
theorem tw828954155477831912:True:=.intro
theorem tw414359836707533928:True:=.intro
theorem tw9455151949959005243:True:=.intro
theorem tw17551074483972891152:True:=.intro
theorem tw9477379944412160398:True:=.intro
theorem tw10639143562893499674:True:=.intro
theorem tw10908845112049782871:True:=.intro
end PySem.W.Fast
open PySem PySem.W PyProof.Rows
local macro_rules | `(tactic| walk_at "d")=>`(tactic| (refine' L2.F.Rs.d (by apply L2.F.dl_mk;iterate 4 k_is) ?_;rotate_left 3))
local macro_rules | `(tactic| walk_at "m")=>`(tactic| (refine' L2.F.Rs.m rfl (by apply L2.F.ml_mk;iterate 5 k_is) ?_;rotate_left 3))
set_option maxRecDepth 100000 in
set_option maxHeartbeats 0 in
theorem PySem.Challenge.cw_cometorest_k17_whole_wishes_from_any_row_holds : PySem.Challenge.rw_cometorest_k17_whole_wishes_from_any_row.Holds := by
 w_on;o_law;k_head;(case hw=>w_witness2)
 k_fill
 refine L2.F.walk (l:=PySem.Challenge.rw_cometorest_k17_whole_wishes_from_any_row) (k:=10) rfl rfl (λw h Y=>⟨PySem.W.km_in_of Y,PySem.W.km_tabs_of Y⟩) ⟨λ_=>rfl,by decide,by decide⟩ ?F
 case F =>
  intro w mg fa h KX G hmg;refine' L2.F.lawOk (T:=My.T) My.zWc (fun σ h=>My.yEk h) rfl rfl KX G hmg ?C ?R ?L ?hn ?htk ?qF ?qK ?qI ?qB ?qC ?qM ?qf ?qR ?qN
  (case C=>repeat (first|exact L2.F.Cs.nil|(refine' L2.F.Cs.cons (by k_is) ?_;rotate_left)))
  (case R=>walk_at "d";walk_at "d";walk_at "d";walk_at "d";walk_at "d";walk_at "d";walk_at "d";walk_at "d";walk_at "d";walk_at "d";walk_at "d";walk_at "m";walk_at "d";walk_at "d";walk_at "d";(refine' L2.F.Rs.n rfl (by apply My.zLc;iterate 6 k_is) ?_;rotate_left 3);walk_at "d";walk_at "d";walk_at "d";walk_at "d";walk_at "d";walk_at "d";walk_at "d";walk_at "m";walk_at "d";walk_at "m";walk_at "m";walk_at "d";walk_at "m";walk_at "d";walk_at "d";walk_at "d";walk_at "d";walk_at "d";walk_at "d";walk_at "d";walk_at "d";walk_at "d";walk_at "d";walk_at "d";walk_at "d";walk_at "m";walk_at "d";walk_at "d";walk_at "d";walk_at "d";walk_at "d";exact L2.F.Rs.nil)
  (case L=>exact L2.F.lm_mk rfl rfl (by k_is) (by k_is) (by k_is) (by first|k_is|rfl|kernel_rfl|decide +kernel) (by first|k_is|rfl|kernel_rfl|decide +kernel))
  (case hn=>k_is)
  (case htk=>k_is)
  (case qF=>first|k_is|rfl|kernel_rfl|decide +kernel)
  (case qK=>first|k_is|rfl|kernel_rfl|decide +kernel)
  (case qI=>first|k_is|rfl|kernel_rfl|decide +kernel)
  (case qB=>first|k_is|rfl|kernel_rfl|decide +kernel)
  (case qC=>first|k_is|rfl|kernel_rfl|decide +kernel)
  (case qM=>first|k_is|rfl|kernel_rfl|decide +kernel)
  (case qf=>first|k_is|rfl|kernel_rfl|decide +kernel)
  (case qR=>first|k_is|rfl|kernel_rfl|decide +kernel)
  (case qN=>first|k_is|rfl|kernel_rfl|decide +kernel)
