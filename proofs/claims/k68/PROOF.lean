import PyProof.Rows.All
import Wide.All
import OpenK.AllK
import Wide.FinOn
import Lean
import PyProof.EqAt
import PyProof.EqKinds
import PyProof.TupleCall
import PyProof.AttrMissHeap
import KE.KSortTup
import KE.KDictList
import KE.KNest
import KE.KNestM
import OpenK.KRaise
import KE.KIsAll
import KE.KMatchCls
import PyProof.ExcAttrAll.ValueError
import PyProof.Rows.Range3
import PyProof.ZipIter
import PyProof.Rows.FactsT2
import PyProof.Rows.ZipGen
import KE.KItemsList
import PyProof.TupleKey
import PyProof.DictFindH
import PyProof.EnumMake
import PyProof.EnumStmt
import KE.KLam
import Wide.Seal
import KE.KFind
import PySem.Challenge.RW_groupcall_k68_what_hands_keep
set_option Elab.async false
set_option linter.all false
set_option compiler.extract_closed false
set_option bootstrap.genMatcherCode false
set_option maxRecDepth 100000
set_option maxHeartbeats 16000000
open PySem renaming Addr->Yc,Value->Ye,wpAny_bind->Yg,Shared->Yl,Str->Ym,wpAny->Yn,wpAny_pure->Yp,model->Yr,FuncData->Yt,sizeLine->YB,Program->YI,Stmt->YJ,starEach->YR,Heap->YT,World->YV,Expr->YZ,mainGlobals->Y3,Obj->Y6,Around->Y7,wpAny_mono->ai,eval->ay,DictEntry->bE,Builtin->bS,PyData->cy,wpAny_holding->cE,compareOp->cS,codeAny->c5,mem_of_lookup->c6,backTo->dk,Paired->dQ,sysModules->eK,wpAny_newObj_type->eL,plainId_quiet->eT,wpAny_Call_Name_kw->ff,wpAny_pyIter_list->fy,pyNext->fF,keywordEach->gm,boot_len->gF,wpAny_truthy_bool->hG,wpAny_setState_of->hU,cLine->hV,intKind->hX,sizeLine_eq->ip,assignEach->ir,wpAny_call_entry->iF,Pos->iL,bootBuiltins->i0,binaryOp->i5,wpAny_updateSeq->i6,wpAny_callSpecial?_slot->js,Scope->jS,tupleKind->ke,argsOk->km,wpAny_setField_rec->kr,wpAny_passesOwn->kz,attributeBase->kH,backToKw->kK,codeAny_call_builtin->lj,Tok->ml,wpAny_askSetting->mB,wpAny_setEntries_of->mT,Env->m4,wpAny_Call_method0_late->nh,holding->ny,entryFor->oa,storedH->ot,wpAny_tryCatch->ox,wpAny_setField->oz,scanBound->pj,Meets->pk,call_meets->px,IsTupleKey->pT,Result->pV,sliceBounds->qh,evalArgs_none->qo,getMethod->qV,standAt->rl,wpAny_seqItems->rL,isSubtype_type->rS,KeyKind->rV,wpAny_pyIter_slot->sf,wpAny_field->sj,wpAny_isOneOf_itemiter->sC,behindInMarks->sN,wpAny_attempt->sQ,NameKind->sT,pickOrder->tN,wpAny_execs_nil->ub,letOwnedTupleGo->ui,pyIter->uj,wpAny_loadPart'->uk,wpAny_typeNameOfWhole_itemiter->vc,Fin->vk,callWith->vx,recursionLimit->vE,getItem->vF,SetTable->vS,setNext->vT,wpAny_fieldsOf->wa,richCompare->we,table->wq,Sem->w4,swapsWith->w8,tupleKind_room_in1->xa,wpAny_letOwnedTupleGo_items->xc,wpAny_standAt->xi,foldedSetIterable->xB,fits_of_scanBound->xE,builtinsNs->ya,atKey->yi,Walks->yy,valueAt->yT,callerA->yY,assign->y3,merged->y8,noFill_tuple_add->y9,IsPart->zd,wpAny_comprehension_free->zi,wpAny_isInstance->zo,wpAny_specialOf->AJ,seqItems?->AK,codeAny_builtin->AL,wpAny_ite_split->AO,subscripted->AX,richCompare_meets_room->AY,wpAny_of_eq->A0,wpAny_isTrue_Compare1->BD,BindsTo->BF,wpAny_ite_true->BH,plainId->BI,builtinLookup_eq_fast->BM,wpAny_newTuple->BP,entryOfKey->BY,bindArgs->Cf,wpAny_call->Ck,bindL->Cn,bindC->Co,typeLookup->Cs,closureFor->CA,wpAny_newFunctionEnv->CB,setEntries->CD,setField->CF,wpAny_pyIter_valiter->CH,seq_tuple_add->CM,wpAny_newList->CO,Within->Dx,isTrue->DC,wpAny_pyIter_tuple->DE,Arguments->DI,concat_meets->DM,wpAny_typeOf->DO,call_meetsIn->DU,CmpOp->EA,Keyword->EB,newList->EC,wpAny_assign_Name->EG,slot_list_getitem->EN,meets_dict_values->ET,wpAny_eqBool_int->EZ,wpAny_execs_cons->Fc,wpAny_Dict_empty->Fh,wpAny_forIn_list->Fm,getAttr?->Fs,entryFor_of_tree->Fu,relayAll->FD,raiseNew->FE,wpAny_Name->FU,typeIs_int->F0,wpAny_rule->F8,typeLookup_type->F9,MeetsIn->GW,entryFor_alias->He,firstArgMember->HE,isSubtype_stop->HG,cellsFrom->HL,drawOrder->HM,intBits_le_64->Ic,evalPart_none->Iy,call_list_seq->IA,Drawn->IG,wants->IJ,seqIndex_neg->IM,Slot->IQ,setAddHashed->IT,setNextDrawn->IU,unaryOp->Kj,getAttr->Kk,operate->Kn,collect->Kt,ElemsOf->Kx,Spec->KI
open PySem.W renaming Frag->Yd,fnOf->d6,kia_one->fb,emptyDict->fA,findIn->gz,methodCall_KW->iO,instObj->iX,kla_obj->kG,keepIn->mf,codeIn->mh,callWith_K->nB,envX->oB,tabObj->oQ,plainGet->sR,kdl_dict->tm,kdl_call->tF,plainGet_of->vj,lookIn->vw,methodObj->xA,hasDictIn->xD,handedIn->y4,KasT->zw,takerIn->AI,cellsFrom_some->AW,kitOne->BE,kla_fn->BU,callWith_K0->CY,kdu_collect->C0,isFn->DH,plainOver->EH,specialIn->EI,kitx_list->EJ,kitx_dict->EK,kcp_self->FA,codeHdIn->FG,makesIn->FV,kat_nil->GI,OpenLaw->GL,CodeHd->HK,WalkO->IE
open List renaming mem_cons_self->Yf,mem_cons_of_mem->Yh,length_map->Yk,getElem?_eq_some_iff->Ys,getElem?_eq_getElem->Yv,getElem?_map->Yw,size_toArray->Yx,mem_cons->Yz,mem_map->YD,length_append->YE,map_append->YG,getD_eq_getElem?_getD->YO,map_cons->YS,mem_singleton->YU,mem_of_getElem?->YW,mem_append_right->Y1,length_cons->Y8,mem_filter->Y9,replicate->br,range->cq,map_map->cw,take_length->cx,length_range->cK,eq_nil_of_length_eq_zero->df,append_nil->dA,nodup_cons->d5,length_take->eA,any_eq_true->eD,mem_map_of_mem->eJ,mem_append->e8,length_nil->fe,not_mem_nil->fi,getElem?_append_right->fu,mem_range->fv,getElem?_append_left->fN,getElem?_eq_none->gc,pairwise_map->hJ,foldl_cons->hW,getElem?_range->ij,sum_cons->iE,nodup_append->i9,map_congr_left->jv,pairwise_lt_range->ka,length_singleton->kC,any_cons->kL,perm_ext_iff_of_nodup->kM,append_assoc->kN,mem_append_left->kQ,getElem?_zip_eq_some->kX,getElem?_of_mem->lP,map_nil->mn,replicate_succ->mS,find?_cons->nN,filter_append->nV,map_set->oT,lookup->qf,getElem_of_mem->qr,of_mem_zip->qv,range_succ->qB,getLast?_eq_some_iff->qS,zip_cons_cons->rf,take_sublist->r9,flatten_cons->sd,ext_getElem?->sg,length_drop->ti,lookup_cons->tj,getElem_mem->tq,length_filter_le->tJ,pairwise_append->va,filterMap_cons->vi,pairwise_cons->xb,length_eraseIdx_of_lt->xo,perm_nil->xy,any_eq_false->xC,foldl_append->xI,getElem?_set->xS,getElem?_take_of_lt->y6,filter_cons->zh,getElem?_replicate->Au,filter_cons_of_pos->AE,filter_cons_of_neg->AF,sum_append->AQ,filter_map->AU,getElem?_set_self->AV,drop_of_length_le->BB,length_replicate->BG,getElem?_toArray->BN,take_succ->BQ,getElem?_set_ne->Cb,mem_filterMap->DF,zip_nil_right->DJ,find?_eq_none->DZ,zip_nil_left->EM,getElem?_inj->EU,map_id->EX,foldl->F6,length_set->GO,nodup_nil->GS,foldl_nil->HI,map_take->IF,sum_nil->IZ,length->JO,Perm->KW
open PySem.Heap renaming get?_push_of_some->Yi,get?_push_size->Yq,lt_size->Yu,get?_update_other->bo,get?_update_self->eW,SameBut->fm,size_push->fw,ExtBut->wx,get?_none_of_le->B0,get?_push_at->ER
open Bool renaming and_eq_true_iff->Yj,false_ne_true->YN,and_eq_true->aw,eq_false_iff->dP,eq_iff_iff->dS,false_or->gy,false_and->om,false_eq_true->ri,and_false->rq,or_eq_true->AN,or_eq_false_iff->CC,true_and->CS,and_true->IB,or_assoc->IC,or_false->ID
open Nat renaming le_refl->Yo,ne_of_lt->YF,lt_of_lt_of_le->YM,zero_le->YX,lt_irrefl->Y2,le_of_lt->Y5,le_trans->bP,mod_two_eq_zero_or_one->ck,zero_testBit->de,add_right_cancel->ez,le_succ->gx,add_le_add_left->hZ,lt_of_le_of_lt->iP,testBit_and->i7,lt_succ_self->jI,ne_of_gt->kf,le_of_eq->kg,lt_succ_of_lt->kP,eq_of_testBit_eq->kT,pow_le_pow_right->kU,testBit_or->mi,testBit_lt_two_pow->og,lt_or_ge->oy,succ_ne_self->pS,testBit_two_pow->qq,zero_add->u3,lt_pow_two_of_testBit->yn,lt_trans->y7,lt_succ_iff_lt_or_eq->ze,testBit_zero->zD,testBit_succ->zI,and_le_left->AS,lt_of_succ_lt_succ->Bz,and_le_right->FI,lt_of_not_le->FK,le_add_right->FO,mod_lt->GA,add_comm->IS,not_lt->KL
open Int renaming toNat_natCast->Yy,natCast_nonneg->cc,eq_ofNat_of_zero_le->fg,mul_le_mul_of_nonneg_right->i8,emod_lt_of_pos->ku,zero_add->mM,add_comm->mN,emod_nonneg->nX,le_refl->qk,toNat->tP,toNat_of_nonneg->vt,natCast_pow->AR,one_mul->BA,lt_of_not_ge->FL
open PySem.Builtin renaming bitAnd->YA,bitNot->YC,bitOr->YQ
open Array renaming getElem?_eq_getElem->YH,getElem?_toList->Y4,getD_eq_getD_getElem?->ax,length_toList->aE,getElem?_eq_none->eB,getElem_toList->u7,perm_iff_toList_perm->xw,toList->DD,toList_push->ES,getD->KO
open Option.some renaming inj->YK
open PySem.Str renaming ofString->YL
open Sum renaming inl->YY,inr->yB
open PySem.Value renaming ref->Y0,none->iS,type->j1,int->kc,bool->ua,str->AG,notImplemented->Ct,isInt_shape->EF,float->EW,isStrOf->HZ,isInt->JI,bytes->JJ
open PyProof.Rows renaming boot_sorted->ae,IntsAre->aT,boot_tuple->bp,boot_list->dy,boot_isinstance->gS,boot_dict->iq,slot_tuple_getitem->jJ,kws_cons->kF,envOfC->nE,firstMet->oi,callWith_kw->pe,AllBare->tI,boot_max->tT,kws_nil->vb,callWith_type1->w9,listUpdate_at->xv,IsTup->AH,subscriptTail_builtinR->AZ,boot_min->BS,subscriptTail->CL,firstMet_succ->CU,args_sorted1->DS,lt_int->FR,callWith_builtin1->FX,Subscript_->FY,entry_list_sort->F7,get?_update_seq->GH,slicePart_none->GV,slot_list_sort->GY,gt_int->IH,isTrue_plain->IL,listItems_at->Jn,intBits_le->JE,bitAnd_pp->JY,boot_bool->Ki,boot_int->KA,boot_sum->KG,tuples'->KP
open Option renaming map_eq_some_iff->af,ne_none_iff_exists'->qc,isNone_iff_eq_none->qE,map->CI,isSome_map->EL,getD_none->Fn,getD_some->FF,map_some->GG,none->JU,some->Ya,none->Yb
open PySem.PassesOwn renaming never->ah
open PySem.SetTable renaming below->bg,Probe->G0
open PySem.Paired renaming length->bX,snoc->sh
open PySem.Shared renaming TypeIs->cg
open PySem.NameKind renaming free->c8,cell->iA
open PySem.Heap.SameBut renaming update->dE
open PySem.Builtin.Int renaming intBits->eI
open PySem.Obj renaming mapSeq->eM,mapFields->sP
open False renaming elim->fh
open PySem.F renaming slot_dict_values->gi,plainAttrs_dict->gX,type_dict_values->mE,plainAttrs_list->nr,args_tuple_add_2->rh,entry_tuple_add->rX,slot_dict_items->r6,slot_tuple_add->si,args_dict_values_1->xt,entry_dict_values->yA,slot_list_extend->zS,type_list_extend->z5,slot_list_append->Ap,type_list_append->Aq,type_dict_items->AA,plain_list_iadd->AB,entry_min_loop->Bi,plain_min_loop->Bn,slot_set_iter->BO,called_set->DV
open True renaming intro->gB
open PySem.Builtin.Dict_items renaming ownsTuple->gN,ownedTupleIsFree->ED,pairFromOwner->FH
open PySem.SetTable.below renaming go->ja
open PySem.Calls renaming callWith_builtin->j3,Name_function_global->xh
open PyProof.Rows.F renaming plain_set_update_loop->kq,entry_set_update_loop->rj
open PySem.Builtin.Slice renaming slicePlaces->kR,sliceAdjust->qA,sliceApplied->xk,slicePartIndex->GU,sliceFields->II
open Sum.inl renaming inj->md
open PySem.Builtin.Tuple renaming tupleExact->mv,tupleCompareSizes->t9,tupleItemsOf->Iq
open PySem.Builtin.List renaming listTooLong->mw,listSameRef->zt,listUpdate->AD,listLengthHint->HU,listExtendWith->HV,listItems->Kb
open PySem.Challenge renaming rw_groupcall_k68_what_hands_keep->mI,pw_groupcall_k68_what_hands_keep->zC
open PySem.Builtin.Builtins renaming bindParams->pf
open PySem.SetTable.probe renaming go->se
open PySem.PyData.canLayAll0 renaming eq_2->sM
open ForInStep renaming yield->uu
open PySem.Walks renaming list->uS
open List.Pairwise renaming filter->u4,nil->EO,filterMap->JA,map->K0
open PySem.PyData renaming depthAll->ve,depth->As,list->BC,tuple->Ee,canLayAll0->EV,str->GN
open PySem.PyData.canLay0 renaming eq_5->vn,eq_6->KS,eq_7->KU
open Nat.succ renaming inj->zk
set_option hygiene false
local macro_rules|`(?$x:ident)=>match x.getId with|`A=>`(au (K:=K) rfl (pv 0) rfl)|`B=>`(by decide)|`C=>`(by intro z;cases z)|`D=>`(by omega)|`E=>`(Or.inl rfl)|`G=>`(λ_ _=>rfl)|`I=>`(Yr prog w)|`J=>`(by kernel_rfl)|`K=>`(aK (K:=K) rfl)|`L=>`(aM (aR (K:=K) rfl) (pv 1) aB ?G)|`M=>`(Yr X.prog X.w)|`N=>`(by simp)|`O=>`(show Vals [V.int 0,V.non] _ from(.cons ⟨_,rfl⟩ (.cons rfl .nil)))|`P=>`((nl,HO.lst ((rP a b 5).map V.int)))|`Q=>`(pv 0)|`R=>`(by intro _ z;cases z)|`S=>`(Int×Int)|`T=>`(λ_ _ _ _ _ nd=>aO (i:=0) nd rfl ?E)|`U=>`(s.heap.objs.size+ 1)|`V=>`((∀σ2 H2,N σ2 H2->∃m',m'<m/\W (i+ 1) m' σ2 H2))|`W=>`(fH a b nu)|`X=>`(aM (aR (K:=K) rfl) (pv 2) aB ?G)|`Y=>`(pH me ro nw pg ch cb wb pa lg lo db nt wo wi)|`Z=>`(ps.map V.ref)|`AA=>`(λ_ _ _ _ _=>c7)|`AB=>`(show Vals [V.int 1] _ from(.cons ⟨_,rfl⟩ .nil))|`AC=>`(λi x σ A hx=>by simp at hx)|`AD=>`(λ_ _ _ _ _ nd=>aO (i:=1) nd rfl ?E)|`AE=>`(by rfl)|`AG=>`({s with heap:=h',toks:=tk})|`AI=>`(pH me ro nw pg ch cb wb pa lg lo db nt wo wi)|`AJ=>`(cz (cz (cz (cz (Gq 5 (g2 o w' r x)) (.sus o (2^x))) (.com y)) (.hea o y)) (.sus w' (2^o)))|`AK=>`(by intro _ _ _ z;cases z)|`AL=>`(I.hok.fresh (Yo _))|`AM=>`({s with heap:=h'})|`AN=>`(λ_ _ _ _ _=>(wz nJ eY hr rfl aD BP_Hand___init__ (show Vals [V.int 8] _ from(.cons ⟨_,rfl⟩ .nil)) fc (aj (pv 2) (aj ?Q (aj (pv 1) ao)))))|`AO=>`(fun(p:List d9×V) (q:List d9×Yc×Ye)=>p.1=q.1/\H q.2.1=Ya (.tup (p.1.map kV))/\RelV p.2 q.2.2)|`AP=>`(j6 K mg H F p S x)|`AQ=>`(Yc×Y6)|`AR=>`(pH me ro nw pg ch cb wb pa lg lo db nt wo wi)|`AS=>`(λ_ _ _ _ _=>iz)|`AT=>`(fH a b nu S)|`AU=>`(pv 1)|`AV=>`(by decide +kernel)|`AW=>`(aj (pv 2) ao)|`AX=>`(Int×Rt×mF)|`AY=>`(he pins s σ H _ I h)|`AZ=>`(λi x σ B hx=>by simp at hx)|`A0=>`(show false=true from hs)|`A1=>`(ns.map V.int)|`A2=>`((∀b o,s.heap.get? b=Ya o->h'.get? b=Ya o))|`A3=>`(pH me ro nw pg ch cb wb pa lg lo db nt wo wi)|`A4=>`(d6 x qual (jP st) (gK st) (az st) .none kV doc pm an cdv ct)|`A5=>`(aj ?A ao)|`A6=>`(ha pins s σ H _ I h)|`A7=>`(aR (K:=K) rfl)|`A8=>`((false,ay e X.env))|`A9=>`({s with heap:=h,toks:=tk})|`BA=>`(aU (K:=K) rfl ?Q cA rfl)|`BB=>`(X.blk N' sc cl C s2 H2 fp)|`BC=>`(X.blk N' sc cl Hl.objs.size s2 H2 fp)|`BD=>`(List d9×V)|`BE=>`(Int×V)|`BG=>`(pH me ro nw pg ch cb wb pa lg lo db nt wo wi)|`BI=>`([V.int pl.1,.int pl.2.1,.int pl.2.2,.ref te])|`BJ=>`([V.int r.1,.ref e1,.ref e2,.ref e3,.bl r.2])|`BK=>`(I.ok.hd hc)|`BL=>`(cj.cons aC.cl bC dg cF cj.nil)|`BM=>`(bG _)|`BN=>`(λ_ _ _ _ _ nd=>J1 (K:=K) (n:=2) rfl rfl (cU (aO (i:=0) nd rfl ?E) (cU (aO (i:=1) nd rfl ?E) um)))|`BO=>`(aj (dZ (aj (pv 3) (aj (pv 4) (aj (pv 5) ao)))) ao)|`BP=>`(if(((es.size:Nat):Int) !=((es.size:Nat):Int))=true then _ else _)|`BQ=>`(BL K mg H p me hd b y vo ag d rp)|`BR=>`(nE qual (az st) s.heap.objs.size f cdv)|`BS=>`(pH me ro nw pg ch cb wb pa lg lo db nt wo wi)|`BT=>`(EP X pins σ Q)|`BU=>`(Yo _)|`BV=>`([.ref a])|`BW=>`(pv 3)|`BX=>`(λz=>hc (by simp[z]))|`BY=>`(au (K:=K) rfl ?A rfl)|`BZ=>`(dR I q ?N)|`B0=>`(aj ?AU ao)|`B1=>`(λr s'=>r=.ok (.ret (.bool true))/\OldK s₁.heap s'.heap/\s'.os=s₁.os/\tI s'.gens)|`B2=>`([V.int me',.ref e1,.ref e2,.ref e3,.ref e4])|`B3=>`({s with heap:=g})|`B4=>`(pH me ro nw pg ch cb wb pa lg lo db nt wo wi)|`B5=>`(Yh _ Yf)|`B6=>`(([]:List Int).map V.int)|`B7=>`(aj aB ao)|`B8=>`(yF (K:=K) rfl hu64)|`B9=>`(V.non=V.non)|`CA=>`((∀σ' H',N σ' H'->∃m',m'<m/\W (i+ 1) m' σ' H'))|`CB=>`(bD e hp ?C)|`CC=>`(nm a b me)|`CD=>`([.ref p])|`CE=>`((Sv (s.heap.objs.size+ 1+ 1+ 1) ?U (s.heap.objs.size+ 1+ 1)).map (·.2))|`CG=>`(cj.cons aC.cl bC jh cF cj.nil)|`CI=>`(pH me ro nw pg ch cb wb pa lg lo db nt wo wi)|`CJ=>`(V.non=V.non)|`CK=>`({s with heap:=h',toks:=t'})|`CL=>`(λ_ _ _ _ _ nd=>aO (i:=2) nd rfl ?E)|`CM=>`(bM (K:=K) rfl ?Q)|`CN=>`(Bl (fB a b c.b) (fB a b l.b))|`CO=>`((q.1+ nu,fS a b q.2.1,Og (nm a b S.me) (fS a b q.2.1) (fS a b S.db) (YA (fS a b S.nt) (YC (fS a b S.db))) (fC a b q.2.2.1),fP a b q.2.2.2))|`CP=>`(by rw[z'];exact Y2 _)|`CQ=>`(of_decide_eq_true k1)|`CR=>`(λ_ _=>False)|`CS=>`(tm (knd:=bT X.prog X.w) (kvs:=vs) (ep:=ep) hS)|`CT=>`(cl.map (·.2))|`CU=>`(pH me ro nw pg ch cb wb pa lg lo db nt wo wi)|`CV=>`(V.non=V.non)|`CW=>`(mk H1 _ y _ (λb' o n e=>b1.at n e) e1 hy (sv.or z0 sb) (λz=>by rw[z]at h3;exact absurd (of_decide_eq_true h3) (by intro w;cases w)))|`CX=>`((D1,HO.lst ?Z))|`CY=>`(YR es X.env)|`CZ=>`(cz (cz (b2 o w' r x y) (.hea o w')) (.com o))|`C0=>`(cz (cz (Gq 4 (g3 o w')) (.com v)) (.hea u v))|`C1=>`(bK.of (D.D.at hh))|`C2=>`([Ya (.ref nq),Ya (.int t),Ya (.int nu),Ya (.int (fS a b (tH (iN [0,1,2])))),Ya (.ref D1),Ya (.int o),Ya (.int w'),Ya (.int r),v,Yb])|`C3=>`({s with toks:=s.toks+ 1})|`C4=>`(2^me.toNat)|`C5=>`(aM ?K (pv 9) ?BW ?G)|`C6=>`(pH me ro nw pg ch cb wb pa lg lo db nt wo wi)|`C7=>`(V.non=V.non)|`C8=>`(aM ?K (pv 9) (pv 4) ?G)|`C9=>`(aM ?K (pv 7) ?BW ?G)|`DA=>`(d6 x qual (jP st) (gK st) (az st) (.ref T) kV doc pm an cdv ct)|`DB=>`(λb o hb e=>(sb.2 b hb).trans e)|`DC=>`((q.1,q.2.1,QS S.me q.2.1 q.2.2.1 l,q.2.2.2))|`DD=>`(W5 (RT S l.nu) l)|`DE=>`(cz (cz (n1 o w r) (.hea w o)) (.hea r w))|`DG=>`(d9×V)|`DI=>`([V.int me',ba1,ye1,.int vo',rv1])|`DJ=>`(pH me ro nw pg ch cb wb pa lg lo db nt wo wi)|`DK=>`(V.non=V.non)|`DL=>`(((so.take j).filter λr=>!decide (o=r)).map λr=>Op.hea r o)|`DM=>`((∀H',(∀stt,Wn K mg P_mk H' [] stt [?P])->Q (.bl true) H'))|`DN=>`(ha pos pins s σ H _ I h)|`DO=>`(by simp only[Yx]<;>omega)|`DP=>`(i+ 1)|`DQ=>`(kK pos (gm [] X.env))|`DR=>`(pv 2)|`DS=>`((rP a b 3).map V.int)|`DT=>`(λv H2=>v=.non/\Q (.ref x) H2)|`DU=>`(bU rZ aB (aM ?K ?Q (pv 5) ?G))|`DV=>`(pH me ro nw pg ch cb wb pa lg lo db nt wo wi)|`DW=>`(V.non=V.non)|`DX=>`(cz (cz m1 (.lea w')) (.lea r))|`DY=>`(cj.cons aC.cl cR gW gU cj.nil)|`DZ=>`(cj.cons aC.cl dB jj ji cj.nil)|`D0=>`(λ_ _ _ _ _=>(bU vJ (bU jH ?Q ?AU) aB))|`D1=>`(λb o hb e=>eb b o hb e)|`D2=>`(aU (K:=K) rfl ?Q qZ rfl)|`D3=>`(bT X.prog X.w)|`D4=>`(gP (K:=K) rfl)|`D5=>`(of_decide_eq_true z)|`D6=>`((c.b.getD (0,0),J3 me hd wi c))|`D7=>`(pH me ro nw pg ch cb wb pa lg lo db nt wo wi)|`D8=>`(V.non=V.non)|`D9=>`(I1.hok.fresh ?BU)|`EA=>`(w.params.setOrder a ep)|`EB=>`(by intro _ _ z;cases z)|`EC=>`(aM ?K (pv 4) (pv 5) ?G)|`ED=>`(List K×Yc×Ye)|`EE=>`(bS.«dict_valueiterator.__next__» ⟨[.ref it],[]⟩)|`EG=>`(Vo CX P w K mg base N qual scope f cdv A outer s H E)|`EI=>`(bS.«dict_itemiterator.__next__» ⟨[.ref it],[]⟩)|`EJ=>`(Ig (K:=K) rfl hu64)|`EK=>`((∀stt,Wn K mg P_mk H [] stt [?P]))|`EL=>`(pH me ro nw pg ch cb wb pa lg lo db nt wo wi)|`EM=>`(V.non=V.non)|`EN=>`(by rw[hl];exact Y5 (bx ?D))|`EO=>`(s2.trans s3)|`EP=>`(gL L i)|`EQ=>`(aj (dZ (aj ?BW (aj (pv 4) ao))) ao)|`ER=>`(List d9×Yc×Ye)|`ES=>`((∃m,W 0 m σ H))|`ET=>`(bL oY ?A cA ?BM)|`EU=>`(s1 _ _ e)|`EV=>`(Option Ye)|`EW=>`(HT.ql xs.length xs.length hi-HT.ql xs.length 0 lo)|`EX=>`(pH me ro nw pg ch cb wb pa lg lo db nt wo wi)|`EY=>`(V.non=V.non)|`EZ=>`(kJ (K:=K) rfl)|`E0=>`((∀b o,H b=Ya o->b≠p->H' b=Ya o))|`E1=>`(rp.map (·.1))|`E2=>`(bM (K:=K) rfl ?AU)|`E3=>`(tOp (xK K) (vO ch) (vO c))|`E4=>`(by rw[YE]at hl;exact ez (m:=0) hl)|`E5=>`(λz=>nc (by simp[z]))|`E6=>`(λ_ _ _ _ _=>(qM Fx))|`E7=>`(ik 72)|`E8=>`(pH me ro nw pg ch cb wb pa lg lo db nt wo wi)|`E9=>`(V.non=V.non)|`GA=>`(aU (K:=K) rfl ?Q ?AU rfl)|`GB=>`((Sv c1 c2 c3).map (·.2))|`GC=>`([w',r].map λi=>.hea i o)|`GD=>`(show u=Y0 a from rx)|`GE=>`(ql items.size items.size hi-ql items.size 0 lo)|`GG=>`(Ym×Yc)|`GI=>`([⟨tg,iter,ifs,0⟩])|`GJ=>`(λi=>ns.getD i 0)|`GK=>`(λacc p=>ot acc p.1 p.2.1 p.2.2)|`GL=>`(aq (aX qZ))|`GM=>`(pH me ro nw pg ch cb wb pa lg lo db nt wo wi)|`GN=>`(V.non=V.non)|`GO=>`(S.lg.length<=900)|`GP=>`(nm a b S.me)|`GQ=>`(Ym×V)|`GR=>`(Gu me hd ba ye vo re ag)|`GS=>`(aP (bh (cj.cons aC.cl dh jD jE cj.nil) ?Q hr))|`GT=>`(fE a b nu)|`GU=>`(λ_ _ _ _ _=>(aM ?A7 ?Q aB ?G))|`GV=>`((hX prog w).hash k)|`GW=>`(λb o _ _ hc e _=>⟨o.slots,k b o ?BX e⟩)|`GX=>`(show p∈([]:List ?AQ)from hp)|`GY=>`(pH me ro nw pg ch cb wb pa lg lo db nt wo wi)|`GZ=>`(V.non=V.non)|`G0=>`(Gu me hd ba ye vo re ag)|`G1=>`(Ov (.int sl 0) i a es.size ep)|`G2=>`(eM λ_=>(#[]:Array Ye))|`G3=>`((∃fd,fo.data=.func fd))|`G4=>`(Rj .none d i es.size ep ok ov)|`G5=>`(rH (K:=K) rfl)|`G6=>`(aM ?K (pv 8) (pv 5) ?G)|`G7=>`(aM ?K (pv 7) (pv 5) ?G)|`G8=>`(λv s₁=>Yn ?M X.A (ay b X.env) (λu s₂=>Yn ?M X.A (f v u) Q X.xe s₂) X.xe s₁)|`G9=>`(pH me ro nw pg ch cb wb pa lg lo db nt wo wi)|`IA=>`(V.non=V.non)|`IB=>`(Gu me hd ba ye vo re ag)|`IC=>`(Or.inr rfl)|`ID=>`([.ref d,.ref I,.int i t,.none])|`IE=>`(aU (K:=K) rfl ?Q (dZ ao) rfl)|`IG=>`(YA S.nt (YC S.db))|`II=>`(fR a b)|`IJ=>`(aj ?AU (aj (bU vJ (bU Ph ?BW aB) aB) ?AW))|`IK=>`(amn ha hb I h λv u s2 x y H2 I2 rx ry q=>ho pins s2 σ H2 x y v u Q I2 rx ry q)|`IL=>`(upd H1 d (.frz o (.dK kvs)))|`IM=>`(bh (cj.cons bj.cl cu gf gj cj.nil) ?Q hr)|`IN=>`(pH me ro nw pg ch cb wb pa lg lo db nt wo wi)|`IO=>`(V.non=V.non)|`IP=>`(Gu me hd ba ye vo re ag)|`IQ=>`(λ_ _ _ e=>e)|`IR=>`(m.map (·.1))|`IS=>`(aj ?Q ao)|`IT=>`(aj ?L ao)|`IU=>`(bU jH ?DR aB)|`IV=>`(b4.at n (b3.at n (b2.at n (b1.at n e))))|`IW=>`((rP a b 5).map V.int)|`IX=>`(YR (e::es) X.env)|_=>Lean.Macro.throwUnsupported
set_option hygiene true
section
local macro_rules|`(tactic|omega)=>`(tactic|first|lia|omega +splitNatSub)
namespace L2
open PySem PySem.Spec PyProof.Rows
variable{us:List Ye}{a b it dx C:Yc}{u:Ye}{h h':YT}{items:Array Ye}{P:YI}{x name m qual:Ym}{e c tg l value:YZ}{pins:List ?AQ}{s s':Yl}{g':Array GenState}{t' i j k n:Nat}{d':IG}{ch fp:List Yc}{M:Model}{E Q:Ye->Yl->Prop}{pos pos' p tpos apos:iL}{op:EA}{es:List YZ}{g:Int->Int->Int}{body:List YJ}{f:Ye->Ye->w4 Ye}{mA:Ym->Option Ye}{pl:w4 Bool}{kw:List (Ym×Ye)}{fd:Yt}{ps:List Ym}{scope:jS}{T:String}
abbrev d9:=Sum Int Ym
variable{xs:List ?ER}
noncomputable def Ju:d9->Ye->Bool
 | .inl k,v=>JI k v
 | .inr x,v=>HZ x v
noncomputable def apm(w:YV):d9->Int
 | .inl k=>hashInt k
 | .inr x=>hashStr w x
theorem eG:∀{k:d9} {v:Ye},Ju k v=true->(∃i t,k=YY i/\v=kc i t)\/(∃x t,k=yB x/\v=AG x t)
 | .inl i,v,h=>by
  obtain⟨t,e⟩:=EF (k:=i) (v:=v) h;exact .inl ⟨i,t,rfl,e⟩
 | .inr x,v,h=>by
  obtain⟨t,e⟩:=Value.isStrOf_shape (x:=x) (v:=v) h;exact .inr ⟨x,t,rfl,e⟩
theorem aeV(i:Int)(t:ml):Ju (.inl i) (.int i t)=true:=by simp[Ju,JI]
theorem aeY(x:Ym)(t:ml):Ju (.inr x) (.str x t)=true:=by simp[Ju,HZ]
theorem alq(a b:Int):decide ((YY a:d9)=YY b)=(a==b):=by
 by_cases e:a=b
 ·subst e;simp
 ·have h:¬ (YY a:d9)=YY b:=λq=>e (md q);rw[decide_eq_false h];exact(beq_eq_false_iff_ne.mpr e).symm
theorem alI(a b:Ym):decide ((yB a:d9)=yB b)=decide (a=b):=by
 by_cases e:a=b
 ·subst e;simp
 ·have h:¬ (yB a:d9)=yB b:=λq=>e (Sum.inr.inj q);rw[decide_eq_false h,decide_eq_false e]
theorem amq(a:Int)(b:Ym):decide ((YY a:d9)=yB b)=false:=decide_eq_false (λq=>nomatch q)
theorem amX(a:Ym)(b:Int):decide ((yB a:d9)=YY b)=false:=decide_eq_false (λq=>nomatch q)
noncomputable def bT(prog:YI)(w:YV):rV prog w d9 where
 is:=Ju
 hash:=apm w
 inj:=λv a b ha hb=>by
  rcases eG ha with⟨i,t,rfl,rfl⟩|⟨x,t,rfl,rfl⟩
  ·rcases eG hb with⟨j,u,rfl,e⟩|⟨y,u,rfl,e⟩
   ·injection e with e1 _;rw[e1]
   ·exact nomatch e
  ·rcases eG hb with⟨j,u,rfl,e⟩|⟨y,u,rfl,e⟩
   ·exact nomatch e
   ·injection e with e1 _;rw[e1]
 byValue:=λk v h=>by
  rcases eG h with⟨i,t,rfl,rfl⟩|⟨x,t,rfl,rfl⟩<;>rfl
 pyHash:=λhv h=>by
  rcases eG hv with⟨i,t,rfl,rfl⟩|⟨x,t,rfl,rfl⟩
  ·exact wpAny_pyHash_int h
  ·exact wpAny_pyHash_str h
 eqBool:=λhu hv h=>by
  rcases eG hu with⟨i,t,rfl,rfl⟩|⟨x,t,rfl,rfl⟩
  ·rcases eG hv with⟨j,u,rfl,rfl⟩|⟨y,u,rfl,rfl⟩
   ·rw[alq]at h;exact EZ h
   ·rw[amq]at h;exact SeqAt.EqAt.int_str i t y u _ _ _ _ h
  ·rcases eG hv with⟨j,u,rfl,rfl⟩|⟨y,u,rfl,rfl⟩
   ·rw[amX]at h;exact SeqAt.EqAt.str_int x t j u _ _ _ _ h
   ·rw[alI]at h;exact wpAny_eqBool_str h
 «strs»:=λk x t v h=>by
  rcases eG h with⟨i,u,rfl,e⟩|⟨y,u,rfl,e⟩
  ·exact nomatch e
  ·injection e with e1 _;subst e1;cases v<;>rfl
theorem Dq(prog:YI)(w:YV)(i:Int)(t:ml):(bT prog w).is (.inl i) (.int i t)=true:=aeV i t
theorem Xz(prog:YI)(w:YV)(x:Ym)(t:ml):(bT prog w).is (.inr x) (.str x t)=true:=aeY x t
inductive V where
 |non|bl (b:Bool)|int (i:Int)|str (x:Ym)|byt (b:Array UInt8)|flt (b:UInt64)|ref (a:Yc)|ty (n:String)
 deriving DecidableEq
variable{v y:V}{vs:List V}{kvs:List ?BD}
def RelV:V->Ye->Prop
 | .non,u=>u=iS
 | .bl b,u=>u=ua b
 | .int i,u=>∃t,u=kc i t
 | .str x,u=>∃t,u=AG x t
 | .byt b,u=>∃t,u=JJ b t
 | .flt b,u=>∃t,u=EW b t
 | .ref a,u=>u=Y0 a
 | .ty n,u=>u=j1 n
abbrev Vals:List V->List Ye->Prop:=dQ RelV
theorem Vals.length{xs:List V}(r:Vals xs us):xs.length=us.length:=bX r
theorem Vals.get:∀{xs:List V} {us:List Ye} {i:Nat} {x:V},Vals xs us->xs[i]?=Ya x->∃u,us[i]?=Ya u/\RelV x u:=by
 intro a b i x w
 induction w generalizing i with
 |nil=>exact λe=>by simp at e
 |cons r _ ih=>
  intro e;cases i with
  |zero=>simp at e;subst e;exact⟨_,rfl,r⟩
  |succ i=>
   obtain⟨p,h1,h2⟩:=ih (i:=i) (by simpa using e);exact⟨p,by simpa using h1,h2⟩
theorem Vals.append:∀{xs ys:List V} {us ws:List Ye},Vals xs us->Vals ys ws->Vals (xs++ys) (us++ws):=by
 intro a b c d w h
 induction w with
 |nil=>exact h
 |cons r _ ih=>exact .cons r ih
theorem Vals.take:∀{xs:List V} {us:List Ye} (n:Nat),Vals xs us->Vals (xs.take n) (us.take n)
 |_,_,0,_=>.nil
 |_,_,_+ 1,.nil=>.nil
 |_,_,n+ 1,.cons r t=>.cons r (Vals.take n t)
theorem Vals.drop:∀{xs:List V} {us:List Ye} (n:Nat),Vals xs us->Vals (xs.drop n) (us.drop n)
 |_,_,0,r=>r
 |_,_,_+ 1,.nil=>.nil
 |_,_,n+ 1,.cons _ t=>Vals.drop n t
def Er:Option V->Option Ye->Prop
 |some v,Ya u=>RelV v u
 |none,Yb=>True
 |_,_=>False
def KV{κ:Type}:List (κ×V)->List (κ×Ye)->Prop:=dQ fun(p:κ×V) (q:κ×Ye)=>p.1=q.1/\RelV p.2 q.2
noncomputable def kV:d9->V
 | .inl i=>.int i
 | .inr x=>.str x
inductive HO where
 |lst (xs:List V)
 |tup (xs:List V)
 |dK (kvs:List ?DG)|dT (kvs:List ?BD)
 |set (S:Int->Bool) (n:Nat)
 |ins (C dx:Yc) (fs:List ?GQ)
 |own (x:Yc)
 |xd (fs:List ?GQ)
 |met (f x:Yc)
 |rng (lo hi:Int)
 |frz (o:Y6) (u:HO)
 |tbl (ps:Array Ye)
 |ext (φ:YT->Prop)
variable{o:HO}
abbrev Hp:=Yc->Option HO
variable{H H':Hp}{R:V->V->Hp->Prop}
noncomputable def upd(H:Hp)(a:Yc)(o:HO):Hp:=λb=>if b=a then Ya o else H b
theorem aA:upd H a o a=Ya o:=by unfold upd;rw[if_pos rfl]
theorem aQ(h:b≠a):upd H a o b=H b:=by unfold upd;rw[if_neg h]
theorem ai8{u:HO}:upd (upd H a o) a u=upd H a u:=by
 funext b;unfold upd;split<;>rfl
theorem bD{u:HO}(h:H a=Ya o)(h':H b=Ya u)(d:o≠u):a≠b:=by
 intro e;subst e;rw[h]at h';exact d (YK h')
theorem bB(h:H a=Ya o)(h':H b=Yb):a≠b:=by
 intro e;subst e;rw[h]at h';cases h'
def xg(h:YT)(a:Yc)(items:Array Ye):Prop:=∃o,h.get? a=Ya o/\o.cls=.type "tuple"/\∃n,o.data=.seq items n/\o.dict=Yb/\o.slots=#[]
theorem xg.tup(x:xg h a items):AH h a items:=let ⟨o,e,c,n,d,_⟩:=x;⟨o,e,c,n,d⟩
theorem xg.lt(x:xg h a items):a<h.objs.size:=x.tup.lt
theorem xg.new(h:YT)(items:Array Ye):xg (h.push {cls:=.type "tuple",data:=.seq items}) h.objs.size items:=⟨_,Yq _ rfl,rfl,_,rfl,rfl,rfl⟩
section
variable(P:YI)(w:YV)
def gQ(H:Hp)(h:YT)(a:Yc):HO->Prop
 | .lst xs=>xs.length<=YB/\∃(its:List Ye) (n:Nat),Vals xs its/\h.get? a=Ya {cls:=.type "list",data:=.seq its.toArray n}
 | .tup xs=>xs.length<=YB/\∃its:List Ye,Vals xs its/\xg h a its.toArray
 | .dK kvs=>kvs.length<=YB/\(a==eK)=false/\∃vs,KV kvs vs/\h.DictOf (bT P w) a vs
 | .dT kvs=>kvs.length<=YB/\(a==eK)=false/\∃xs:List ?ER,
   dQ ?AO kvs xs/\
   ∃o es ep,h.get? a=Ya o/\o.ExactDict/\o.data=.dict es ep/\es.toList=xs.map (BY (ke (bT P w)))/\(xs.map (·.1)).Nodup
 | .set S n=>h.SetOf (hX P w) a S n
 | .ins C dx fs=>H dx=Ya (.own a)/\fs.length<=1000/\dx≠a/\h.get? a=Ya (iX C dx)/\
   ∃mA,h.Ns1 dx mA/\(∀f,Er (fs.lookup f) (mA f))/\Dx mA (fs.map (·.1))
 | .own _=>∃o,h.get? a=Ya o
 | .xd fs=>∃mA,h.Ns1 a mA/\∀f,Er (fs.lookup f) (mA f)
 | .rng lo hi=>∃t u v,h.get? a=Ya {cls:=.type "range",data:=.fields #[.int lo t,.int hi u,.int 1 v]}
 | .frz o u=>h.get? a=Ya o/\gQ H h a u
 | .tbl ps=>h.get? a=Ya {cls:=.none,data:=.fields ps}
 | .met f x=>h.get? a=Ya (xA (.ref f) (.ref x))
 | .ext φ=>φ h/\(∃o,h.get? a=Ya o)/\∀h1 h2:YT,φ h1->(∀o,h1.get? a=Ya o->h2.get? a=Ya o)->φ h2
def xP(H:Hp)(h:YT):Prop:=∀a o,H a=Ya o->gQ P w H h a o
end
section
variable{w:YV}
theorem gQ.lt(x:gQ P w H h a o):a<h.objs.size:=by
 cases o with
 |lst xs=>obtain⟨_,_,_,_,e⟩:=x;exact Yu e
 |tup xs=>obtain⟨_,_,_,p⟩:=x;exact p.lt
 |dK kvs=>obtain⟨_,_,_,_,o,_,_,e,_⟩:=x;exact Yu e
 |dT kvs=>obtain⟨_,_,_,_,o,_,_,e,_⟩:=x;exact Yu e
 |set S n=>obtain⟨o,_,_,_,e,_⟩:=x;exact Yu e
 |ins C dx fs=>obtain⟨_,_,_,e,_⟩:=x;exact Yu e
 |own y=>obtain⟨_,e⟩:=x;exact Yu e
 |xd fs=>obtain⟨_,⟨_,_,_,e,_⟩,_⟩:=x;exact Yu e
 |rng lo hi=>obtain⟨_,_,_,e⟩:=x;exact Yu e
 |frz ob u=>obtain⟨e,_⟩:=x;exact Yu e
 |tbl ps=>exact Yu (show h.get? a=Ya _ from x)
 |met f y=>exact Yu (show h.get? a=Ya _ from x)
 |ext φ=>obtain⟨_,⟨_,e⟩,_⟩:=x;exact Yu e
theorem dQ.mapP{α β:Type}{F G:α->β->Prop}:∀{l₁:List α} {l₂:List β},dQ F l₁ l₂->(∀a b,F a b->G a b)->dQ G l₁ l₂:=by
 intro a b w f
 induction w with
 |nil=>exact .nil
 |cons r _ ih=>exact .cons (f _ _ r) ih
theorem gQ.stay(x:gQ P w H h a o)(k:∀b u,(b=a\/H b=Ya (.own a))->h.get? b=Ya u->h'.get? b=Ya u)
  (ho:∀b,H b=Ya (.own a)->H' b=Ya (.own a)) (ht:∀b xs,H b=Ya (.tup xs)->H' b=Ya (.tup xs)):gQ P w H' h' a o:=by
 induction o with
 |lst xs=>obtain⟨z,its,n,r,e⟩:=x;exact⟨z,its,n,r,k _ _ (.inl rfl) e⟩
 |tup xs=>obtain⟨z,its,r,ob,e,c⟩:=x;exact⟨z,its,r,ob,k _ _ (.inl rfl) e,c⟩
 |dK kvs=>obtain⟨z,y,vs,r,ob,es,ep,e,c⟩:=x;exact⟨z,y,vs,r,ob,es,ep,k _ _ (.inl rfl) e,c⟩
 |dT kvs=>
  obtain⟨z,y,xs,r,ob,es,ep,e,c⟩:=x;exact⟨z,y,xs,dQ.mapP r λp q z=>⟨z.1,ht _ _ z.2.1,z.2.2⟩,ob,es,ep,k _ _ (.inl rfl) e,c⟩
 |set S n=>obtain⟨ob,es,ep,t,e,c⟩:=x;exact⟨ob,es,ep,t,k _ _ (.inl rfl) e,c⟩
 |ins C dx fs=>
  obtain⟨d,z,ne,e,mA,⟨od,es,ep,e2,c⟩,r⟩:=x;exact⟨ho _ d,z,ne,k _ _ (.inl rfl) e,mA,⟨od,es,ep,k _ _ (.inr d) e2,c⟩,r⟩
 |own y=>obtain⟨ob,e⟩:=x;exact⟨ob,k _ _ (.inl rfl) e⟩
 |xd fs=>obtain⟨mA,⟨od,es,ep,e,c⟩,r⟩:=x;exact⟨mA,⟨od,es,ep,k _ _ (.inl rfl) e,c⟩,r⟩
 |rng lo hi=>obtain⟨t,u,v,e⟩:=x;exact⟨t,u,v,k _ _ (.inl rfl) e⟩
 |frz ob u ih=>obtain⟨e,q⟩:=x;exact⟨k _ _ (.inl rfl) e,ih q⟩
 |tbl ps=>
  have e:h.get? a=Ya {cls:=.none,data:=.fields ps}:=x;show h'.get? a=Ya {cls:=.none,data:=.fields ps};exact k a _ (.inl rfl) e
 |met f y=>
  have e:h.get? a=Ya (xA (.ref f) (.ref y)):=x;show h'.get? a=Ya (xA (.ref f) (.ref y));exact k a _ (.inl rfl) e
 |ext φ=>obtain⟨p,⟨o,e⟩,st⟩:=x;exact⟨st _ _ p λo q=>k _ _ (.inl rfl) q,⟨o,k _ _ (.inl rfl) e⟩,st⟩
theorem xP.lt(x:xP P w H h)(e:H a=Ya o):a<h.objs.size:=(x a o e).lt
theorem xP.fresh(x:xP P w H h)(e:h.objs.size<=a):H a=none:=by
 cases q:H a with
 |none=>rfl
 |some u=>exact absurd (YM (x.lt q) e) (Y2 _)
theorem xP.kept(x:xP P w H h)(k:∀b u,h.get? b=Ya u->h'.get? b=Ya u):xP P w H h':=λa o e=>
 (x a o e).stay (λb u _ q=>k b u q) (λ_ q=>q) λ_ _ q=>q
theorem xP.laid(x:xP P w H h)(k:∀b u,h.get? b=Ya u->h'.get? b=Ya u)(hp:h.objs.size<=a)(new:gQ P w (upd H a o) h' a o):xP P w (upd H a o) h':=λb u e=>by
 have hn:=x.fresh hp;by_cases hb:b=a
 ·subst hb;rw[aA]at e;cases e;exact new
 ·rw[aQ hb]at e;exact(x b u e).stay (λc v _ q=>k c v q) (λc q=>by rw[aQ (bB q hn)];exact q) λc xs q=>by rw[aQ (bB q hn)];exact q
end
def Rd(H:Hp)(a:Yc)(u:HO):Prop:=H a=Ya u\/∃o,H a=Ya (.frz o u)
theorem Rd.ok{w:YV}{u:HO}(r:Rd H a u)(x:xP P w H h):gQ P w H h a u:=by
 rcases r with r|⟨o,r⟩
 ·exact x a u r
 ·obtain⟨_,q⟩:=x a _ r;exact q
def Mut:Option HO->Prop
 |some (.lst _)=>True
 |some (.dK _)=>True
 |some (.dT _)=>True
 |some (.set _ _)=>True
 |some (.ins _ _ _)=>True
 |some (.ext _)=>True
 |_=>False
section
variable{w:YV}{x e:Yc}{o':HO}
theorem xP.write(ok:xP P w H h)(mu:Mut (H x))(he:e=x\/H e=Ya (.own x))(k:∀b u,b≠e->h.get? b=Ya u->h'.get? b=Ya u)(heo:∃u,h'.get? e=Ya u)
  (new:gQ P w (upd H x o') h' x o'):xP P w (upd H x o') h':=λb u q=>by
 have nown:∀c y,H c=Ya (.own y)->c≠x:=λc y r z=>by subst z;rw[r]at mu;exact mu
 have ntup:∀c xs,H c=Ya (.tup xs)->c≠x:=λc xs r z=>by subst z;rw[r]at mu;exact mu
 by_cases hb:b=x
 ·subst hb;rw[aA]at q;cases q;exact new
 ·rw[aQ hb]at q;by_cases hbe:b=e
  ·have q':H b=Ya (.own x):=by
    rcases he with z|z
    ·exact absurd (hbe.trans z) hb
    ·rw[hbe];exact z
   rw[q]at q';cases q';obtain⟨v,hv⟩:=heo;exact⟨v,by rw[hbe];exact hv⟩
  ·refine(ok b u q).stay (λc v hc r=>k c v ?_ r) (λc r=>by rw[aQ (nown c b r)];exact r) λc xs r=>by rw[aQ (ntup c xs r)];exact r
   rcases hc with rfl|hc
   ·exact hbe
   ·rintro rfl;rcases he with z|z
    ·exact nown c b hc z
    ·rw[hc]at z;cases z;exact hb rfl
end
structure Un(fs ex:List Yc)(H H':Hp)(h h':YT):Prop where
 keep:∀b o,h.get? b=Ya o->H b=Yb->b∉fs->b∉ex->h'.get? b=Ya o
 slot:∀b o,h.get? b=Ya o->H b=Yb->b∈fs->b∉ex->∃sl,h'.get? b=Ya {o with slots:=sl}
 free:∀b o,h.get? b=Ya o->H b=Yb->b∉ex->H' b=Yb
 there:∀b o,h.get? b=Ya o->b∉ex->∃o',h'.get? b=Ya o'
 tups:∀b xs,H b=Ya (.tup xs)->H' b=Ya (.tup xs)
 frzs:∀b o u,H b=Ya (.frz o u)->H' b=Ya (.frz o u)
 tbls:∀b ps,H b=Ya (.tbl ps)->∃more,H' b=Ya (.tbl (ps++more))
section
variable{fs fs' ex ex':List Yc}{H1 H2:Hp}{h1 h2:YT}{x e:Yc}
theorem Un.any(u:Un fs ex H H1 h h1){ob:Y6}(q:h.get? b=Ya ob)(n:H b=Yb)(hx:b∉ex):∃sl,h1.get? b=Ya {ob with slots:=sl}:=by
 by_cases hb:b∈fs
 ·exact u.slot b ob q n hb hx
 ·exact⟨ob.slots,u.keep b ob q n hb hx⟩
theorem Un.kept(k:∀b u,h.get? b=Ya u->h'.get? b=Ya u):Un fs ex H H h h':=
 ⟨λb ob q _ _ _=>k b ob q,λb ob q _ _ _=>⟨ob.slots,k b ob q⟩,λ_ _ _ n _=>n,λb ob q _=>⟨ob,k b ob q⟩,λ_ _ q=>q,λ_ _ _ q=>q,λ_ ps q=>⟨#[],by rw[q];simp⟩⟩
theorem Un.refl:Un fs ex H H h h:=Un.kept λ_ _ q=>q
theorem Un.laid(k:∀b u,h.get? b=Ya u->h'.get? b=Ya u)(hp:h.objs.size<=a)(hn:H a=Yb):Un fs ex H (upd H a o) h h' where
 keep:=λb u q _ _ _=>k b u q
 slot:=λb u q _ _ _=>⟨u.slots,k b u q⟩
 free:=λb u q n _=>by rw[aQ (YF (YM (Yu q) hp))];exact n
 there:=λb u q _=>⟨u,k b u q⟩
 tups:=λb xs q=>by rw[aQ (bB q hn)];exact q
 frzs:=λb u xs q=>by rw[aQ (bB q hn)];exact q
 tbls:=λb ps q=>⟨#[],by rw[aQ (bB q hn),q];simp⟩
theorem Un.write(mu:Mut (H x))(he:e=x\/H e=Ya (.own x))(k:∀b u,b≠e->h.get? b=Ya u->h'.get? b=Ya u)(heo:∃u,h'.get? e=Ya u):Un fs ex H (upd H x o) h h':=by
 have hx:∀b,H b=Yb->b≠x:=λb n z=>by subst z;rw[n]at mu;exact mu
 have hb:∀b,H b=Yb->b≠e:=λb n z=>by
  subst z;rcases he with r|r
  ·exact hx b n r
  ·rw[n]at r;cases r
 have hm:∀b u,H b=Ya u->¬ Mut (Ya u)->b≠x:=λb u q nm z=>by subst z;rw[q]at mu;exact nm mu
 refine⟨λb u q n _ _=>k b u (hb b n) q,λb u q n _ _=>⟨u.slots,k b u (hb b n) q⟩,λb u q n _=>by rw[aQ (hx b n)];exact n,λb u q _=>?_,
  λb xs q=>by rw[aQ (hm b _ q λz=>z)];exact q,λb u xs q=>by rw[aQ (hm b _ q λz=>z)];exact q,λb ps q=>⟨#[],by rw[aQ (hm b _ q λz=>z),q];simp⟩⟩
 by_cases hbe:b=e
 ·subst hbe;exact heo
 ·exact⟨u,k b u hbe q⟩
end
noncomputable def trk(h:YT)(H:Hp):List Yc:=(cq h.objs.size).filter λa=>(H a).isSome
noncomputable def WK(h:YT)(H:Hp):YT:=PySem.W.hideAll h (trk h H)
theorem afh(h:YT)(H:Hp):(WK h H).objs.size=h.objs.size:=PySem.W.hideAll_size _ _
theorem Py{o:Y6}(e:h.get? b=Ya o)(n:H b=Yb):(WK h H).get? b=Ya o:=
 PySem.W.hideAll_get _ e λhm=>by
  have q:(H b).isSome=true:=(Y9.mp hm).2;rw[n]at q;simp at q
theorem ajN{o:Y6}(e:(WK h H).get? b=Ya o):h.get? b=Ya o/\H b=none:=by
 have e':h.get? b=Ya o:=PySem.W.of_hideAll (trk h H) e;refine⟨e',?_⟩;cases q:H b with
 |none=>rfl
 |some x=>
  have hm:b∈trk h H:=Y9.mpr ⟨fv.mpr (Yu e'),by simp[q]⟩;have z:(WK h H).get? b=none:=PySem.W.hideAll_none (trk h H) hm;rw[z]at e;cases e
structure Mod(K:Yd)(mg:Ym->Option Ye)(base:YT):Prop where
 kin:K.In base
 glob:base.Ns Y3 mg
 blt:∃mb,base.Ns ya mb/\∀x:Ym,x≠"__name__"->mb x=i0 x
 nolimit:base.NoLimit
structure Cx where
 prog:YI
 w:YV
 K:Yd
 mg:Ym->Option Ye
 base:YT
 A:Y7
 N:List Ym
 s₀:Yl
 H₀:Hp
 env:m4
 outer:List m4
 stack:List m4
 ex:List Yc
 fn:Ym->Bool
 calm:Bool
 pn:List ?AQ
 xe:Ye->Yl->Prop
variable{w:YV}{X:Cx}{N:List Ym}{A:Y7}{prog:YI}{env:m4}{mg:Ym->Option Ye}{outer:List m4}
noncomputable def frs(l:List m4):List Yc:=l.filterMap (·.frame)
noncomputable abbrev Cx.fs(X:Cx):List Yc:=frs X.outer
variable{fs:List ?GQ}
def Vis(sc:jS)(x:Ym):Prop:=sc.names.lookup x=Ya .local\/sc.names.lookup x=Ya .cell\/sc.names.lookup x=Ya .free
def Loc(sc:jS)(x:Ym):Prop:=sc.names.lookup x=Ya .local\/sc.names.lookup x=Ya .cell
def ap4(env:m4)(h:YT)(m:Ym->Option Ye)(x:Ym)(u:Ye):Prop:=
 (env.kindOf x=Ya .local/\m x=Ya u)\/((env.kindOf x=Ya .cell\/env.kindOf x=Ya .free)/\∃c,env.cells.lookup x=Ya c/\h.IsCell c (Ya u))
structure Cx.Ok(X:Cx):Prop where
 mod:Mod X.K X.mg X.base
 kind:X.env.scope.kind=.function
 glob:X.env.globals=Y3
 blt:X.env.builtins=ya
 above:X.s₀.heap.objs.size<=X.env.locals
 inj:∀x y c,X.env.cells.lookup x=Ya c->X.env.cells.lookup y=Ya c->x=y
 has:∀x,(X.env.kindOf x=Ya .cell\/X.env.kindOf x=Ya .free)->∃c,X.env.cells.lookup x=Ya c
 cab:∀x c,X.fn x=true->X.env.cells.lookup x=Ya c->X.s₀.heap.objs.size<=c
 hd:X.calm=true->X.A.handled=Yb
 frames:X.A.frames=Ya X.stack
 stk:X.stack=X.outer\/(X.stack=X.env::X.outer/\X.env.frame=Ya X.env.locals)
 exf:∀b∈X.ex,b≠X.env.locals/\∀x c,X.env.cells.lookup x=Ya c->c≠b
 bs:∀b o,X.base.get? b=Ya o->X.s₀.heap.get? b=Ya o/\X.H₀ b=Yb
 bsz:X.base.objs.size<=X.s₀.heap.objs.size
 noex:∀b o,X.base.get? b=Ya o->b∉X.ex
 exfs:∀b∈X.ex,b∉X.fs
 funs:X.s₀.heap.FunFrames X.base X.outer
 frf:∀b∈X.fs,X.H₀ b=Yb
structure bH(X:Cx)(pins:List ?AQ)(σ:List (Option V))(H:Hp)(s:Yl):Prop where
 ok:X.Ok
 os:s.os=X.s₀.os
 bare:tI s.gens
 base:Un X.fs X.ex X.H₀ H X.s₀.heap s.heap
 loc:∃m,s.heap.Ns X.env.locals m/\∀(i:Nat) (x:Ym) (v:V),X.N[i]?=Ya x->σ[i]?=Ya (Ya v)->Vis X.env.scope x->∃u,RelV v u/\ap4 X.env s.heap m x u
 cell:∀x c,X.env.cells.lookup x=Ya c->∃v,s.heap.IsCell c v
 free:H X.env.locals=Yb
 freeC:∀x c,X.env.cells.lookup x=Ya c->H c=Yb
 pin:∀p∈X.pn++pins,s.heap.get? p.1=Ya p.2/\H p.1=Yb/\p.1≠X.env.locals/\p.1∉X.fs/\∀v,p.2.data≠.cell v
 hok:xP X.prog X.w H s.heap
 len:σ.length=X.N.length
variable{base:YT}
section
variable{σ:List (Option V)}
theorem Cx.Ok.nofr(ok:X.Ok){o:Y6}(e:X.base.get? b=Ya o):b∉X.fs:=λhb=>by
 have:=(ok.funs.mem hb).1;rw[e]at this;cases this
theorem bH.bs(I:bH X pins σ H s):∀b o,X.base.get? b=Ya o->s.heap.get? b=Ya o/\H b=none:=λb o e=>
 ⟨I.base.keep b o (I.ok.bs b o e).1 (I.ok.bs b o e).2 (I.ok.nofr e) (I.ok.noex b o e),I.base.free b o (I.ok.bs b o e).1 (I.ok.bs b o e).2 (I.ok.noex b o e)⟩
theorem bH.bk(I:bH X pins σ H s):∀b o,X.base.get? b=Ya o->s.heap.get? b=Ya o:=λb o e=>(I.bs b o e).1
theorem bH.mod(I:bH X pins σ H s):Mod X.K X.mg X.base:=I.ok.mod
theorem bH.kIn(I:bH X pins σ H s):X.K.In s.heap:=I.ok.mod.kin.keeps I.bk
theorem bH.lt(I:bH X pins σ H s):X.env.locals<s.heap.objs.size:=let ⟨_,hn,_⟩:=I.loc;hn.lt
theorem bH.sz(I:bH X pins σ H s):X.s₀.heap.objs.size<=s.heap.objs.size:=bP I.ok.above (Y5 I.lt)
theorem bH.nofs(I:bH X pins σ H s)(h:s.heap.objs.size<=a):a∉X.fs:=λhb=>by
 obtain⟨_,o,ho,_⟩:=I.ok.funs.mem hb;exact absurd (YM (Yu ho) (bP I.sz h)) (Y2 _)
theorem bH.cne(I:bH X pins σ H s):∀x c,X.env.cells.lookup x=Ya c->c≠X.env.locals:=λx c e z=>by
 obtain⟨v,o,ho,hd⟩:=I.cell x c e;obtain⟨m,⟨o',es,ep,ho',hd',_⟩,_⟩:=I.loc;rw[z,ho']at ho;cases ho;rw[hd']at hd;cases hd
theorem bH.funs(I:bH X pins σ H s):s.heap.FunFrames X.base X.outer:=by
 have all:∀(l:List m4),(∀b∈frs l,b∈X.fs)->X.s₀.heap.FunFrames X.base l->s.heap.FunFrames X.base l:=by
  intro l
  induction l with
  |nil=>intro _ _;trivial
  |cons env r ih=>
   intro hs hl;obtain⟨hk,⟨L,o,hf,hn,ho,hd⟩,hr⟩:=hl;have hL:L∈X.fs:=hs L (by unfold frs;rw[vi,hf];exact Yf);obtain⟨sl,e⟩:=I.base.slot L o ho (I.ok.frf L hL) hL λz=>I.ok.exfs L z hL;exact⟨hk,⟨L,_,hf,hn,e,hd⟩,ih (λb hb=>hs b (by unfold frs;rw[vi,hf];exact Yh _ hb)) hr⟩
 exact all X.outer (λ_ hb=>hb) I.ok.funs
theorem bH.stack(I:bH X pins σ H s):s.heap.FunFrames X.base X.stack:=by
 rcases I.ok.stk with e|⟨e,hf⟩
 ·rw[e];exact I.funs
 ·rw[e];obtain⟨m,hn,_⟩:=I.loc;refine .cons (by rw[I.ok.kind];decide) hf hn ?_ I.funs;exact B0 (bP I.ok.bsz I.ok.above)
theorem bH.stkSub(I:bH X pins σ H s):∀b∈frs X.stack,b∈X.env.locals::X.fs:=λb hb=>by
 rcases I.ok.stk with e|⟨e,hf⟩
 ·rw[e]at hb;exact Yh _ hb
 ·rw[e]at hb;unfold frs at hb;rw[vi,hf]at hb;exact hb
theorem bH.stkFree(I:bH X pins σ H s):∀b∈frs X.stack,H b=none:=λb hb=>by
 rcases Yz.mp (I.stkSub b hb)with e|hb
 ·rw[e];exact I.free
 ·obtain⟨_,o,ho,_⟩:=I.ok.funs.mem hb;exact I.base.free b o ho (I.ok.frf b hb) λz=>I.ok.exfs b z hb
theorem bH.step(I:bH X pins σ H s)(hch:∀b∈ch,(b∈X.ex\/X.s₀.heap.objs.size<=b)/\b≠X.env.locals/\(∀x c,X.env.cells.lookup x=Ya c->c≠b)/\∀p∈X.pn++pins,p.1≠b)(keep:∀b o,b≠X.env.locals->b∉X.fs->b∉ch->s.heap.get? b=Ya o->H b=Yb->h'.get? b=Ya o)(slot:∀b o,b≠X.env.locals->b∈X.fs->b∉ch->s.heap.get? b=Ya o->H b=Yb->∃sl,h'.get? b=Ya {o with slots:=sl})(free:∀b o,b∉ch->s.heap.get? b=Ya o->H b=Yb->H' b=Yb)(there:∀b o,b∉ch->s.heap.get? b=Ya o->∃o',h'.get? b=Ya o')(tups:∀b xs,H b=Ya (.tup xs)->H' b=Ya (.tup xs))(frzs:∀b o u,H b=Ya (.frz o u)->H' b=Ya (.frz o u))(tbls:∀b ps,H b=Ya (.tbl ps)->∃more,H' b=Ya (.tbl (ps++more)))(ns:∀m,s.heap.Ns X.env.locals m->h'.Ns X.env.locals m)(hok:xP X.prog X.w H' h')(hg:tI g'):
  bH X pins σ H' {s with heap:=h',gens:=g',drawn:=d',toks:=t'}:=by
 have neL:∀b o,X.s₀.heap.get? b=Ya o->b≠X.env.locals:=λb o e=>YF (YM (Yu e) I.ok.above);have neC:∀b o,X.s₀.heap.get? b=Ya o->b∉X.ex->b∉ch:=λb o e hx hb=>by
  rcases(hch b hb).1 with z|z
  ·exact hx z
  ·exact absurd (YM (Yu e) z) (Y2 _)
 have cellK:∀x c,X.env.cells.lookup x=Ya c->∀v,s.heap.IsCell c v->h'.IsCell c v:=λx c e v ⟨o,ho,hd⟩=>by
  have nch:c∉ch:=λz=>(hch c z).2.2.1 x c e rfl;by_cases hc:c∈X.fs
  ·obtain⟨sl,q⟩:=slot c o (I.cne x c e) hc nch ho (I.freeC x c e);exact⟨_,q,hd⟩
  ·exact⟨o,keep c o (I.cne x c e) hc nch ho (I.freeC x c e),hd⟩
 refine⟨I.ok,I.os,hg,⟨λb o e n hb hx=>?_,λb o e n hb hx=>?_,λb o e n hx=>?_,λb o e hx=>?_,λb xs e=>tups b xs (I.base.tups b xs e),λb o xs e=>frzs b o xs (I.base.frzs b o xs e),λb ps e=>?_⟩,?_,λx c e=>?_,?_,λx c e=>?_,λp hp=>?_,hok,I.len⟩
 ·exact keep b o (neL b o e) hb (neC b o e hx) (I.base.keep b o e n hb hx) (I.base.free b o e n hx)
 ·obtain⟨sl,e1⟩:=I.base.slot b o e n hb hx;obtain⟨sl',e2⟩:=slot b _ (neL b o e) hb (neC b o e hx) e1 (I.base.free b o e n hx);exact⟨sl',e2⟩
 ·obtain⟨o',e1⟩:=I.base.there b o e hx;exact free b o' (neC b o e hx) e1 (I.base.free b o e n hx)
 ·obtain⟨o',e1⟩:=I.base.there b o e hx;exact there b o' (neC b o e hx) e1
 ·obtain⟨m1,e1⟩:=I.base.tbls b ps e;obtain⟨m2,e2⟩:=tbls b _ e1;exact⟨m1++m2,by rw[e2,Array.append_assoc]⟩
 ·obtain⟨m,hn,hl⟩:=I.loc;refine⟨m,ns m hn,λi x v e1 e2 e3=>?_⟩;obtain⟨u,r,l⟩:=hl i x v e1 e2 e3;refine⟨u,r,?_⟩;rcases l with l|⟨k,c,e,z⟩
  ·exact .inl l
  ·exact .inr ⟨k,c,e,cellK x c e _ z⟩
 ·obtain⟨v,z⟩:=I.cell x c e;exact⟨v,cellK x c e v z⟩
 ·obtain⟨m,⟨o,_,_,ho,_⟩,_⟩:=I.loc;exact free _ o (λz=>(hch _ z).2.1 rfl) ho I.free
 ·obtain⟨v,o,ho,hd⟩:=I.cell x c e;exact free c o (λz=>(hch c z).2.2.1 x c e rfl) ho (I.freeC x c e)
 ·obtain⟨e,n,ne,nf,d⟩:=I.pin p hp;have nch:p.1∉ch:=λz=>(hch p.1 z).2.2.2 p hp rfl;exact⟨keep p.1 p.2 ne nf nch e n,free p.1 p.2 nch e n,ne,nf,d⟩
theorem bH.un(I:bH X pins σ H s)(u:Un X.fs [] H H' s.heap h')(hok:xP X.prog X.w H' h'):bH X pins σ H' ?CK:=by
 obtain⟨m,⟨o,es,ep,ho,r⟩,_⟩:=id I.loc;obtain⟨sl,hL⟩:=u.any ho I.free ?N;exact I.step (g':=s.gens) (d':=s.drawn) (ch:=[]) (λ_ z=>nomatch z) (λb o _ hb _ e n=>u.keep b o e n hb ?N) (λb o _ hb _ e n=>u.slot b o e n hb ?N) (λb o _ e n=>u.free b o e n ?N) (λb o _ e=>u.there b o e ?N) u.tups u.frzs u.tbls (λm' hm=>by
  obtain⟨o',es',ep',ho',r'⟩:=hm;rw[ho]at ho';cases ho';exact⟨_,es',ep',hL,r'⟩) hok I.bare
theorem bH.call(I:bH X pins σ H s)(u:Un (frs X.stack) ch H H' s.heap h')(hok:xP X.prog X.w H' h')(hg:tI g')(hch:∀b∈ch,(b∈X.ex\/X.s₀.heap.objs.size<=b)/\b≠X.env.locals/\(∀x c,X.env.cells.lookup x=Ya c->c≠b)/\∀p∈X.pn++pins,p.1≠b):
  bH X pins σ H' {s with heap:=h',gens:=g',drawn:=d',toks:=t'}:=by
 obtain⟨m,⟨o,es,ep,ho,r⟩,_⟩:=id I.loc;obtain⟨sl,hL⟩:=u.any ho I.free λz=>(hch _ z).2.1 rfl;exact I.step (ch:=ch) hch (λb o hL hb hc e n=>u.keep b o e n (λz=>(Yz.mp (I.stkSub b z)).elim hL hb) hc) (λb o _ _ hc e n=>u.any e n hc) (λb o hc e n=>u.free b o e n hc) (λb o hc e=>u.there b o e hc) u.tups u.frzs u.tbls (λm' hm=>by
  obtain⟨o',es',ep',ho',r'⟩:=hm;rw[ho]at ho';cases ho';exact⟨_,es',ep',hL,r'⟩) hok hg
theorem bH.turned(I:bH X pins σ H s)(k:∀b o,b≠it->s.heap.get? b=Ya o->h'.get? b=Ya o)(hn:H it=Yb)(hL:it≠X.env.locals)(h1:it∈X.ex\/X.s₀.heap.objs.size<=it)(h2:∀x c,X.env.cells.lookup x=Ya c->c≠it)(h3:∀p∈X.pn++pins,p.1≠it):bH X pins σ H ?CK:=by
 have nit:∀b u,H b=Ya u->b≠it:=λb u e z=>by rw[z,hn]at e;cases e
 refine I.step (g':=s.gens) (d':=s.drawn) (ch:=[it]) (λb hb=>?_) (λb o _ _ hc e _=>k b o ?BX e) ?GW (λ_ _ _ _ n=>n)
  (λb o hc e=>⟨o,k b o ?BX e⟩) (λ_ _ e=>e) ?IQ (λb ps e=>⟨#[],by rw[e];simp⟩) (λm hm=>?_) (λb u e=>?_) I.bare
 ·have e:b=it:=by simpa using hb
  subst e;exact⟨h1,hL,h2,h3⟩
 ·obtain⟨o,es,ep,ho,r⟩:=hm;exact⟨o,es,ep,k _ o (Ne.symm hL) ho,r⟩
 ·refine(I.hok b u e).stay (λc v hc q=>k c v ?_ q) (λ_ q=>q) λ_ _ q=>q;rcases hc with z|z
  ·rw[z];exact nit b u e
  ·exact nit c _ z
theorem bH.tok(I:bH X pins σ H s)(t:Nat):bH X pins σ H {s with toks:=t}:=I.un (h':=s.heap) (t':=t) Un.refl I.hok
theorem bH.kept(I:bH X pins σ H s)(k:∀b u,s.heap.get? b=Ya u->h'.get? b=Ya u):bH X pins σ H ?CK:=I.un (Un.kept k) (I.hok.kept k)
theorem bH.laid(I:bH X pins σ H s)(k:∀b u,s.heap.get? b=Ya u->h'.get? b=Ya u)(hp:s.heap.objs.size<=a)(new:gQ X.prog X.w (upd H a o) h' a o):
  bH X pins σ (upd H a o) ?CK:=I.un (Un.laid k hp (I.hok.fresh hp)) (I.hok.laid k hp new)
theorem bH.write{x e:Yc}{o:HO}{t':Nat}(I:bH X pins σ H s)(mu:Mut (H x))(he:e=x\/H e=Ya (.own x))(k:∀b u,b≠e->s.heap.get? b=Ya u->h'.get? b=Ya u)(heo:∃u,h'.get? e=Ya u)
  (new:gQ X.prog X.w (upd H x o) h' x o):bH X pins σ (upd H x o) ?CK:=I.un (Un.write mu he k heo) (I.hok.write mu he k heo new)
theorem bH.pins_of{pins':List ?AQ}(I:bH X pins σ H s)(h:∀p∈pins',s.heap.get? p.1=Ya p.2/\H p.1=Yb/\p.1≠X.env.locals/\p.1∉X.fs/\∀v,p.2.data≠.cell v):bH X pins' σ H s:=
 ⟨I.ok,I.os,I.bare,I.base,I.loc,I.cell,I.free,I.freeC,λp hp=>(e8.mp hp).elim (λz=>I.pin p (kQ _ z)) (h p),I.hok,I.len⟩
theorem WP(hN:N.Nodup)(a:N[i]?=Ya x)(b:N[j]?=Ya x):i=j:=by
 obtain⟨h1,e1⟩:=Ys.mp a;obtain⟨h2,e2⟩:=Ys.mp b;exact(List.getElem_inj hN).mp (e1.trans e2.symm)
theorem Uz{Q:Unit->Yl->Prop}(I:bH X pins σ H s)(hN:X.N.Nodup)(hi:X.N[i]?=Ya x)(hx:Loc X.env.scope x)(r:RelV v u)(h:∀s',bH X pins (σ.set i (Ya v)) H s'->(∃a,fm a s.heap s'.heap/\(a=X.env.locals\/X.env.cells.lookup x=Ya a))->Q () s')(hf:X.fn x=true\/X.env.scope.names.lookup x=Ya .local:=by first|exact .inl rfl|exact .inr rfl|assumption):Yn M A (storeName X.env x u) Q E s:=by
 obtain⟨m,hn,hl⟩:=id I.loc;have hcls:(X.env.scope.kind==.class||(X.env.scope.kind==.module&&X.env.locals !=X.env.globals))=false:=by rw[I.ok.kind];rfl
 have hiσ:i<σ.length:=by rw[I.len];exact(Ys.mp hi).1
 have cne:=I.cne;have tracked:∀{a:Yc} {h':YT},(∃o,s.heap.get? a=Ya o/\H a=Yb)->fm a s.heap h'->xP X.prog X.w H h':=fun{a h'} ha hs b ob e=>by
  obtain⟨_,_,hfree⟩:=ha;refine(I.hok b ob e).stay (λc w' hc q=>(hs.2 c ?_).trans q) (λ_ q=>q) λ_ _ q=>q;rintro rfl;rcases hc with rfl|hc
  ·rw[hfree]at e;cases e
  ·rw[hfree]at hc;cases hc
 rcases hx with hk|hk
 ·refine wpAny_storeName_local hk hn (λh' hn' hs=>?_) hcls;obtain⟨oL,_,_,hoL,_⟩:=id hn;refine h _ ⟨I.ok,I.os,I.bare,⟨λb o e n hb hx=>?_,λb o e n hb hx=>?_,I.base.free,λb o e hx=>?_,I.base.tups,I.base.frzs,I.base.tbls⟩,⟨_,hn',λj y v' e1 e2 e3=>?_⟩,λy c e=>?_,I.free,I.freeC,λp hp=>?_,tracked ⟨oL,hoL,I.free⟩ hs,by simpa using I.len⟩ ⟨_,hs,.inl rfl⟩
  ·exact(hs.2 b (YF (YM (Yu e) I.ok.above))).trans (I.base.keep b o e n hb hx)
  ·obtain⟨sl,e1⟩:=I.base.slot b o e n hb hx;exact⟨sl,(hs.2 b (YF (YM (Yu e) I.ok.above))).trans e1⟩
  ·obtain⟨o',e1⟩:=I.base.there b o e hx;exact⟨o',(hs.2 b (YF (YM (Yu e) I.ok.above))).trans e1⟩
  ·by_cases hj:j=i
   ·subst hj;rw[hi]at e1;cases e1;rw[AV hiσ]at e2;cases e2;exact⟨u,r,.inl ⟨hk,by simp⟩⟩
   ·rw[Cb (Ne.symm hj)]at e2;obtain⟨u',r',q⟩:=hl j y v' e1 e2 e3;refine⟨u',r',?_⟩;rcases q with⟨k,e⟩|⟨k,c,e,z⟩
    ·refine .inl ⟨k,?_⟩;have:y≠x:=λe=>hj (WP hN e1 (e▸hi));simp[this,e]
    ·exact .inr ⟨k,c,e,z.sameBut hs (cne y c e)⟩
  ·obtain⟨w',z⟩:=I.cell y c e;exact⟨w',z.sameBut hs (cne y c e)⟩
  ·obtain⟨e,n,ne,nf,d⟩:=I.pin p hp;exact⟨(hs.2 p.1 ne).trans e,n,ne,nf,d⟩
 ·have hfn:X.fn x=true:=by
   rcases hf with z|z
   ·exact z
   ·rw[z]at hk;cases hk
  obtain⟨c,hc⟩:=I.ok.has x (.inl hk);obtain⟨w',z⟩:=I.cell x c hc;refine wpAny_storeName_cell I.ok.kind hk hc z (λh' hc' hs=>?_);obtain⟨oc,hoc,hocd⟩:=id z;refine h ?AM ⟨I.ok,I.os,I.bare,⟨λb o e n hb hx=>?_,λb o e n hb hx=>?_,I.base.free,λb o e hx=>?_,I.base.tups,I.base.frzs,I.base.tbls⟩,⟨m,hn.sameBut hs (Ne.symm (cne x c hc)),λj y v' e1 e2 e3=>?_⟩,λy c' e=>?_,I.free,I.freeC,λp hp=>?_,tracked ⟨oc,hoc,I.freeC x c hc⟩ hs,by simpa using I.len⟩ ⟨c,hs,.inr hc⟩
  ·exact(hs.2 b (YF (YM (Yu e) (I.ok.cab x c hfn hc)))).trans (I.base.keep b o e n hb hx)
  ·obtain⟨sl,e1⟩:=I.base.slot b o e n hb hx;exact⟨sl,(hs.2 b (YF (YM (Yu e) (I.ok.cab x c hfn hc)))).trans e1⟩
  ·obtain⟨o',e1⟩:=I.base.there b o e hx;exact⟨o',(hs.2 b (YF (YM (Yu e) (I.ok.cab x c hfn hc)))).trans e1⟩
  ·by_cases hj:j=i
   ·subst hj;rw[hi]at e1;cases e1;rw[AV hiσ]at e2;cases e2;exact⟨u,r,.inr ⟨.inl hk,c,hc,hc'⟩⟩
   ·rw[Cb (Ne.symm hj)]at e2;obtain⟨u',r',q⟩:=hl j y v' e1 e2 e3;refine⟨u',r',?_⟩;rcases q with q|⟨k,c',e,z'⟩
    ·exact .inl q
    ·refine .inr ⟨k,c',e,z'.sameBut hs ?_⟩;rintro rfl;exact hj (WP hN e1 (I.ok.inj _ _ _ e hc▸hi))
  ·by_cases hcc:c'=c
   ·subst hcc;exact⟨_,hc'⟩
   ·obtain⟨w2,z2⟩:=I.cell y c' e;exact⟨w2,z2.sameBut hs hcc⟩
  ·obtain⟨e,n,ne,nf,d⟩:=I.pin p hp;refine⟨(hs.2 p.1 ?_).trans e,n,ne,nf,d⟩;intro q;rw[q,hoc]at e;have q':oc=p.2:=YK e;exact d w' (by rw[<-q'];exact hocd)
theorem XR{Q:Unit->Yl->Prop}(I:bH X pins σ H s)(hN:X.N.Nodup)(hi:X.N[i]?=Ya x)(hx:Loc X.env.scope x)(r:RelV v u)(h:∀s',bH X pins (σ.set i (Ya v)) H s'->Q () s')(hf:X.fn x=true\/X.env.scope.names.lookup x=Ya .local:=by first|exact .inl rfl|exact .inr rfl|assumption):Yn M A (storeName X.env x u) Q E s:=
 Uz I hN hi hx r (λs' I' _=>h s' I') hf
theorem bH.call'(I:bH X pins σ H s)(ho:s'.os=s.os)(u:Un (frs X.stack) ch H H' s.heap s'.heap)(hok:xP X.prog X.w H' s'.heap)(hg:tI s'.gens)(hch:∀b∈ch,(b∈X.ex\/X.s₀.heap.objs.size<=b)/\b≠X.env.locals/\(∀x c,X.env.cells.lookup x=Ya c->c≠b)/\∀p∈X.pn++pins,p.1≠b):bH X pins σ H' s':=by
 obtain⟨h',g',d',t',o'⟩:=s';have e:o'=s.os:=ho;subst e;exact I.call (g':=g') (t':=t') (d':=d') u hok hg hch
end
abbrev XK:=Ye->Option Yc->Hp->Prop
abbrev St:=List (Option V)
variable{σ:St}
abbrev VK:=V->Hp->Prop
abbrev TE:=St->Hp->VK->Prop
variable{ta tb te tl tv td ty:TE}
abbrev TT:=St->Hp->(Bool->Hp->Prop)->Prop
variable{tc:TT}
abbrev TA:=St->Hp->(List V->Hp->Prop)->Prop
variable{t:TA}
structure Iu where
 nx:St->Hp->Prop
 rt:VK
 bk:St->Hp->Prop:=λ_ _=>False
 ct:St->Hp->Prop:=λ_ _=>False
variable{D:Iu}
abbrev TS:=Iu->St->Hp->Prop
def EP(X:Cx)(pins:List ?AQ)(σ:St)(Q:VK)(u:Ye)(s':Yl):Prop:=∃v H',bH X pins σ H' s'/\RelV v u/\Q v H'
def TP(X:Cx)(pins:List ?AQ)(σ:St)(Q:Bool->Hp->Prop)(b:Bool)(s':Yl):Prop:=∃H',bH X pins σ H' s'/\Q b H'
def AP(X:Cx)(pins:List ?AQ)(σ:St)(Q:List V->Hp->Prop)(us:List Ye)(s':Yl):Prop:=∃vs H',bH X pins σ H' s'/\Vals vs us/\Q vs H'
def SP(X:Cx)(pins:List ?AQ)(D:Iu)(f:Flow)(s':Yl):Prop:=
 match f with
 | .next=>∃σ' H',bH X pins σ' H' s'/\D.nx σ' H'
 | .brk=>∃σ' H',bH X pins σ' H' s'/\D.bk σ' H'
 | .cont=>∃σ' H',bH X pins σ' H' s'/\D.ct σ' H'
 | .ret u=>∃v σ' H',bH X pins σ' H' s'/\RelV v u/\D.rt v H'
def PE(X:Cx)(e:YZ)(t:TE):Prop:=
 ∀(pins:List ?AQ) (s:Yl) (σ:St) (H:Hp) (Q:VK),bH X pins σ H s->t σ H Q->Yn ?M X.A (ay e X.env) ?BT X.xe s
def PT(X:Cx)(e:YZ)(t:TT):Prop:=
 ∀(pins:List ?AQ) (s:Yl) (σ:St) (H:Hp) (Q:Bool->Hp->Prop),bH X pins σ H s->t σ H Q->Yn ?M X.A (DC e X.env (ay e X.env)) (TP X pins σ Q) X.xe s
def PW(X:Cx)(e:YZ)(t:TT):Prop:=
 ∀(whole:w4 Ye) (pins:List ?AQ) (s:Yl) (σ:St) (H:Hp) (Q:Bool->Hp->Prop),bH X pins σ H s->t σ H Q->Yn ?M X.A (DC e X.env whole) (TP X pins σ Q) X.xe s
theorem PW.pt{t:TT}(h:PW X e t):PT X e t:=h _
def PA(X:Cx)(es:List YZ)(t:TA):Prop:=
 ∀(pos:iL) (pins:List ?AQ) (s:Yl) (σ:St) (H:Hp) (Q:List V->Hp->Prop),bH X pins σ H s->t σ H Q->Yn ?M X.A (spliced (dk pos ?CY)) (AP X pins σ Q) X.xe s
def PS(X:Cx)(st:YJ)(t:TS):Prop:=
 ∀(pins:List ?AQ) (s:Yl) (σ:St) (H:Hp) (D:Iu),bH X pins σ H s->t D σ H->Yn ?M X.A (exec st X.env) (SP X pins D) X.xe s
def PSs(X:Cx)(st:List YJ)(t:TS):Prop:=
 ∀(pins:List ?AQ) (s:Yl) (σ:St) (H:Hp) (D:Iu),bH X pins σ H s->t D σ H->Yn ?M X.A (execs st X.env) (SP X pins D) X.xe s
theorem eZ{α:Type}{t:w4 α}{Q Q':α->Yl->Prop}(h:Yn M A t Q E s)(hQ:∀a s,Q a s->Q' a s):Yn M A t Q' E s:=ai h hQ λ_ _ x=>x
section
theorem bin{a b:YZ}(ha:PE X a ta)(hb:PE X b tb)(I:bH X pins σ H s)(h:ta σ H λx H1=>tb σ H1 λy H2=>R x y H2){α:Type}{Q:α->Yl->Prop}{f:Ye->Ye->w4 α}(hf:∀v u s2 x y H2,bH X pins σ H2 s2->RelV x v->RelV y u->R x y H2->Yn ?M X.A (f v u) Q X.xe s2):
  Yn ?M X.A (ay a X.env) ?G8 X.xe s:=by
 refine eZ ?A6 λv s1 zz=>?_;obtain⟨x,H1,I1,r1,q1⟩:=zz;refine eZ (hb pins s1 σ H1 _ I1 q1) λu s2 zz=>?_;obtain⟨y,H2,I2,r2,q2⟩:=zz;exact hf v u s2 x y H2 I2 r1 r2 q2
def vO(i:Nat):TE:=λσ H Q=>∃v,σ[i]?=Ya (Ya v)/\Q v H
def tC(v:V):TE:=λ_ H Q=>Q v H
theorem amt(hN:X.N[i]?=Ya x)(hv:Vis X.env.scope x)(hd:(x==("__debug__":Ym))=false:=by decide)(hcd:(x==("__classdict__":Ym))=false:=by decide):PE X (.Name x pos) (vO i):=by
 intro pins s σ H Q I h;obtain⟨v,e,h⟩:=h;obtain⟨m,hn,hl⟩:=I.loc;obtain⟨u,r,l⟩:=hl i x v hN e hv;have fin:EP X pins σ Q u s:=⟨v,H,I,r,h⟩;rcases l with⟨hk,hm⟩|⟨hk,c,hc,hcell⟩
 ·exact FU (wpAny_loadName_local I.ok.kind hk hn hm fin) hd
 ·rcases hk with hk|hk
  ·exact FU (wpAny_loadName_cell I.ok.kind hk hc hcell fin) hd
  ·exact FU (wpAny_loadName_free I.ok.kind hk hc hcell fin hcd) hd
theorem aB{i j pos}:PE X (.Constant (.int i) j pos) (tC (.int i)):=λ_ _ _ H _ I h=>wpAny_Constant_int ⟨.int i,H,I.tok _,⟨_,rfl⟩,h⟩
theorem qZ{b j pos}:PE X (.Constant (.bool b) j pos) (tC (.bl b)):=λ_ _ _ H _ I h=>Constant_bool ⟨.bl b,H,I,rfl,h⟩
theorem cA{j pos}:PE X (.Constant .none j pos) (tC .non):=λ_ _ _ H _ I h=>Constant_none ⟨.non,H,I,rfl,h⟩
theorem oV{x j pos}:PE X (.Constant (.str x) j pos) (tC (.str x)):=λ_ _ _ H _ I h=>Calls.Constant_str ⟨.str x,H,I.tok _,⟨_,rfl⟩,h⟩
def Gl(X:Cx)(x:Ym):Prop:=X.env.kindOf x=Ya .globalImplicit
theorem Jz(I:bH X pins σ H s)(hg:Gl X x)(hm:X.mg x=Ya u)(h:Q u s)(hd:(x==("__debug__":Ym))=false:=by decide):Yn ?M X.A (ay (.Name x pos) X.env) Q E s:=
 xh I.ok.kind hg (Calls.loadGlobal_global (by rw[I.ok.glob];exact I.mod.glob.keeps I.bk) hm h) hd
theorem Ar(I:bH X pins σ H s)(hg:Gl X x)(hm:X.mg x=Yb)(hv:i0 x=Ya u)(h:Q u s)(hn:x≠"__name__":=by decide)(hd:(x==("__debug__":Ym))=false:=by decide):Yn ?M X.A (ay (.Name x pos) X.env) Q E s:=by
 obtain⟨mb,h1,h2⟩:=I.mod.blt;exact xh I.ok.kind hg (Calls.loadGlobal_builtin (by rw[I.ok.glob];exact I.mod.glob.keeps I.bk) hm (by rw[I.ok.blt];exact h1.keeps I.bk) ((h2 x hn).trans hv) h) hd
theorem Wj(hg:Gl X x)(hm:X.mg x=Ya u)(r:RelV v u)(hd:(x==("__debug__":Ym))=false:=by decide):PE X (.Name x pos) (tC v):=
 λ_ _ _ H _ I h=>Jz I hg hm ⟨v,H,I,r,h⟩ hd
theorem aji(hg:Gl X x)(hm:X.mg x=Yb)(hv:i0 x=Ya u)(r:RelV v u)(hn:x≠"__name__":=by decide)(hd:(x==("__debug__":Ym))=false:=by decide):PE X (.Name x pos) (tC v):=
 λ_ _ _ H _ I h=>Ar I hg hm hv ⟨v,H,I,r,h⟩ hn hd
variable{a b:YZ}
def PC(X:Cx)(op:EA)(a b:YZ)(t:TE):Prop:=
 ∀(pins:List ?AQ) (s:Yl) (σ:St) (H:Hp) (Q:VK),bH X pins σ H s->t σ H Q->
  Yn ?M X.A (ay a X.env) (λv s₁=>Yn ?M X.A (ay b X.env) (λu s₂=>Yn ?M X.A (cS op v u) ?BT X.xe s₂) X.xe s₁) X.xe s
def tB(t:TE):TT:=λσ H Q=>t σ H λx H1=>∃c,x=.bl c/\Q c H1
theorem akN{t:TE}(h:PC X op a b t)(h1:sN op b=false:=by first|exact nobehind _ ?B ?B|rfl):PT X (.Compare a [op] [b] pos) (tB t):=by
 intro pins s σ H Q I hw;refine BD (eZ (h pins s σ H _ I hw) λv s1 h1=>eZ h1 λu s2 h2=>eZ h2 λc s3 zz=>?_) h1;obtain⟨x,H1,I1,r1,q1⟩:=zz;obtain⟨d,rfl,q⟩:=q1;cases r1;exact hG ⟨H1,I1,q⟩
theorem afP{t:TE}(h:PE X e t)(he:∀whole,DC e X.env whole=(do let v<-whole;rl e.pos;ny [v] (truthy v)):=by intro _;rfl):PT X e (tB t):=by
 intro pins s σ H Q I hw;refine IL (eZ (h pins s σ H _ I hw) λv s1 zz=>?_) (he _);obtain⟨x,H1,I1,r1,q1⟩:=zz;obtain⟨d,rfl,q⟩:=q1;cases r1;exact hG ⟨H1,I1,q⟩
variable{tA tB':TT}{rest:List YZ}
def aoZ(t u:TT):TT:=λσ H Q=>t σ H λc H1=>if c=true then u σ H1 Q else Q false H1
def tOr(t u:TT):TT:=λσ H Q=>t σ H λc H1=>if c=true then Q true H1 else u σ H1 Q
def aoE(t:TT):TT:=λσ H Q=>t σ H λc H1=>Q (!c) H1
theorem qO(ha:PT X a tA):PW X (.BoolOp .And [a] pos) tA:=by
 intro wh pins s σ H Q I h;refine isTrue_and (eZ (ha pins s σ H Q I h) λc s1 e=>?_);cases c with
 |true=>exact isTrue_and_nil e
 |false=>exact e
theorem age(ha:PT X a tA):PW X (.BoolOp .Or [a] pos) tA:=by
 intro wh pins s σ H Q I h;refine isTrue_or (eZ (ha pins s σ H Q I h) λc s1 e=>?_);cases c with
 |false=>exact isTrue_or_nil e
 |true=>exact e
theorem uV(ha:PT X a tA)(hb:PW X (.BoolOp .And (b::rest) pos) tB'):PW X (.BoolOp .And (a::b::rest) pos) (aoZ tA tB'):=by
 intro wh pins s σ H Q I h;refine isTrue_and (eZ ?A6 λc s1 zz=>?_);obtain⟨H1,I1,q1⟩:=zz;cases c with
 |true=>exact hb wh pins s1 σ H1 Q I1 q1
 |false=>exact⟨H1,I1,q1⟩
theorem akx(ha:PT X a tA)(hb:PW X (.BoolOp .Or (b::rest) pos) tB'):PW X (.BoolOp .Or (a::b::rest) pos) (tOr tA tB'):=by
 intro wh pins s σ H Q I h;refine isTrue_or (eZ ?A6 λc s1 zz=>?_);obtain⟨H1,I1,q1⟩:=zz;cases c with
 |true=>exact⟨H1,I1,q1⟩
 |false=>exact hb wh pins s1 σ H1 Q I1 q1
theorem Az(ha:PT X a tA):PT X (.UnaryOp .Not a pos) (aoE tA):=by
 intro pins s σ H Q I h;exact isTrue_not (ha pins s σ H (λc H1=>Q (!c) H1) I h)
def akH(ta tb:TE):TE:=λσ H Q=>ta σ H λx H1=>∃c,x=.bl c/\if c=true then tb σ H1 Q else Q (.bl false) H1
def aoA(ta tb:TE):TE:=λσ H Q=>ta σ H λx H1=>∃c,x=.bl c/\if c=true then Q (.bl true) H1 else tb σ H1 Q
def aks(ta:TE):TE:=λσ H Q=>ta σ H λx H1=>∃c,x=.bl c/\Q (.bl (!c)) H1
theorem uA{op}{t:TE}(h:PE X a t):PE X (.BoolOp op [a] pos) t:=λpins s σ H Q I hw=>BoolOp_one (h pins s σ H Q I hw)
theorem uz(ha:PE X a ta)(hb:PE X (.BoolOp .And (b::rest) pos) tb):PE X (.BoolOp .And (a::b::rest) pos) (akH ta tb):=by
 intro pins s σ H Q I h;refine BoolOp_and (eZ ?A6 λv s1 zz=>?_);obtain⟨x,H1,I1,r1,q1⟩:=zz;obtain⟨c,rfl,q1⟩:=q1;cases r1;refine hG ?_;cases c with
 |true=>exact hb pins s1 σ H1 Q I1 q1
 |false=>exact⟨.bl false,H1,I1,rfl,q1⟩
theorem aoV(ha:PE X a ta)(hb:PE X (.BoolOp .Or (b::rest) pos) tb):PE X (.BoolOp .Or (a::b::rest) pos) (aoA ta tb):=by
 intro pins s σ H Q I h;refine BoolOp_or (eZ ?A6 λv s1 zz=>?_);obtain⟨x,H1,I1,r1,q1⟩:=zz;obtain⟨c,rfl,q1⟩:=q1;cases r1;refine hG ?_;cases c with
 |false=>exact hb pins s1 σ H1 Q I1 q1
 |true=>exact⟨.bl true,H1,I1,rfl,q1⟩
theorem amT(ha:PE X a ta):PE X (.UnaryOp .Not a pos) (aks ta):=by
 intro pins s σ H Q I h;refine UnaryOp_ (eZ ?A6 λv s1 zz=>?_);obtain⟨x,H1,I1,r1,q1⟩:=zz;obtain⟨c,rfl,q1⟩:=q1;cases r1;exact not_of (hG ⟨.bl (!c),H1,I1,rfl,q1⟩)
def tIf(t:TT)(ta tb:TE):TE:=λσ H Q=>t σ H λc H1=>if c=true then ta σ H1 Q else tb σ H1 Q
theorem rM(hc:PT X c tA)(ha:PE X a ta)(hb:PE X b tb):PE X (.IfExp c a b pos) (tIf tA ta tb):=by
 intro pins s σ H Q I h;refine wpAny_IfExp (eZ (hc pins s σ H _ I h) λd s1 zz=>?_);obtain⟨H1,I1,q1⟩:=zz;cases d with
 |true=>exact ha pins s1 σ H1 Q I1 q1
 |false=>exact hb pins s1 σ H1 Q I1 q1
end
def bK(K:Yd)(H:Hp)(a:Yc)(xs:List V):Prop:=
 Rd H a (.lst xs)\/
  ∃(o:Y6) (its:Array Ye) (n:Nat),K.lookup a=Ya o/\o.cls=.type "list"/\o.dict=Yb/\o.data=.seq its n/\its.size<=YB/\Vals xs its.toList
def dC(K:Yd)(H:Hp)(a:Yc)(xs:List V):Prop:=
 Rd H a (.tup xs)\/
  ∃(o:Y6) (its:Array Ye) (n:Nat),K.lookup a=Ya o/\o.cls=.type "tuple"/\o.data=.seq its n/\its.size<=YB/\Vals xs its.toList
noncomputable def ap0:Ye->Option V
 | .none=>Ya .non
 | .bool b=>Ya (.bl b)
 | .int i _=>Ya (.int i)
 | .str x _=>Ya (.str x)
 | .bytes b _=>Ya (.byt b)
 | .float b _=>Ya (.flt b)
 | .ref a=>Ya (.ref a)
 | .type n=>Ya (.ty n)
 |_=>Yb
theorem RelV.abs{x:V}(r:RelV x u):ap0 u=Ya x:=by
 cases x with
 |non=>cases r;rfl
 |bl _=>cases r;rfl
 |int _=>obtain⟨t,rfl⟩:=r;rfl
 |str _=>obtain⟨t,rfl⟩:=r;rfl
 |byt _=>obtain⟨t,rfl⟩:=r;rfl
 |flt _=>obtain⟨t,rfl⟩:=r;rfl
 |ref _=>cases r;rfl
 |ty _=>cases r;rfl
theorem RelV.inj{x:V}(r:RelV x u)(q:RelV y u):x=y:=YK (r.abs.symm.trans q.abs)
theorem Vals.inj:∀{xs ys:List V} {us:List Ye},Vals xs us->Vals ys us->xs=ys:=by
 intro xs ys us h
 induction h generalizing ys with
 |nil=>
  intro h;cases h;rfl
 |cons r t ih=>
  intro h;cases h with|cons r' t'=>
  rw[r.inj r',ih t']
section
variable{xs ys:List V}
theorem bK.of{K:Yd}(h:H a=Ya (.lst xs)):bK K H a xs:=.inl (.inl h)
theorem dC.of{K:Yd}(h:H a=Ya (.tup xs)):dC K H a xs:=.inl (.inl h)
theorem bH.list(I:bH X pins σ H s)(h:bK X.K H a xs):∃its:List Ye,Vals xs its/\PlainL s.heap a its.toArray/\xs.length<=YB:=by
 rcases h with h|⟨o,its,n,hk,hc,hd,hs,hz,r⟩
 ·obtain⟨z,its,n,r,e⟩:=h.ok I.hok;exact⟨its,r,⟨_,n,e,rfl,rfl,rfl⟩,z⟩
 ·refine⟨its.toList,r,⟨o,n,I.kIn a o hk,hc,hd,by simpa using hs⟩,?_⟩;have e:=r.length;simp only[aE]at e;omega
theorem bH.tuple(I:bH X pins σ H s)(h:dC X.K H a xs):∃its:List Ye,Vals xs its/\AH s.heap a its.toArray/\xs.length<=YB:=by
 rcases h with h|⟨o,its,n,hk,hc,hs,hz,r⟩
 ·obtain⟨z,its,r,p⟩:=h.ok I.hok;exact⟨its,r,p.tup,z⟩
 ·refine⟨its.toList,r,⟨o,I.kIn a o hk,hc,n,by simpa using hs⟩,?_⟩;have e:=r.length;simp only[aE]at e;omega
theorem bH.list_inj(I:bH X pins σ H s)(h:bK X.K H a xs)(h':bK X.K H a ys):xs=ys:=by
 obtain⟨its,r,⟨o,n,e,_,_,d⟩,_⟩:=I.list h;obtain⟨its',r',⟨o',n',e',_,_,d'⟩,_⟩:=I.list h';rw[e]at e';cases e';rw[d]at d';injection d' with d1 _;have:its=its':=by simpa using congrArg DD d1
 subst this;exact r.inj r'
theorem bH.tuple_inj(I:bH X pins σ H s)(h:dC X.K H a xs)(h':dC X.K H a ys):xs=ys:=by
 obtain⟨its,r,⟨o,e,_,n,d⟩,_⟩:=I.tuple h;obtain⟨its',r',⟨o',e',_,n',d'⟩,_⟩:=I.tuple h';rw[e]at e';cases e';rw[d]at d';injection d' with d1 _;have:its=its':=by simpa using congrArg DD d1
 subst this;exact r.inj r'
end
noncomputable abbrev Cx.wish(X:Cx)(E:Ye->Yl->Prop):Cx:={X with xe:=E}
noncomputable abbrev Cx.nox(X:Cx):Cx:=X.wish λ_ _=>False
theorem Cx.Ok.wish(ok:X.Ok)(E:Ye->Yl->Prop):(X.wish E).Ok:=
 ⟨ok.mod,ok.kind,ok.glob,ok.blt,ok.above,ok.inj,ok.has,ok.cab,ok.hd,ok.frames,ok.stk,ok.exf,ok.bs,ok.bsz,ok.noex,ok.exfs,ok.funs,ok.frf⟩
theorem Cx.Ok.unwish(ok:(X.wish E).Ok):X.Ok:=
 ⟨ok.mod,ok.kind,ok.glob,ok.blt,ok.above,ok.inj,ok.has,ok.cab,ok.hd,ok.frames,ok.stk,ok.exf,ok.bs,ok.bsz,ok.noex,ok.exfs,ok.funs,ok.frf⟩
section
theorem bH.wish(I:bH X pins σ H s)(E:Ye->Yl->Prop):bH (X.wish E) pins σ H s:=⟨I.ok.wish E,I.os,I.bare,I.base,I.loc,I.cell,I.free,I.freeC,I.pin,I.hok,I.len⟩
theorem bH.unwish(I:bH (X.wish E) pins σ H s):bH X pins σ H s:=⟨I.ok.unwish,I.os,I.bare,I.base,I.loc,I.cell,I.free,I.freeC,I.pin,I.hok,I.len⟩
theorem SP.unwish{f:Flow}(h:SP (X.wish E) pins D f s'):SP X pins D f s':=by
 cases f with
 |next=>obtain⟨σ',H',I,q⟩:=h;exact⟨σ',H',I.unwish,q⟩
 |brk=>obtain⟨σ',H',I,q⟩:=h;exact⟨σ',H',I.unwish,q⟩
 |cont=>obtain⟨σ',H',I,q⟩:=h;exact⟨σ',H',I.unwish,q⟩
 |ret u=>obtain⟨v,σ',H',I,r,q⟩:=h;exact⟨v,σ',H',I.unwish,r,q⟩
theorem PSs.nox{st:List YJ}{t:TS}(h:PSs X.nox st t):PSs X st t:=λpins s σ H D I hw=>
 ai (h pins s σ H D (I.wish _) hw) (λ_ _ q=>q.unwish) λ_ _ z=>fh z
end
section
variable{st:YJ}{rest:List YJ}{t u:TS}
def adI:TS:=λD σ H=>D.nx σ H
def aJ(t u:TS):TS:=λD σ H=>t {D with nx:=u D} σ H
theorem bN:PSs X [] adI:=λ_ _ σ H _ I h=>ub ⟨σ,H,I,h⟩
theorem ak(h1:PS X st t)(h2:PSs X rest u):PSs X (st::rest) (aJ t u):=by
 intro pins s σ H D I h;refine Fc (eZ (h1 pins s σ H {D with nx:=u D} I h) λf s1 q=>?_);cases f with
 |next=>
  obtain⟨σ',H',I',q⟩:=q;exact h2 pins s1 σ' H' D I' q
 |ret v=>exact q
 |brk=>exact q
 |cont=>exact q
theorem aq(h1:PS X st t):PSs X [st] t:=by
 intro pins s σ H D I h;refine Fc (eZ (h1 pins s σ H D I h) λf s1 q=>?_);cases f with
 |next=>exact ub q
 |ret v=>exact q
 |brk=>exact q
 |cont=>exact q
theorem bH.quiet(I:bH X pins σ H s):interactive X.env=false:=by simp[interactive,I.ok.kind]
def adp(te:TE):TS:=λD σ H=>te σ H λ_ H1=>D.nx σ H1
theorem aP(he:PE X e te)(hs:w8 e Yb pos.line X.env=pure false:=by rfl):PS X (.Expr e pos) (adp te):=by
 intro pins s σ H D I h;exact wpAny_Expr_any (eZ ?AY λv s1 ⟨x,H1,I1,r1,q1⟩=>⟨σ,H1,I1,q1⟩) I.quiet hs
def amW(te:TE):TS:=λD σ H=>te σ H D.rt
theorem aX(he:PE X e te):PS X (.Return (Ya e) pos) (amW te):=by
 intro pins s σ H D I h;exact wpAny_Return_some (eZ ?AY λv s1 ⟨x,H1,I1,r1,q1⟩=>⟨x,σ,H1,I1,r1,q1⟩)
def anP:TS:=λD _ H=>D.rt .non H
theorem VN:PS X (.Return Yb pos) anP:=λ_ _ σ H _ I h=>wpAny_Return_none ⟨.non,σ,H,I,rfl,h⟩
def aiQ(c:TT)(t u:TS):TS:=λD σ H=>c σ H λb H1=>if b=true then t D σ H1 else u D σ H1
theorem cZ{a b:List YJ}(hc:PT X c tc)(ha:PSs X a t)(hb:PSs X b u):PS X (.If c a b pos) (aiQ tc t u):=by
 intro pins s σ H D I h;refine wpAny_If (eZ (hc pins s σ H _ I h) λd s1 zz=>?_);obtain⟨H1,I1,q1⟩:=zz;cases d with
 |true=>exact ha pins s1 σ H1 D I1 q1
 |false=>exact hb pins s1 σ H1 D I1 q1
def agY:TS:=λ_ _ _=>False
theorem cJ:PS X st agY:=λ_ _ _ _ _ _ h=>h.elim
end
abbrev TG:=V->St->Hp->(St->Hp->Prop)->Prop
abbrev TGs:=List V->St->Hp->(St->Hp->Prop)->Prop
def PG(X:Cx)(target:YZ)(t:TG):Prop:=
 ∀(pins:List ?AQ) (s:Yl) (σ:St) (H:Hp) (v:V) (u:Ye) (Q:St->Hp->Prop),bH X pins σ H s->RelV v u->t v σ H Q->
  Yn ?M X.A (y3 target X.env u) (λ_ s'=>∃σ' H',bH X pins σ' H' s'/\Q σ' H') X.xe s
def PGs(X:Cx)(ts:List YZ)(t:TGs):Prop:=
 ∀(pins:List ?AQ) (s:Yl) (σ:St) (H:Hp) (vs:List V) (us:List Ye) (Q:St->Hp->Prop),bH X pins σ H s->Vals vs us->t vs σ H Q->
  Yn ?M X.A (assignInOrder ((ir ts X.env).map (·.2)) us) (λ_ s'=>∃σ' H',bH X pins σ' H' s'/\Q σ' H') X.xe s
section
def Ur(i:Nat):TG:=λv σ H Q=>Q (σ.set i (Ya v)) H
theorem aO(hN:X.N.Nodup)(hi:X.N[i]?=Ya x)(hx:Loc X.env.scope x)(hf:X.fn x=true\/X.env.scope.names.lookup x=Ya .local:=by first|exact .inl rfl|exact .inr rfl|assumption):PG X (.Name x pos) (Ur i):=by
 intro pins s σ H v u Q I r h;exact EG (XR I hN hi hx r (λs' I'=>⟨_,H,I',h⟩) hf)
def anR:TGs:=λvs σ H Q=>vs=[]/\Q σ H
def aj5(t:TG)(u:TGs):TGs:=λvs σ H Q=>∃v r,vs=v::r/\t v σ H λσ' H'=>u r σ' H' Q
theorem um:PGs X [] anR:=by
 intro pins s σ H vs us Q I r h;obtain⟨e,h⟩:=h;subst e;cases r;exact assignInOrder_nil ⟨σ,H,I,h⟩
theorem cU{t:TG}{u:TGs}(h1:PG X e t)(h2:PGs X es u)(hs:(ir (e::es) X.env).map (·.2)=y3 e X.env::(ir es X.env).map (·.2):=by rfl):PGs X (e::es) (aj5 t u):=by
 intro pins s σ H vs us Q I r h;obtain⟨v,vr,e1,h⟩:=h;subst e1;cases r with
 |cons r rr=>
  rw[hs];refine assignInOrder_cons (eZ (h1 pins s σ H _ _ _ I r h) λ_ s1 zz=>?_);obtain⟨σ1,H1,I1,q1⟩:=zz;exact h2 pins s1 σ1 H1 _ _ Q I1 rr q1
def amM(K:Yd)(n:Nat)(t:TGs):TG:=λv σ H Q=>∃a xs,v=.ref a/\dC K H a xs/\xs.length=n/\t xs σ H Q
theorem aln{t:TGs}(hc:X.calm=true)(h:PGs X es t)(hn:(ir es X.env).length=n:=by rfl)(hst:(ir es X.env).findIdx? (·.1)=none:=by rfl):PG X (.Tuple es k pos) (amM X.K n t):=by
 intro pins s σ H v u Q I r hw;obtain⟨a,xs,e1,hq,hl,hw⟩:=hw;subst e1;cases r;obtain⟨its,rv,ht,hz⟩:=I.tuple hq;refine assign_Tuple_tuple ?BK ht (by simp[hn,<-hl,rv.length]) hst λh' hx=>?_;have I1:bH X pins σ H ?AM:=I.kept (t':=s.toks) λb o e=>hx b o (YF (Yu e)) e;exact h pins _ σ H xs _ Q I1 (by simpa using rv) hw
def ahB(te:TE)(g:TG):TS:=λD σ H=>te σ H λx H1=>g x σ H1 D.nx
theorem Wo{g:TG}(he:PE X e te)(hg:PG X tg g)(hs:swapsWithSole [tg] e pos.line X.env=pure false:=by rfl)(hw:swappedStores [tg] e X.env=pure none:=by rfl)(h1:(ir [tg] X.env).map (·.2)=[y3 tg X.env]:=by rfl):PS X (.Assign [tg] e pos) (ahB te g):=by
 intro pins s σ H D I h;refine wpAny_Assign_stores (eZ ?AY λv s1 zz=>?_) hs hw;obtain⟨x,H1,I1,r1,q1⟩:=zz;rw[h1];exact eZ (hg pins s1 σ H1 x v _ I1 r1 q1) λ_ s2 q=>q
theorem bA(hN:X.N.Nodup)(hi:X.N[i]?=Ya x)(hx:Loc X.env.scope x)(he:PE X e te)(hs:w8 e (Ya (.Name x pos')) pos.line X.env=pure false:=by rfl)(hf:X.fn x=true\/X.env.scope.names.lookup x=Ya .local:=by first|exact .inl rfl|exact .inr rfl|assumption):
  PS X (.Assign [.Name x pos'] e pos) (ahB te (Ur i)):=by
 intro pins s σ H D I h;refine wpAny_Assign_Name (eZ ?AY λv s1 zz=>?_) hs;obtain⟨y,H1,I1,r1,q1⟩:=zz;exact XR I1 hN hi hx r1 (λs2 I2=>⟨_,H1,I2,q1⟩) hf
end
section
def abW(c:TT)(tb:TS):TS:=λD σ H=>∃W:Nat->St->Hp->Prop,(∃m,W m σ H)/\∀m σ H,W m σ H->
 c σ H λb H1=>if b=true then∃N:St->Hp->Prop,(∀σ' H',N σ' H'->∃m',m'<m/\W m' σ' H')/\tb {D with nx:=N,ct:=N,bk:=D.nx} σ H1 else D.nx σ H1
theorem Rk{tb:TS}(hp:PassesOwn ?M X.A X.env X.xe)(hc:PT X c tc)(hb:PSs X body tb):PS X (.While c body [] pos) (abW tc tb):=by
 intro pins s σ H D I h;obtain⟨W,⟨m0,w0⟩,turn⟩:=h;refine wpAny_While (codeAny_whileLoop (λn s'=>∃σ' H',bH X pins σ' H' s'/\W n σ' H') ?_ m0 ⟨σ,H,I,w0⟩);rintro n s1 ⟨σ1,H1,I1,w1⟩;refine kz hp (eZ (hc pins s1 σ1 H1 _ I1 (turn n σ1 H1 w1)) λb s2 zz=>?_);obtain⟨H2,I2,q2⟩:=zz;cases b with
 |true=>
  obtain⟨N,hN,q2⟩:=q2;rw[if_pos rfl];refine kz hp (eZ (hb pins s2 σ1 H2 _ I2 q2) λf s3 q3=>?_);cases f with
  |next=>
   obtain⟨σ3,H3,I3,n3⟩:=q3;obtain⟨m',hm,w3⟩:=hN σ3 H3 n3;exact⟨m',hm,σ3,H3,I3,w3⟩
  |cont=>
   obtain⟨σ3,H3,I3,n3⟩:=q3;obtain⟨m',hm,w3⟩:=hN σ3 H3 n3;exact⟨m',hm,σ3,H3,I3,w3⟩
  |brk=>exact q3
  |ret v=>exact q3
 |false=>
  rw[if_neg YN];exact ub ⟨σ1,H2,I2,q2⟩
end
structure It where
 go:Nat->Hp->Prop
 yld:Nat->Hp->V->Hp->Prop
 stop:Nat->Hp->Prop
def JD(X:Cx)(pins:List ?AQ)(H:Hp)(b:Yc):Prop:=
 H b=Yb/\b≠X.env.locals/\b∉X.fs/\(b∈X.ex\/X.s₀.heap.objs.size<=b)/\(∀x c,X.env.cells.lookup x=Ya c->c≠b)/\∀p∈X.pn++pins,p.1≠b
theorem bH.fpOk(I:bH X pins σ H s)(hb:s.heap.objs.size<=b)(hn:H' b=Yb):JD X pins H' b:=by
 refine⟨hn,kf (YM I.lt hb),I.nofs hb,.inr (bP I.sz hb),λx c e z=>?_,λp hp z=>?_⟩
 ·obtain⟨v,q⟩:=I.cell x c e;exact absurd (YM q.lt (by rw[z];exact hb)) (Y2 _)
 ·exact absurd (YM (Yu (I.pin p hp).1) (by rw[z];exact hb)) (Y2 _)
structure Turn(P:YI)(w:YV)(K:Yd)(tg:YZ)(J:It)(fp:List Yc)(it:Yc)(tn:Nat->YT->Prop):Prop where
 mem:it∈fp
 obj:∀i h,tn i h->∀b∈fp,∃o,h.get? b=Ya o/\∀v,o.data≠.cell v
 keep:∀i h h',tn i h->(∀b∈fp,∀o,h.get? b=Ya o->h'.get? b=Ya o)->tn i h'
 item:∀(X:Cx),X.prog=P->X.w=w->X.K=K->X.calm=true->∀(i:Nat) (pins:List ?AQ) (s:Yl) (σ:St) (H:Hp) (E:Ye->Yl->Prop),bH X pins σ H s->(∀b∈fp,JD X pins H b)->tn i s.heap->J.go i H->
  Yn (Yr P w) X.A (fF (.ref it)) (λr s1=>∃u,r=Ya u/\
   Yn (Yr P w) X.A (ui tg (.ref it) u) (λ_ s2=>∃x H',bH X pins σ H' s2/\RelV x u/\J.yld i H x H'/\tn ?DP s2.heap/\∀b∈fp,H' b=Yb) E s1) E s
 done:∀(X:Cx),X.prog=P->X.w=w->X.K=K->X.calm=true->∀(i:Nat) (pins:List ?AQ) (s:Yl) (σ:St) (H:Hp) (E:Ye->Yl->Prop),bH X pins σ H s->(∀b∈fp,JD X pins H b)->tn i s.heap->J.stop i H->
  Yn (Yr P w) X.A (fF (.ref it)) (λr s1=>r=Yb/\bH X pins σ H s1) E s
 self:∀(A:Y7) (i:Nat) (s:Yl) (Q:Ye->Yl->Prop) (E:Ye->Yl->Prop),tn i s.heap->Q (.ref it) s->Yn (Yr P w) A (uj (.ref it)) Q E s
abbrev TI:=St->Hp->(It->Hp->Prop)->Prop
def PIE(X:Cx)(pins:List ?AQ)(σ:St)(tg:YZ)(R:It->Hp->Prop)(itv:Ye)(s2:Yl):Prop:=
 ∃(it:Yc) (fp:List Yc) (tn:Nat->YT->Prop) (J:It) (H':Hp),itv=.ref it/\bH X pins σ H' s2/\Turn X.prog X.w X.K tg J fp it tn/\tn 0 s2.heap/\(∀b∈fp,JD X pins H' b)/\R J H'
def PI(X:Cx)(tg iter:YZ)(wi:TI):Prop:=
 ∀(pins:List ?AQ) (s:Yl) (σ:St) (H:Hp) (R:It->Hp->Prop),bH X pins σ H s->wi σ H R->
  Yn ?M X.A (ay iter X.env) (λv s1=>Yn ?M X.A (uj v) (PIE X pins σ tg R) X.xe s1) X.xe s
theorem ac1{o:Y6}{n:String}{vs:Array Ye}{Q:Unit->Yl->Prop}(ho:s.heap.get? it=Ya o)(hc:o.cls=.type n)(hd:o.data=.fields vs)(hn:["enumerate","zip","dict_itemiterator","dict_reverseitemiterator","odict_iterator","itertools.zip_longest","itertools.pairwise"].contains n=false)(hQ:Q () s):Yn M A (ui tg (.ref it) u) Q E s:=by
 unfold ui;cases tg<;>first
  |exact Yp hQ
  |(cases u<;>first
    |exact Yp hQ
    |(refine Yg (wpAny_load ho ?_)
      rw[hc,hd];show Yn M A (if(["enumerate","zip","dict_itemiterator","dict_reverseitemiterator","odict_iterator","itertools.zip_longest","itertools.pairwise"].contains n&&vs[0]?==Ya (rawInt _))=true then _ else _) Q E s;rw[if_neg (by intro h;rw[hn,om]at h;cases h)];exact Yp hQ))
noncomputable def Itl(K:Yd)(a:Yc):It:=
 ⟨λi H=>∃xs x,bK K H a xs/\xs[i]?=Ya x,λi H x H'=>H'=H/\∀xs,bK K H a xs->xs[i]?=Ya x,λi H=>∃xs,bK K H a xs/\xs.length<=i⟩
noncomputable def Itt(K:Yd)(a:Yc):It:=
 ⟨λi H=>∃xs x,dC K H a xs/\xs[i]?=Ya x,λi H x H'=>H'=H/\∀xs,dC K H a xs->xs[i]?=Ya x,λi H=>∃xs,dC K H a xs/\xs.length<=i⟩
noncomputable def Itr(lo:Int)(n:Nat):It:=⟨λi _=>i<n,λi H x H'=>H'=H/\x=.int (lo+ i),λi _=>n<=i⟩
theorem Ui{K:Yd}(a it:Yc):Turn P w K tg (Itl K a) [it] it (λi h=>h.IsListIter it a i) where
 mem:=by simp
 obj:=λi h st b hb=>by
  have e:b=it:=by simpa using hb
  subst e;obtain⟨o,e,c,d⟩:=st;exact⟨o,e,λv z=>by rw[d]at z;cases z⟩
 keep:=λi h h' st k=>st.at λo e=>k it ?N o e
 item:=by
  intro X hP hw hK hc i pins s σ H E I hf st hg;subst hP hw hK;obtain⟨xs,x,hq,hx⟩:=hg;obtain⟨its,rv,p,hz⟩:=I.list hq;obtain⟨u,hu,ru⟩:=rv.get hx;obtain⟨f0,f1,f2,f3,f4,f5⟩:=hf it ?N;refine wpAny_pyNext_list_item st p.isList (x:=u) (by simpa using hu) λh' st' sb=>?_;have I1:bH X pins σ H ?AM:=I.turned (t':=s.toks) ?DB f0 f1 f3 f4 f5;obtain⟨o,e,c,d⟩:=id st';exact⟨u,rfl,ac1 (s:=?AM) e c d ?B ⟨x,H,I1,ru,⟨rfl,λys hy=>by rw[I.list_inj hy hq];exact hx⟩,st',λb hb=>(hf b hb).1⟩⟩
 done:=by
  intro X hP hw hK hc i pins s σ H E I hf st hg;subst hP hw hK;obtain⟨xs,hq,hx⟩:=hg;obtain⟨its,rv,p,hz⟩:=I.list hq;obtain⟨f0,f1,f2,f3,f4,f5⟩:=hf it ?N;have hl:=rv.length;exact wpAny_pyNext_list_end ?BK st p.isList (by simp;omega) λh' eb=>⟨rfl,I.turned (t':=s.toks) ?D1 f0 f1 f3 f4 f5⟩
 self:=λ_ _ _ _ _ st h=>wpAny_pyIter_listiter st h
theorem QV{K:Yd}(a it:Yc):Turn P w K tg (Itt K a) [it] it (λi h=>h.IsTupleIter it a i) where
 mem:=by simp
 obj:=λi h st b hb=>by
  have e:b=it:=by simpa using hb
  subst e;obtain⟨o,e,c,d⟩:=st;exact⟨o,e,λv z=>by rw[d]at z;cases z⟩
 keep:=λi h h' st k=>st.at λo e=>k it ?N o e
 item:=by
  intro X hP hw hK hc i pins s σ H E I hf st hg;subst hP hw hK;obtain⟨xs,x,hq,hx⟩:=hg;obtain⟨its,rv,p,hz⟩:=I.tuple hq;obtain⟨u,hu,ru⟩:=rv.get hx;obtain⟨f0,f1,f2,f3,f4,f5⟩:=hf it ?N;refine wpAny_pyNext_tuple_item st (show s.heap.IsTuple a its.toArray from p) (x:=u) (by simpa using hu) λh' st' sb=>?_;have I1:bH X pins σ H ?AM:=I.turned (t':=s.toks) ?DB f0 f1 f3 f4 f5;obtain⟨o,e,c,d⟩:=id st';exact⟨u,rfl,ac1 (s:=?AM) e c d ?B ⟨x,H,I1,ru,⟨rfl,λys hy=>by rw[I.tuple_inj hy hq];exact hx⟩,st',λb hb=>(hf b hb).1⟩⟩
 done:=by
  intro X hP hw hK hc i pins s σ H E I hf st hg;subst hP hw hK;obtain⟨xs,hq,hx⟩:=hg;obtain⟨its,rv,p,hz⟩:=I.tuple hq;obtain⟨f0,f1,f2,f3,f4,f5⟩:=hf it ?N;have hl:=rv.length;exact wpAny_pyNext_tuple_end ?BK st (show s.heap.IsTuple a its.toArray from p) (by simp;omega) λh' eb=>⟨rfl,I.turned (t':=s.toks) ?D1 f0 f1 f3 f4 f5⟩
 self:=λ_ _ _ _ _ st h=>wpAny_pyIter_tupleiter st h
theorem abB{K:Yd}(it:Yc)(lo:Int)(n:Nat):Turn P w K tg (Itr lo n) [it] it (λi h=>IsRangeIter h it (lo+ (i:Nat)*1) ((n:Int)-(i:Nat)) 1) where
 mem:=by simp
 obj:=λi h st b hb=>by
  have e:b=it:=by simpa using hb
  subst e;exact⟨_,st,λv z=>by
   have z':Data.fields _=Data.cell v:=z;cases z'⟩
 keep:=λi h h' st k=>k it ?N _ st
 item:=by
  intro X hP hw hK hc i pins s σ H E I hf st hg;subst hP hw hK;obtain⟨f0,f1,f2,f3,f4,f5⟩:=hf it ?N;have W:=Walks.range (prog:=X.prog) (w:=X.w) ?BK it lo 1 n;refine W.item i s _ _ hg st λv h' tk hv st' kk=>?_;obtain⟨t,rfl⟩:=hv;have I1:bH X pins σ H ?AG:=I.turned (λb o hb e=>kk b o (by simpa using hb) e) f0 f1 f3 f4 f5;refine⟨_,rfl,ac1 (s:=?AG) (n:="range_iterator") st' rfl rfl ?B ⟨.int (lo+ i),H,I1,⟨t,?_⟩,⟨rfl,rfl⟩,st',λb hb=>(hf b hb).1⟩⟩;rw[Int.mul_one]
 done:=by
  intro X hP hw hK hc i pins s σ H E I hf st hg;subst hP hw hK;obtain⟨f0,f1,f2,f3,f4,f5⟩:=hf it ?N;exact wpAny_pyNext_range_end ?BK st (by have:n<=i:=hg;omega) λh' eb=>⟨rfl,I.turned (t':=s.toks) ?D1 f0 f1 f3 f4 f5⟩
 self:=λ_ _ _ _ _ st h=>wpAny_pyIter_rangeiter st h
section
def afI(K:Yd)(tl:TE):TI:=λσ H R=>tl σ H λx H1=>∃a,x=.ref a/\(∃xs,bK K H1 a xs)/\R (Itl K a) H1
def amD(K:Yd)(tl:TE):TI:=λσ H R=>tl σ H λx H1=>∃a,x=.ref a/\(∃xs,dC K H1 a xs)/\R (Itt K a) H1
theorem aiN(hl:PE X l tl):PI X tg l (afI X.K tl):=by
 intro pins s σ H R I h;refine eZ (hl pins s σ H _ I h) λv s1 zz=>?_;obtain⟨x,H1,I1,r1,q1⟩:=zz;obtain⟨a,e,⟨xs,hq⟩,q⟩:=q1;subst e;cases r1;obtain⟨its,rv,p,hz⟩:=I1.list hq;refine fy p.isList ?_;refine⟨s1.heap.objs.size,[s1.heap.objs.size],_,_,H1,rfl,I1.kept (t':=s1.toks) λb o e=>Yi _ e,Ui a _,⟨_,Yq _ rfl,rfl,rfl⟩,λb hb=>?_,q⟩;have e:b=s1.heap.objs.size:=by simpa using hb
 subst e;exact I1.fpOk ?BU ?D9
theorem al3(hl:PE X l tl):PI X tg l (amD X.K tl):=by
 intro pins s σ H R I h;refine eZ (hl pins s σ H _ I h) λv s1 zz=>?_;obtain⟨x,H1,I1,r1,q1⟩:=zz;obtain⟨a,e,⟨xs,hq⟩,q⟩:=q1;subst e;cases r1;obtain⟨its,rv,p,hz⟩:=I1.tuple hq;refine DE (show s1.heap.IsTuple a its.toArray from p) ?_;refine⟨s1.heap.objs.size,[s1.heap.objs.size],_,_,H1,rfl,I1.kept (t':=s1.toks) λb o e=>Yi _ e,QV a _,⟨_,Yq _ rfl,rfl,rfl⟩,λb hb=>?_,q⟩;have e:b=s1.heap.objs.size:=by simpa using hb
 subst e;exact I1.fpOk ?BU ?D9
theorem agv{R:It->Hp->Prop}{lo hi:Int}{t u v:ml}{tk:Nat}(I:bH X pins σ H s)(h1:-(2^62)<=lo)(h2:lo<2^62)(h3:-(2^62)<=hi)(h4:hi<2^62)(q:R (Itr lo (hi-lo).toNat) H):Yn ?M X.A (uj (.ref s.heap.objs.size)) (PIE X pins σ tg R) E {s with heap:=s.heap.push {cls:=.type "range",data:=.fields #[.int lo t,.int hi u,.int 1 v]},toks:=tk}:=by
 refine wpAny_pyIter_range (IsRange.new ..) (small_one h1 h2 h3 h4) ?_;have I1:bH X pins σ H {s with heap:=s.heap.push {cls:=.type "range",data:=.fields #[.int lo t,.int hi u,.int 1 v]},toks:=tk}:=I.kept λb o e=>Yi _ e;refine⟨(s.heap.push {cls:=.type "range",data:=.fields #[.int lo t,.int hi u,.int 1 v]}).objs.size,[(s.heap.push {cls:=.type "range",data:=.fields #[.int lo t,.int hi u,.int 1 v]}).objs.size],_,_,H,rfl,
  I1.kept (t':=tk) λb o e=>Yi _ e,abB _ lo (hi-lo).toNat,?_,λb hb=>?_,q⟩
 ·have e1:lo+ ((0:Nat):Int)*1=lo:=by simp
  have e2:(((hi-lo).toNat:Nat):Int)-((0:Nat):Int)=Builtin.Range.rangeSize lo hi 1:=by rw[rangeSize_one];split<;>omega
  show IsRangeIter _ _ (lo+ ((0:Nat):Int)*1) ((((hi-lo).toNat:Nat):Int)-((0:Nat):Int)) 1;rw[e1,e2];exact Yq _ rfl
 ·have e:b=(s.heap.push {cls:=.type "range",data:=.fields #[.int lo t,.int hi u,.int 1 v]}).objs.size:=by simpa using hb
  subst e;exact I1.fpOk ?BU ?D9
def akq(ta:TA):TI:=λσ H R=>ta σ H λvs H1=>∃j:Int,vs=[.int j]/\-(2^62)<=j/\j<2^62/\R (Itr 0 j.toNat) H1
theorem uw{a:YZ}{ta:TA}(hg:Gl X "range")(hm:X.mg "range"=Yb)(ha:PA X [a] ta)(hs:YR [a] X.env=[(false,ay a X.env)]:=by rfl):PI X tg (.Call (.Name "range" p) [a] [] pos) (akq ta):=by
 intro pins s σ H R I h;refine Call_ (Ar I hg hm boot_range (w9 (eZ ?DN λus s1 zz=>?_) hs rfl));obtain⟨vs,H1,I1,r1,q1⟩:=zz;obtain⟨j,e,q1,q2,q⟩:=q1;subst e;cases r1 with
 |cons r rr=>
  cases rr;obtain⟨t,rfl⟩:=r;exact call_range_1 (agv I1 ?D ?D q1 q2 (by simpa using q))
def ajL(wi:TI)(g:TG)(tb:TS):TS:=λD σ H=>wi σ H λJ H1=>∃W:Nat->Nat->St->Hp->Prop,(∃m,W 0 m σ H1)/\∀i m σ H,W i m σ H->
 (J.stop i H/\D.nx σ H)\/(J.go i H/\∃N:St->Hp->Prop,?CA/\∀x H',J.yld i H x H'->g x σ H' λσ2 H2=>tb {D with nx:=N,ct:=N,bk:=D.nx} σ2 H2)
noncomputable def Mz(fp:List Yc)(h:YT):List ?AQ:=fp.filterMap λb=>(h.get? b).map λo=>(b,o)
theorem qg{o:Y6}(hb:b∈fp)(e:h.get? b=Ya o):(b,o)∈Mz fp h:=DF.mpr ⟨b,hb,by rw[e];rfl⟩
theorem ae7{p:Yc×Y6}(hp:p∈Mz fp h):p.1∈fp/\h.get? p.1=Ya p.2:=by
 obtain⟨b,hb,e⟩:=DF.mp hp;cases q:h.get? b with
 |none=>rw[q]at e;cases e
 |some o=>
  rw[q]at e;have e':(b,o)=p:=YK e;subst e';exact⟨hb,q⟩
theorem bH.pinned(I:bH X pins σ H s)(hf:∀b∈fp,JD X pins H b)(ho:∀b∈fp,∃o,s.heap.get? b=Ya o/\∀v,o.data≠.cell v):bH X (pins++Mz fp s.heap) σ H s:=
 I.pins_of λp hp=>(e8.mp hp).elim (λz=>I.pin p (Y1 _ z)) λz=>by
  obtain⟨hb,e⟩:=ae7 z;obtain⟨f0,f1,f2,_⟩:=hf p.1 hb;obtain⟨o,e',d⟩:=ho p.1 hb;rw[e]at e';cases e';exact⟨e,f0,f1,f2,d⟩
theorem bH.unpinned{pl:List ?AQ}(I:bH X (pins++pl) σ H s):bH X pins σ H s:=I.pins_of λp hp=>I.pin p (Y1 _ (kQ _ hp))
theorem lK{iter:YZ}{wi:TI}{g:TG}{tb:TS}(hp:PassesOwn ?M X.A X.env X.xe)(hc:X.calm=true)(hi:PI X tg iter wi)(hg:PG X tg g)(hb:PSs X body tb)(hs:∀x,xB iter X.env x=pure x:=by intro _;rfl):PS X (.For tg iter body [] pos) (ajL wi g tb):=by
 intro pins s σ H D I h;refine wpAny_For (eZ (hi pins s σ H _ I h) λv s1 h1=>eZ h1 λitv s2 h2=>?_) hs;obtain⟨it,fp,tn,J,H2,e,I2,T,st2,f2,W,⟨m0,w0⟩,turn⟩:=h2;subst e
 -- what stays true of the iterator's objects through the loop
 have stat:∀{H':Hp},(∀b∈fp,H' b=Yb)->∀b∈fp,JD X pins H' b:=λhn b hb=>⟨hn b hb,(f2 b hb).2⟩;refine codeAny_forLoop_any (λn s'=>∃i σ' H',bH X pins σ' H' s'/\tn i s'.heap/\(∀b∈fp,H' b=Yb)/\W i n σ' H') ?_ m0 ⟨0,σ,H2,I2,st2,λb hb=>(f2 b hb).1,w0⟩;rintro n s3 ⟨i,σ3,H3,I3,st3,fr3,w3⟩;rcases turn i n σ3 H3 w3 with⟨stop,qn⟩|⟨go,N,hN,step⟩
 ·refine kz hp (eZ (T.done X rfl rfl rfl hc i pins s3 σ3 H3 X.xe I3 (stat fr3) st3 stop) λr s4 zz=>?_);obtain⟨hr,I4⟩:=zz;subst hr;exact ub ⟨σ3,H3,I4,qn⟩
 ·refine kz hp (eZ (T.item X rfl rfl rfl hc i pins s3 σ3 H3 X.xe I3 (stat fr3) st3 go) λr s4 zz=>?_);obtain⟨u,hr,h4⟩:=zz;subst hr;refine kz hp (eZ h4 λ_ s5 zz=>?_);obtain⟨x,H5,I5,r5,y5,st5,fr5⟩:=zz;have I5':=I5.pinned (stat fr5) (T.obj _ _ st5);refine kz hp (eZ (hg _ s5 σ3 H5 x u _ I5' r5 (step x H5 y5)) λ_ s6 zz=>?_);obtain⟨σ6,H6,I6,q6⟩:=zz;refine kz hp (eZ (hb _ s6 σ6 H6 _ I6 q6) λf s7 q7=>?_);have again:∀{σ7:St} {H7:Hp},bH X (pins++Mz fp s5.heap) σ7 H7 s7->N σ7 H7->∃m,m<n/\∃i σ' H',bH X pins σ' H' s7/\tn i s7.heap/\(∀b∈fp,H' b=Yb)/\W i m σ' H':=fun{σ7 H7} I7 n7=>by
   obtain⟨m',hm,w7⟩:=hN σ7 H7 n7;refine⟨m',hm,i+ 1,σ7,H7,I7.unpinned,T.keep _ _ _ st5 λb hb o e=>(I7.pin (b,o) (Y1 _ (Y1 _ (qg hb e)))).1,λb hb=>?_,w7⟩;obtain⟨o,e,d⟩:=T.obj _ _ st5 b hb;exact(I7.pin (b,o) (Y1 _ (Y1 _ (qg hb e)))).2.1
  cases f with
  |next=>obtain⟨σ7,H7,I7,n7⟩:=q7;exact again I7 n7
  |cont=>obtain⟨σ7,H7,I7,n7⟩:=q7;exact again I7 n7
  |brk=>obtain⟨σ7,H7,I7,q7⟩:=q7;exact⟨σ7,H7,I7.unpinned,q7⟩
  |ret v=>obtain⟨x7,σ7,H7,I7,r7,q7⟩:=q7;exact⟨x7,σ7,H7,I7.unpinned,r7,q7⟩
end
theorem iV{K:Yd}{xs:List V}{g:TG}{tb:TS}(Pv:Nat->St->Hp->Prop)(h0:Pv 0 σ H)(hl:∀i σ H,i<=xs.length->Pv i σ H->bK K H a xs)(hs:∀i x σ H,xs[i]?=Ya x->Pv i σ H->g x σ H λσ2 H2=>tb {D with nx:=Pv ?DP,ct:=Pv ?DP,bk:=D.nx} σ2 H2)(hd:∀σ H,Pv xs.length σ H->D.nx σ H):
  ∃W:Nat->Nat->St->Hp->Prop,?ES/\∀i m σ H,W i m σ H->
   ((Itl K a).stop i H/\D.nx σ H)\/((Itl K a).go i H/\∃N:St->Hp->Prop,?CA/\∀x H',(Itl K a).yld i H x H'->g x σ H' λσ2 H2=>tb {D with nx:=N,ct:=N,bk:=D.nx} σ2 H2):=by
 refine⟨λi m σ H=>m=xs.length-i/\i<=xs.length/\Pv i σ H,⟨xs.length,by simp,YX _,h0⟩,?_⟩;rintro i m σ H ⟨rfl,hi,p⟩;have q:=hl i σ H hi p;by_cases hlt:i<xs.length
 ·refine .inr ⟨⟨xs,xs[i],q,by simp[hlt]⟩,Pv ?DP,λσ' H' p'=>⟨xs.length-(i+ 1),by omega,rfl,hlt,p'⟩,λx H' y=>?_⟩;obtain⟨e,y⟩:=y;subst e;exact hs i x σ _ (y xs q) p
 ·have e:i=xs.length:=by omega
  subst e;exact .inl ⟨⟨xs,q,Yo _⟩,hd σ H p⟩
theorem Wu{K:Yd}{xs:List V}{g:TG}{tb:TS}(Pv:Nat->St->Hp->Prop)(h0:Pv 0 σ H)(hl:∀i σ H,i<=xs.length->Pv i σ H->dC K H a xs)(hs:∀i x σ H,xs[i]?=Ya x->Pv i σ H->g x σ H λσ2 H2=>tb {D with nx:=Pv ?DP,ct:=Pv ?DP,bk:=D.nx} σ2 H2)(hd:∀σ H,Pv xs.length σ H->D.nx σ H):
  ∃W:Nat->Nat->St->Hp->Prop,?ES/\∀i m σ H,W i m σ H->
   ((Itt K a).stop i H/\D.nx σ H)\/((Itt K a).go i H/\∃N:St->Hp->Prop,?CA/\∀x H',(Itt K a).yld i H x H'->g x σ H' λσ2 H2=>tb {D with nx:=N,ct:=N,bk:=D.nx} σ2 H2):=by
 refine⟨λi m σ H=>m=xs.length-i/\i<=xs.length/\Pv i σ H,⟨xs.length,by simp,YX _,h0⟩,?_⟩;rintro i m σ H ⟨rfl,hi,p⟩;have q:=hl i σ H hi p;by_cases hlt:i<xs.length
 ·refine .inr ⟨⟨xs,xs[i],q,by simp[hlt]⟩,Pv ?DP,λσ' H' p'=>⟨xs.length-(i+ 1),by omega,rfl,hlt,p'⟩,λx H' y=>?_⟩;obtain⟨e,y⟩:=y;subst e;exact hs i x σ _ (y xs q) p
 ·have e:i=xs.length:=by omega
  subst e;exact .inl ⟨⟨xs,q,Yo _⟩,hd σ H p⟩
abbrev R2:=V->V->Hp->VK->Prop
variable{r:R2}
def Fb(X:Cx)(f:Ye->Ye->w4 Ye)(r:R2):Prop:=
 ∀(pins:List ?AQ) (s:Yl) (σ:St) (H:Hp) (x y:V) (v u:Ye) (Q:VK),bH X pins σ H s->RelV x v->RelV y u->r x y H Q->
  Yn ?M X.A (f v u) ?BT X.xe s
def UnR(X:Cx)(f:Ye->w4 Ye)(r:V->Hp->VK->Prop):Prop:=
 ∀(pins:List ?AQ) (s:Yl) (σ:St) (H:Hp) (x:V) (v:Ye) (Q:VK),bH X pins σ H s->RelV x v->r x H Q->
  Yn ?M X.A (f v) ?BT X.xe s
def jQ(X:Cx)(f:Ye)(r:List V->Hp->VK->Prop):Prop:=
 ∀(pins:List ?AQ) (s:Yl) (σ:St) (H:Hp) (xs:List V) (us:List Ye) (Q:VK),bH X pins σ H s->Vals xs us->r xs H Q->
  Yn ?M X.A (call f us) ?BT X.xe s
def apC(X:Cx)(r:V->Hp->(Bool->Hp->Prop)->Prop):Prop:=
 ∀(pins:List ?AQ) (s:Yl) (σ:St) (H:Hp) (x:V) (v:Ye) (Q:Bool->Hp->Prop),bH X pins σ H s->RelV x v->r x H Q->
  Yn ?M X.A (truthy v) (TP X pins σ Q) X.xe s
def tOp(r:R2)(ta tb:TE):TE:=λσ H Q=>ta σ H λx H1=>tb σ H1 λy H2=>r x y H2 Q
def tUn(r:V->Hp->VK->Prop)(ta:TE):TE:=λσ H Q=>ta σ H λx H1=>r x H1 Q
def rI(C:Int->Int->Prop)(g:Int->Int->V):R2:=λx y H Q=>∃i j,x=.int i/\y=.int j/\C i j/\Q (g i j) H
def rI0(g:Int->Int->V):R2:=λx y H Q=>∃i j,x=.int i/\y=.int j/\Q (g i j) H
def rU(g:Int->V):V->Hp->VK->Prop:=λx H Q=>∃i,x=.int i/\Q (g i) H
section
variable{a b:YZ}{tc:TE}
theorem amn(ha:PE X a ta)(hb:PE X b tb)(I:bH X pins σ H s)(h:ta σ H λx H1=>tb σ H1 λy H2=>R x y H2)(hf:∀v u s2 x y H2,bH X pins σ H2 s2->RelV x v->RelV y u->R x y H2->Yn ?M X.A (f v u) Q X.xe s2):
  Yn ?M X.A (ay a X.env) ?G8 X.xe s:=by
 refine eZ ?A6 λv s1 zz=>?_;obtain⟨x,H1,I1,r1,q1⟩:=zz;refine eZ (hb pins s1 σ H1 _ I1 q1) λu s2 zz=>?_;obtain⟨y,H2,I2,r2,q2⟩:=zz;exact hf v u s2 x y H2 I2 r1 r2 q2
theorem bU{op:Operator}(ho:Fb X (i5 op) r)(ha:PE X a ta)(hb:PE X b tb):PE X (.BinOp a op b pos) (tOp r ta tb):=by
 intro pins s σ H Q I h;exact wpAny_BinOp ?IK
theorem K3{op:UnaryOp}{r:V->Hp->VK->Prop}(ho:UnR X (Kj op) r)(ha:PE X a ta):PE X (.UnaryOp op a pos) (tUn r ta):=by
 intro pins s σ H Q I h;exact UnaryOp_ (eZ ?A6 λv s1 ⟨x,H1,I1,r1,q1⟩=>ho pins s1 σ H1 x v Q I1 r1 q1)
theorem opI{C:Int->Int->Prop}(rule:∀(i j:Int) (t u:ml) (s:Yl) (Q:Ye->Yl->Prop) (E:Ye->Yl->Prop),C i j->Q (.int (g i j) s.toks) ?C3->Yn ?M X.A (f (.int i t) (.int j u)) Q E s):
  Fb X f (rI C λi j=>.int (g i j)):=by
 intro pins s σ H x y v u Q I rx ry h;obtain⟨i,j,rfl,rfl,hc,q⟩:=h;obtain⟨t,rfl⟩:=rx;obtain⟨t',rfl⟩:=ry;exact rule i j t t' s _ _ hc ⟨.int (g i j),H,I.tok _,⟨_,rfl⟩,q⟩
theorem aix(rule:∀(i j:Int) (t u:ml) (s:Yl) (Q:Ye->Yl->Prop) (E:Ye->Yl->Prop),Q (.int (g i j) s.toks) ?C3->Yn ?M X.A (f (.int i t) (.int j u)) Q E s):
  Fb X f (rI0 λi j=>.int (g i j)):=by
 intro pins s σ H x y v u Q I rx ry h;obtain⟨i,j,rfl,rfl,q⟩:=h;obtain⟨t,rfl⟩:=rx;obtain⟨t',rfl⟩:=ry;exact rule i j t t' s _ _ ⟨.int (g i j),H,I.tok _,⟨_,rfl⟩,q⟩
theorem aiV{g:Int->Int->Bool}(rule:∀(i j:Int) (t u:ml) (s:Yl) (Q:Ye->Yl->Prop) (E:Ye->Yl->Prop),Q (.bool (g i j)) s->Yn ?M X.A (f (.int i t) (.int j u)) Q E s):
  Fb X f (rI0 λi j=>.bl (g i j)):=by
 intro pins s σ H x y v u Q I rx ry h;obtain⟨i,j,rfl,rfl,q⟩:=h;obtain⟨t,rfl⟩:=rx;obtain⟨t',rfl⟩:=ry;exact rule i j t t' s _ _ ⟨.bl (g i j),H,I,rfl,q⟩
def apy(i j:Int):Prop:=0<j/\j<1073741824
def acl(i j:Int):Prop:=0<=j/\j<=1000000/\i.natAbs<2^64
def ahK(i j:Int):Prop:=(-(2^64)<i/\i<2^64)\/(-(2^64)<j/\j<2^64)
theorem ahK.ok{i j:Int}(h:ahK i j):IntMulOk i j:=by
 rcases h with⟨h1,h2⟩|⟨h1,h2⟩
 ·exact .of_left (Ic h1 h2)
 ·exact .of_right (Ic h1 h2)
theorem eF(k:Nat):(0:Int)<=2^k:=by
 rw[two_pow_cast];exact cc _
theorem jH:Fb X (i5 .Add) (rI0 λi j=>.int (i+ j)):=aix λ_ _ _ _ _ _ _ q=>add_int q
theorem agq:Fb X (i5 .Sub) (rI0 λi j=>.int (i-j)):=aix λ_ _ _ _ _ _ _ q=>sub_int q
theorem afU:Fb X (i5 .Mult) (rI ahK λi j=>.int (i*j)):=opI λ_ _ _ _ _ _ _ hc q=>mul_int q hc.ok
theorem Ph:Fb X (i5 .FloorDiv) (rI apy λi j=>.int (i / j)):=opI λi j _ _ _ _ _ hc q=>by
 have h1:(0:Int)<j:=hc.1;have h2:j<1073741824:=hc.2;exact floordiv_int ?D (by rw[Int.fdiv_eq_ediv_of_nonneg i ?D];exact q) (.inl (PyProof.noPylong_small ?D))
theorem vJ:Fb X (i5 .Mod) (rI (λ_ j=>0<j) λi j=>.int (i%j)):=opI λi j _ _ _ _ _ hc q=>by
 have h1:(0:Int)<j:=hc;exact mod_int' ?D (by rw[Int.fmod_eq_emod_of_nonneg i ?D];exact q)
theorem ak7:Fb X (i5 .Pow) (rI acl λi j=>.int (i^j.toNat)):=opI λ_ _ _ _ _ _ _ hc q=>pow_int_small hc.1 hc.2.1 hc.2.2 q
theorem rZ:Fb X (i5 .LShift) (rI acl λi j=>.int (i*2^j.toNat)):=opI λ_ _ _ _ _ _ _ hc q=>lshift_int_small hc.1 hc.2.1 hc.2.2 q
theorem Fl:Fb X (i5 .BitAnd) (rI0 λi j=>.int (YA i j)):=aix λ_ _ _ _ _ _ _ q=>and_int q
theorem JP:Fb X (i5 .BitOr) (rI0 λi j=>.int (YQ i j)):=aix λ_ _ _ _ _ _ _ q=>or_int q
theorem unI{f:Ye->w4 Ye}{g:Int->Int}
  (rule:∀(i:Int) (t:ml) (s:Yl) (Q:Ye->Yl->Prop) (E:Ye->Yl->Prop),Q (.int (g i) s.toks) ?C3->Yn ?M X.A (f (.int i t)) Q E s):
  UnR X f (rU λi=>.int (g i)):=by
 intro pins s σ H x v Q I rx h;obtain⟨i,rfl,q⟩:=h;obtain⟨t,rfl⟩:=rx;exact rule i t s _ _ ⟨.int (g i),H,I.tok _,⟨_,rfl⟩,q⟩
theorem acO:UnR X (Kj .USub) (rU λi=>.int (-i)):=unI λ_ _ _ _ _ q=>neg_int q
theorem Mh:UnR X (Kj .Invert) (rU λi=>.int (YC i)):=unI λ_ _ _ _ _ q=>invert_int q
end
noncomputable def aoJ:V->V->Bool
 | .non,.non=>true| .non,.int _=>true| .int _,.non=>true| .non,.bl _=>true| .bl _,.non=>true| .non,.str _=>true| .str _,.non=>true
 | .int _,.int _=>true| .bl _,.bl _=>true| .str _,.str _=>true| .byt _,.byt _=>true
 | .int _,.str _=>true| .str _,.int _=>true| .bl _,.str _=>true| .str _,.bl _=>true
 |_,_=>false
def rEq:R2:=λx y H Q=>aoJ x y=true/\Q (.bl (decide (x=y))) H
def rNe:R2:=λx y H Q=>aoJ x y=true/\Q (.bl (!decide (x=y))) H
theorem adK{i j:Int}:decide (V.int i=V.int j)=(i==j):=by
 rw[dS];simp
theorem ag9{i j:Bool}:decide (V.bl i=V.bl j)=(i==j):=by
 rw[dS];simp
theorem adg{i j:Ym}:decide (V.str i=V.str j)=(i==j):=by
 rw[dS];simp
theorem acY{i j:Array UInt8}:decide (V.byt i=V.byt j)=(i.toList==j.toList):=by
 rw[dS];cases i;cases j;simp
section
variable{a b:YZ}{tc:TE}
theorem dR{Q:VK}{k k':Bool}(I:bH X pins σ H s)(q:Q (.bl k) H)(e:k=k'):EP X pins σ Q (.bool k') s:=by
 subst e;exact⟨.bl k,H,I,rfl,q⟩
theorem KZ:Fb X (cS .Eq) rEq:=by
 intro pins s σ H x y v u Q I rx ry h;obtain⟨hs,q⟩:=h;cases x with
 |non=>
  cases rx;cases y with
  |non=>cases ry;exact PySem.EqNone.eq_none_none ?BZ
  |bl j=>cases ry;exact PySem.EqNone.eq_none_bool ?BZ
  |int j=>obtain⟨t',rfl⟩:=ry;exact PySem.EqNone.eq_none_int ?BZ
  |str j=>obtain⟨t',rfl⟩:=ry;exact PySem.EqNone.eq_none_str ?BZ
  |_=>exact absurd ?A0 YN
 |bl i=>
  cases rx;cases y with
  |non=>cases ry;exact PySem.EqNone.eq_bool_none ?BZ
  |bl j=>cases ry;exact eq_bool (dR I q ag9)
  |str j=>obtain⟨t',rfl⟩:=ry;exact PySem.EqMixed.eq_bool_str ?BZ
  |_=>exact absurd ?A0 YN
 |int i=>
  obtain⟨t,rfl⟩:=rx;cases y with
  |non=>cases ry;exact PySem.EqNone.eq_int_none ?BZ
  |int j=>obtain⟨t',rfl⟩:=ry;exact eq_int (dR I q adK)
  |str j=>obtain⟨t',rfl⟩:=ry;exact PySem.EqMixed.eq_int_str ?BZ
  |_=>exact absurd ?A0 YN
 |str i=>
  obtain⟨t,rfl⟩:=rx;cases y with
  |non=>cases ry;exact PySem.EqNone.eq_str_none ?BZ
  |bl j=>cases ry;exact PySem.EqMixed.eq_str_bool ?BZ
  |int j=>obtain⟨t',rfl⟩:=ry;exact PySem.EqMixed.eq_str_int ?BZ
  |str j=>obtain⟨t',rfl⟩:=ry;exact eq_str (dR I q adg)
  |_=>exact absurd ?A0 YN
 |byt i=>
  obtain⟨t,rfl⟩:=rx;cases y with
  |byt j=>obtain⟨t',rfl⟩:=ry;exact PySem.W.eq_bytes (dR I q acY)
  |_=>exact absurd ?A0 YN
 |_=>cases y<;>exact absurd ?A0 YN
theorem ahj:Fb X (cS .NotEq) rNe:=by
 intro pins s σ H x y v u Q I rx ry h;obtain⟨hs,q⟩:=h;cases x with
 |non=>
  cases rx;cases y with
  |non=>cases ry;exact PySem.EqNone.ne_none_none ?BZ
  |bl j=>cases ry;exact PySem.EqNone.ne_none_bool ?BZ
  |int j=>obtain⟨t',rfl⟩:=ry;exact PySem.EqNone.ne_none_int ?BZ
  |str j=>obtain⟨t',rfl⟩:=ry;exact PySem.EqNone.ne_none_str ?BZ
  |_=>exact absurd ?A0 YN
 |bl i=>
  cases rx;cases y with
  |non=>cases ry;exact PySem.EqNone.ne_bool_none ?BZ
  |bl j=>cases ry;exact ne_bool (dR I q (congrArg not ag9))
  |str j=>obtain⟨t',rfl⟩:=ry;exact PySem.EqMixed.ne_bool_str ?BZ
  |_=>exact absurd ?A0 YN
 |int i=>
  obtain⟨t,rfl⟩:=rx;cases y with
  |non=>cases ry;exact PySem.EqNone.ne_int_none ?BZ
  |int j=>obtain⟨t',rfl⟩:=ry;exact ne_int (dR I q (congrArg not adK))
  |str j=>obtain⟨t',rfl⟩:=ry;exact PySem.EqMixed.ne_int_str ?BZ
  |_=>exact absurd ?A0 YN
 |str i=>
  obtain⟨t,rfl⟩:=rx;cases y with
  |non=>cases ry;exact PySem.EqNone.ne_str_none ?BZ
  |bl j=>cases ry;exact PySem.EqMixed.ne_str_bool ?BZ
  |int j=>obtain⟨t',rfl⟩:=ry;exact PySem.EqMixed.ne_str_int ?BZ
  |str j=>obtain⟨t',rfl⟩:=ry;exact ne_str (dR I q (congrArg not adg))
  |_=>exact absurd ?A0 YN
 |byt i=>
  obtain⟨t,rfl⟩:=rx;cases y with
  |byt j=>obtain⟨t',rfl⟩:=ry;exact PySem.W.ne_bytes (dR I q (congrArg not acY))
  |_=>exact absurd ?A0 YN
 |_=>cases y<;>exact absurd ?A0 YN
theorem aab:Fb X (cS .Lt) (rI0 λi j=>.bl (decide (i<j))):=aiV λ_ _ _ _ _ _ _ q=>FR q
theorem agb:Fb X (cS .LtE) (rI0 λi j=>.bl (decide (i<=j))):=aiV λ_ _ _ _ _ _ _ q=>le_int q
theorem ahm:Fb X (cS .Gt) (rI0 λi j=>.bl (decide (j<i))):=aiV λ_ _ _ _ _ _ _ q=>IH q
theorem aoz:Fb X (cS .GtE) (rI0 λi j=>.bl (decide (j<=i))):=aiV λ_ _ _ _ _ _ _ q=>ge_int q
theorem oY:Fb X (cS .Is) (λx y H Q=>y=.non/\Q (.bl (decide (x=.non))) H):=by
 intro pins s σ H x y v u Q I rx ry h;obtain⟨rfl,q⟩:=h;cases ry;refine is_none_gen (dR I q ?_);cases x<;>first
  |(cases rx;rfl)
  |(obtain⟨t,rfl⟩:=rx;rfl)
theorem mQ:Fb X (cS .IsNot) (λx y H Q=>y=.non/\Q (.bl (!decide (x=.non))) H):=by
 intro pins s σ H x y v u Q I rx ry h;obtain⟨rfl,q⟩:=h;cases ry;refine isnot_none_gen (dR I q ?_);cases x<;>first
  |(cases rx;rfl)
  |(obtain⟨t,rfl⟩:=rx;rfl)
theorem bG(b:YZ)(h:op≠.In:=by decide)(h2:op≠.NotIn:=by decide):sN op b=false:=by
 have e1:(op==CmpOp.In)=false:=by cases op<;>first|rfl|exact absurd rfl h
 have e2:(op==CmpOp.NotIn)=false:=by cases op<;>first|rfl|exact absurd rfl h2
 cases b<;>simp[sN,e1,e2]
theorem ie(ho:Fb X (cS op) r)(ha:PE X a ta)(hb:PE X b tb)(hm:sN op b=false):PE X (.Compare a [op] [b] pos) (tOp r ta tb):=by
 intro pins s σ H Q I h;exact wpAny_Compare1 ?IK hm
def aj7(t:TE):TT:=λσ H Q=>t σ H λx H'=>∃k,x=.bl k/\Q k H'
theorem bL(ho:Fb X (cS op) r)(ha:PE X a ta)(hb:PE X b tb)(hm:sN op b=false):PT X (.Compare a [op] [b] pos) (aj7 (tOp r ta tb)):=by
 intro pins s σ H Q I h;refine BD (eZ ?A6 λv s1 zz=>?_) hm;obtain⟨x,H1,I1,r1,q1⟩:=zz;refine eZ (hb pins s1 σ H1 _ I1 q1) λu s2 zz=>?_;obtain⟨y,H2,I2,r2,q2⟩:=zz;refine eZ (ho pins s2 σ H2 x y v u _ I2 r1 r2 q2) λc s3 zz=>?_;obtain⟨z,H3,I3,r3,k,e,q3⟩:=zz;subst e;cases r3;exact hG ⟨H3,I3,q3⟩
def ak5(r r':R2)(ta tb tc:TE):TE:=λσ H Q=>ta σ H λx H1=>tb σ H1 λy H2=>r x y H2 λz H3=>∃k,z=.bl k/\
 (if k=true then tc σ H3 λw' H4=>r' y w' H4 Q else Q (.bl false) H3)
theorem Xf{op':EA}{r':R2}(ho:Fb X (cS op) r)(ho':Fb X (cS op') r')(ha:PE X a ta)(hb:PE X b tb)(hc:PE X c tc)(hm:lastMarks [op,op'] [b,c]=false:=by with_unfolding_all rfl):PE X (.Compare a [op,op'] [b,c] pos) (ak5 r r' ta tb tc):=by
 intro pins s σ H Q I h;refine Compare_chain (eZ ?A6 λv s1 zz=>?_) hm;obtain⟨x,H1,I1,r1,q1⟩:=zz;refine chain_link (eZ (hb pins s1 σ H1 _ I1 q1) λu s2 zz=>?_);obtain⟨y,H2,I2,r2,q2⟩:=zz;refine eZ (ho pins s2 σ H2 x y v u _ I2 r1 r2 q2) λd s3 zz=>?_;obtain⟨z,H3,I3,r3,k,e,q3⟩:=zz;subst e;cases r3;refine hG ?_;cases k with
 |false=>exact ite_ff ⟨.bl false,H3,I3,rfl,q3⟩
 |true=>exact ite_tt (chain_last (eZ (hc pins s3 σ H3 _ I3 q3) λw' s4 ⟨z',H4,I4,r4,q4⟩=>ho' pins s4 σ H4 y z' u w' Q I4 r2 r4 q4))
def ah8(K:Yd)(x:V)(H:Hp)(k:Bool):Prop:=
 match x with
 | .non=>k=false
 | .bl b=>k=b
 | .int i=>k=(i !=0)
 | .str y=>y.length<=YB/\k=((y.length:Int) !=0)
 | .byt y=>y.size<=YB/\k=((y.size:Int) !=0)
 | .ref p=>(∃xs,bK K H p xs/\k=!xs.isEmpty)\/(∃xs,dC K H p xs/\k=!xs.isEmpty)\/∃kvs,H p=Ya (.dK kvs)/\k=!kvs.isEmpty
 |_=>False
theorem acf{κ:Type}{kvs:List (κ×V)}{vs:List (κ×Ye)}(r:KV kvs vs):(!vs.isEmpty)=!kvs.isEmpty:=by
 cases r<;>rfl
theorem Rf{xs:List V}{its:List Ye}(r:Vals xs its):(!its.toArray.isEmpty)=!xs.isEmpty:=by
 cases r<;>simp
theorem Q0:(YB:Nat)<2^63:=by rw[ip];decide
theorem akT:apC X (λx H Q=>∃k,ah8 X.K x H k/\Q k H):=by
 intro pins s σ H x v Q I rx h;obtain⟨k,e,q⟩:=h;have hl:=Q0;have hs:YB=16777216:=ip;cases x with
 |non=>
  cases rx;have e':k=false:=e;subst e';exact truthy_none ⟨H,I,q⟩
 |bl b=>
  cases rx;have e':k=b:=e;subst e';exact hG ⟨H,I,q⟩
 |int i=>
  obtain⟨t,rfl⟩:=rx;have e':k=(i !=0):=e;subst e';exact PySem.P.truthy_int ⟨H,I,q⟩
 |str y=>
  obtain⟨t,rfl⟩:=rx;obtain⟨hy,e'⟩:y.length<=YB/\k=((y.length:Int) !=0):=e;subst e';exact PySem.P.truthy_str ?D ⟨H,I.tok _,q⟩
 |byt y=>
  obtain⟨t,rfl⟩:=rx;obtain⟨hy,e'⟩:y.size<=YB/\k=((y.size:Int) !=0):=e;subst e';exact PySem.W.truthy_bytes ?D ⟨H,I.tok _,q⟩
 |ref p=>
  cases rx;have e':(∃xs,bK X.K H p xs/\k=!xs.isEmpty)\/(∃xs,dC X.K H p xs/\k=!xs.isEmpty)\/∃kvs,H p=Ya (.dK kvs)/\k=!kvs.isEmpty:=e;rcases e' with⟨xs,hx,e'⟩|⟨xs,hx,e'⟩|⟨kvs,hx,e'⟩
  ·subst e';obtain⟨its,r,pl,hz⟩:=I.list hx;have hlen:=r.length;exact wpAny_truthy_list pl.isList (by simp only[Yx];omega) ⟨H,I.tok _,by rw[Rf r];exact q⟩
  ·subst e';obtain⟨its,r,pl,hz⟩:=I.tuple hx;have hlen:=r.length;exact truthy_tuple pl (by simp only[Yx];omega) ⟨H,I.tok _,by rw[Rf r];exact q⟩
  ·subst e';obtain⟨hz,hS,vs,r,m⟩:kvs.length<=YB/\(p==eK)=false/\∃vs,KV kvs vs/\s.heap.DictOf ?D3 p vs:=I.hok p _ hx;have hlen:kvs.length=vs.length:=bX r;exact wpAny_truthy_dict hS m ?D ⟨H,I.tok _,by rw[acf r];exact q⟩
 |_=>exact(show False from e).elim
theorem XN(ha:PE X a ta)(he:∀whole,DC a X.env whole=(do let v<-whole;rl a.pos;ny [v] (truthy v))):
  PT X a (λσ H Q=>ta σ H λx H'=>∃k,ah8 X.K x H' k/\Q k H'):=by
 intro pins s σ H Q I h;exact IL (eZ ?A6 λv s1 ⟨x,H1,I1,r1,q1⟩=>akT pins s1 σ H1 x v Q I1 r1 q1) (he _)
theorem lQ{x:V}(r:Vals [x] us):∃u,us=[u]/\RelV x u:=by
 cases r with
 |cons r1 r2=>cases r2;exact⟨_,rfl,r1⟩
theorem aaq{x:V}(r:Vals [x,y] us):∃u w',us=[u,w']/\RelV x u/\RelV y w':=by
 cases r with
 |cons r1 r2=>
  cases r2 with
  |cons r3 r4=>cases r4;exact⟨_,_,rfl,r1,r3⟩
theorem Uw(hc:X.calm=true):jQ X (.builtin "max") (λxs H Q=>∃i j,xs=[.int i,.int j]/\Q (.int (if j>i then j else i)) H):=by
 intro pins s σ H xs us Q I r h;obtain⟨i,j,rfl,q⟩:=h;obtain⟨u,w',rfl,⟨t,rfl⟩,⟨t',rfl⟩⟩:=aaq r;refine max_two_ints ?BK λh' tk k=>⟨_,H,I.kept k,?_,q⟩;by_cases hj:j>i
 ·rw[if_pos hj,if_pos hj];exact⟨_,rfl⟩
 ·rw[if_neg hj,if_neg hj];exact⟨_,rfl⟩
end
structure acK(h:YT)(x dx C:Yc)(mA:Ym->Option Ye):Prop where
 obj:h.get? x=Ya (iX C dx)
 ns:h.Ns1 dx mA
 ne:dx≠x
theorem aen(n:h.Ns1 dx mA):∃od,h.get? dx=Ya od/\∀name,vw name od=Ya (mA name):=by
 obtain⟨o,es,ep,ho,hd,hk,_,hm⟩:=n;refine⟨o,ho,λname=>?_⟩;have e:=hm name;unfold nsFind findBy at e;rw[<-Array.find?_toList]at e;unfold vw;rw[hd];dsimp only;split
 ·rename_i y q;rw[q]at e;exact congrArg Ya e
 ·rename_i q;rw[q]at e;have a:es.toList.any (·.refKey)=false:=by
   rw[xC];intro y hy;obtain⟨z,t,hkey⟩:=hk y (Array.mem_toList_iff.mp hy);simp[DictEntry.refKey,hkey]
  have a':¬ es.toList.any (·.refKey)=true:=by rw[a];exact YN
  rw[if_neg a'];exact congrArg Ya e
theorem acK.look{x:Yc}(I:acK h x dx C mA):∃od,PySem.W.InstAt h x (iX C dx) C (Ya od)/\∀name,vw name od=Ya (mA name):=
 let ⟨od,ho,hl⟩:=aen I.ns
 ⟨od,⟨I.obj,rfl,rfl,ho⟩,hl⟩
section
variable{K:Yd}{x f:Yc}{v:Ye}
theorem aiK{expr:Bool}(X:K.In s.heap)(I:acK s.heap x dx C mA)(hg:sR K C name=true)(hh:xD K C=true)(ha:gz K (.ref C) name=Ya Yb)(hv:mA name=Ya v)(hv':y4 v=true)(h:Q v ?C3):
  Yn ?I A (Kk (.ref x) name expr) Q E s:=by
 obtain⟨od,J,hl⟩:=I.look;exact PySem.W.get_value X J (vj hg).1 (PySem.W.findObj_own hh ha rfl (by rw[hl,hv])) hv' h
theorem agh{Q:Ye×List Ye->Yl->Prop}(X:K.In s.heap)(I:acK s.heap x dx C mA)(hg:sR K C name=true)(hf:gz K (.ref C) name=Ya (Ya (.ref f)))(ht:DH K (.ref f)=true)(hv:mA name=Yb)(h:Q (.ref f,[.ref x]) s):
  Yn ?I A (qV (.ref x) name pl) Q E s:=by
 obtain⟨od,J,hl⟩:=I.look;exact PySem.W.method_fn X J (vj hg).1 (vj hg).2 hf (beq_iff_eq.mp ht) (by show(vw name od).map (·.isSome)=Ya false;rw[hl,hv];rfl) h
theorem ajC{ns:List Ym}{Q:Unit->Yl->Prop}(X:K.In s.heap)(I:acK s.heap x dx C mA)
  (hs:gz K (.ref C) "__setattr__"=Ya (Ya (.builtin "object.__setattr__"))) (hp:EH K C=true) (ht:AI K C name=Ya Yb) (hh:xD K C=true)
  (hw:Dx mA ns) (hsz:ns.length<=YB)
  (h:∀h',acK h' x dx C (λy=>if y=name then Ya v else mA y)->fm dx s.heap h'->Q () {s with heap:=h',toks:=s.toks+ 2}):
  Yn ?I A (setAttr (.ref x) name v) Q E s:=by
 obtain⟨od,J,hl⟩:=I.look;refine PySem.W.set_plain X J hs (PySem.W.osa_open (s:=?C3) (r:=Yb) X J hp ht λb=>?_);obtain⟨cd,hc,hd'⟩:=PySem.W.any_some hh;have hx:s.heap.get? x=Ya ⟨.ref C,Ya dx,.plain,#[]⟩:=I.obj;refine Yg (Yp (Yg (Yg (wpAny_loadPart hx (Yg (PySem.W.Looks.here (s:=?C3) (PySem.W.looks_clsIn X hc) ?_))))));rw[hd'];refine Yp (a:=Ya dx) (Yg (Yp (Yg ?_)));refine wpAny_nsSet1 (s:=?C3) I.ns λh' hn2 hs2=>?_;obtain⟨oD,esD,epD,hoD,hdD,hcD⟩:=hn2.count (PySem.Within.cons name v hw);refine Yg (wpAny_lookBehind hoD (by rw[hdD];exact pastItsLine_dict (bP hcD (by rw[Y8];omega))) ?_);exact Yp (h _ ⟨(hs2.2 _ (Ne.symm I.ne)).trans I.obj,hn2,I.ne⟩ hs2)
theorem ag4{R:pV->Yl->Prop}{vs:List Ye}(X:K.In s.heap)(hm:FV K C=true)(hi:gz K (.ref C) "__init__"=Ya (Ya (.ref f)))(hf:PySem.W.typeIn K (.ref f)=Ya (.type "function"))(h:c5 ?I (A.under (.builtin "type.__call__" ⟨.ref C::vs,kw⟩)) (.call (.ref f) ⟨.ref ?U::vs,kw⟩) (PySem.W.InitBack ?U R)
   {s with heap:=(s.heap.push fA).push (iX C s.heap.objs.size)}):
  c5 ?I A (.call (.ref C) ⟨vs,kw⟩) R s:=by
 obtain⟨hh,g,d,t,os⟩:=s;exact PySem.W.make_core (PySem.W.makes_of X hm) (PySem.W.looks_findIn X hi) (λself=>PySem.W.bind_fn X self hf) (.inl rfl) h
end
noncomputable def dD(f:Ym)(v:V):List ?GQ->List ?GQ
 |[]=>[(f,v)]
 |(g,x)::r=>if g=f then(g,v)::r else(g,x)::dD f v r
theorem Nq(f g:Ym)(v:V):∀fs:List ?GQ,(dD f v fs).lookup g=if g=f then Ya v else fs.lookup g
 |[]=>by
  show qf g [(f,v)]=_;by_cases h:g=f
  ·have hb:(g==f)=true:=beq_iff_eq.mpr h;simp only[qf,hb,if_pos h]
  ·have hb:(g==f)=false:=beq_eq_false_iff_ne.mpr h;simp only[qf,hb,if_neg h]
 |(k,x)::r=>by
  have ih:=Nq f g v r;rw[show dD f v ((k,x)::r)=(if k=f then(k,v)::r else(k,x)::dD f v r)from rfl];by_cases hk:k=f
  ·rw[if_pos hk];by_cases h:g=k
   ·have hb:(g==k)=true:=beq_iff_eq.mpr h;simp only[qf,hb,if_pos (h.trans hk)]
   ·have hb:(g==k)=false:=beq_eq_false_iff_ne.mpr h;simp only[qf,hb,if_neg (λe:g=f=>h (e.trans hk.symm))]
  ·rw[if_neg hk];by_cases h:g=k
   ·have hb:(g==k)=true:=beq_iff_eq.mpr h;simp only[qf,hb,if_neg (λe:g=f=>hk (h.symm.trans e))]
   ·have hb:(g==k)=false:=beq_eq_false_iff_ne.mpr h;simp only[qf,hb];exact ih
theorem Mt(f:Ym)(v:V):∀fs:List ?GQ,f∈(dD f v fs).map (·.1)/\∀g,g∈fs.map (·.1)->g∈(dD f v fs).map (·.1)
 |[]=>⟨by simp[dD],λg h=>by simp at h⟩
 |(k,x)::r=>by
  obtain⟨i1,i2⟩:=Mt f v r;rw[show dD f v ((k,x)::r)=(if k=f then(k,v)::r else(k,x)::dD f v r)from rfl];by_cases hk:k=f
  ·rw[if_pos hk];subst hk;exact⟨by simp,λg h=>by simpa using h⟩
  ·rw[if_neg hk];refine⟨?_,λg h=>?_⟩
   ·rw[YS];exact Yh _ i1
   ·rw[YS]at h⊢;rcases Yz.mp h with e|e
    ·exact Yz.mpr (.inl e)
    ·exact Yh _ (i2 g e)
theorem Nv(f:Ym)(v:V):∀fs:List ?GQ,(dD f v fs).length<=fs.length+ 1
 |[]=>by simp[dD]
 |(k,x)::r=>by
  have ih:=Nv f v r;rw[show dD f v ((k,x)::r)=(if k=f then(k,v)::r else(k,x)::dD f v r)from rfl];by_cases hk:k=f
  ·rw[if_pos hk,Y8,Y8];omega
  ·rw[if_neg hk,Y8,Y8];omega
theorem Er.some_of{o:Option Ye}(r:Er (Ya v) o):∃u,o=Ya u/\RelV v u:=by
 cases o with
 |none=>exact(show False from r).elim
 |some u=>exact⟨u,rfl,r⟩
theorem Er.none_of{o:Option Ye}(r:Er Yb o):o=none:=by
 cases o with
 |none=>rfl
 |some u=>exact(show False from r).elim
theorem aeL(r:RelV v u):y4 u=true:=by
 cases v with
 |non=>cases (show u=iS from r);rfl
 |bl b=>cases (show u=ua b from r);rfl
 |int i=>obtain⟨t,e⟩:=(show∃t,u=kc i t from r);cases e;rfl
 |str x=>obtain⟨t,e⟩:=(show∃t,u=AG x t from r);cases e;rfl
 |byt b=>obtain⟨t,e⟩:=(show∃t,u=JJ b t from r);cases e;rfl
 |flt b=>obtain⟨t,e⟩:=(show∃t,u=EW b t from r);cases e;rfl
 |ref a=>cases (show u=Y0 a from r);rfl
 |ty n=>cases (show u=j1 n from r);rfl
section
variable{fs':List ?GQ}
theorem Pg(hok:xP P w H h)(e:H a=Ya (.ins C dx fs)):∃mA,acK h a dx C mA/\(∀f,Er (fs.lookup f) (mA f))/\Dx mA (fs.map (·.1))/\fs.length<=1000/\H dx=Ya (.own a):=by
 obtain⟨d,z,ne,ob,mA,n,r,q⟩:=(show gQ P w H h a (.ins C dx fs)from hok a _ e);exact⟨mA,⟨ob,n,ne⟩,r,q,z,d⟩
end
structure T4(K:Yd)(C:Yc):Prop where
 pg:sR K C Str.empty=true
 hd:xD K C=true
 po:EH K C=true
 sa:gz K (.ref C) "__setattr__"=Ya (Ya (.builtin "object.__setattr__"))
theorem T4.get{K:Yd}(c:T4 K C)(f:Ym):sR K C f=true:=c.pg
def cH(K:Yd)(C:Yc)(f:Ym):Prop:=gz K (.ref C) f=Ya Yb
theorem cH.taker{K:Yd}{f:Ym}(n:cH K C f):AI K C f=Ya none:=by
 unfold AI;rw[show gz K (.ref C) f=Ya Yb from n];rfl
structure bY(K:Yd)(C:Yc)(m:Ym)(f:Yc):Prop where
 at_:gz K (.ref C) m=Ya (Ya (.ref f))
 fn:DH K (.ref f)=true
 kp:mf K (.ref f)=true
section
variable{f:Ym}
theorem abI{b:Bool}(I:bH X pins σ H s)(e:H a=Ya (.ins C dx fs))(c:T4 X.K C)(n:cH X.K C f)(l:fs.lookup f=Ya v)(h:∀u s',bH X pins σ H s'->RelV v u->Q u s'):Yn ?M A (Kk (.ref a) f b) Q E s:=by
 obtain⟨mA,O,r,_,_,_⟩:=Pg I.hok e;obtain⟨u,hu,ru⟩:=Er.some_of (v:=v) (o:=mA f) (by rw[<-l];exact r f);exact aiK I.kIn O (c.get f) c.hd n hu (aeL ru) (h u _ (I.tok _) ru)
theorem uN{g:Yc}{Q:Ye×List Ye->Yl->Prop}(I:bH X pins σ H s)(e:H a=Ya (.ins C dx fs))(c:T4 X.K C)(k:bY X.K C m g)(l:fs.lookup m=Yb)(h:Q (.ref g,?BV) s):Yn ?M A (qV (.ref a) m pl) Q E s:=by
 obtain⟨mA,O,r,_,_,_⟩:=Pg I.hok e;have hn:mA m=none:=Er.none_of (by rw[<-l];exact r m);exact agh I.kIn O (c.get m) k.at_ k.fn hn h
theorem ab1{Q:Unit->Yl->Prop}(I:bH X pins σ H s)(e:H a=Ya (.ins C dx fs))(c:T4 X.K C)(n:cH X.K C f)(hl:fs.length<1000)(ry:RelV y u)(h:∀s',bH X pins σ (upd H a (.ins C dx (dD f y fs))) s'->Q () s'):Yn ?M A (setAttr (.ref a) f u) Q E s:=by
 obtain⟨mA,O,r,wi,_,ho⟩:=Pg I.hok e;have hz:(fs.map (·.1)).length<=YB:=by rw[Yk,ip];omega
 refine ajC I.kIn O c.sa c.po n.taker c.hd wi hz λh' O' sb=>h _ ?_;have hd:∃o,h'.get? dx=Ya o:=let ⟨o,_,_,e',_⟩:=O'.ns;⟨o,e'⟩;refine I.write (x:=a) (e:=dx) (by rw[e];exact gB) (.inr ho) (λb q hb z=>(sb.2 b hb).trans z) hd ?_;refine⟨by rw[aQ O.ne];exact ho,?_,O.ne,O'.obj,_,O'.ns,λg=>?_,λg hg=>?_⟩
 ·have:=Nv f y fs;omega
 ·show Er ((dD f y fs).lookup g) (if g=f then Ya u else mA g);rw[Nq];by_cases q:g=f
  ·rw[if_pos q,if_pos q];exact ry
  ·rw[if_neg q,if_neg q];exact r g
 ·by_cases q:g=f
  ·rw[q];exact(Mt f y fs).1
  ·refine(Mt f y fs).2 g (wi g λz=>hg ?_);show(if g=f then Ya u else mA g)=Yb;rw[if_neg q];exact z
theorem bH.made(I:bH X pins σ H s):bH X pins σ (upd (upd H s.heap.objs.size (.own ?U)) ?U (.ins C s.heap.objs.size []))
  {s with heap:=(s.heap.push fA).push (iX C s.heap.objs.size)}:=by
 have e1:(s.heap.push fA).get? s.heap.objs.size=Ya fA:=Yq s.heap rfl;have e2:((s.heap.push fA).push (iX C s.heap.objs.size)).get? (s.heap.objs.size+ 1)=Ya (iX C s.heap.objs.size):=by
  have:=Yq (s.heap.push fA) (o:=iX C s.heap.objs.size) rfl;rwa [fw]at this
 have e3:(s.heap.push fA).Ns s.heap.objs.size (λ_=>Yb):=⟨fA,#[],_,e1,rfl,(λe he=>absurd he ?N),λ_=>rfl⟩;have I1:=I.laid (a:=s.heap.objs.size) (o:=.own ?U) (h':=s.heap.push fA) (t':=s.toks) (λb u q=>Yi _ q) ?BU ⟨_,e1⟩;refine I1.laid (a:=s.heap.objs.size+ 1) (o:=.ins C s.heap.objs.size []) (t':=s.toks) (λb u q=>Yi _ q) (kg (fw _ _)) ?_;have ne:s.heap.objs.size≠s.heap.objs.size+ 1:=YF (jI _);refine⟨by rw[aQ ne,aA],YX _,ne,e2,λ_=>Yb,(Heap.Ns1.of_empty e3).at λo q=>Yi _ q,λ_=>gB,λy hy=>absurd rfl hy⟩
theorem aig{f:Ym}(hb:kH e f env (ay e env)=ay e env)(h:Yn ?I A (ay e env) (λo s₁=>Yn ?I A (Kk o f true) Q E s₁) E s):Yn ?I A (ay (.Attribute e f pos) env) Q E s:=
 Attribute_any_ h (by rw[arm_eval_Attribute,hb])
end
def amy(K:Yd)(ta:TE)(f:Ym):TE:=λσ H Q=>ta σ H λx H1=>∃a C dx fs v,x=.ref a/\H1 a=Ya (.ins C dx fs)/\T4 K C/\cH K C f/\fs.lookup f=Ya v/\Q v H1
def ae8(K:Yd)(ta tv:TE)(f:Ym):TS:=λD σ H=>tv σ H λy H1=>ta σ H1 λx H2=>∃a C dx fs,x=.ref a/\H2 a=Ya (.ins C dx fs)/\T4 K C/\cH K C f/\fs.length<1000/\
 D.nx σ (upd H2 a (.ins C dx (dD f y fs)))
section
variable{o:YZ}{f:Ym}
theorem akP(he:PE X e ta)(hb:kH e f X.env (ay e X.env)=ay e X.env):PE X (.Attribute e f pos) (amy X.K ta f):=by
 intro pins s σ H Q I h;refine aig hb (eZ ?AY λu s1 zz=>?_);obtain⟨x,H1,I1,rx,a,C,dx,fs,v,ex,ea,c,n,l,q⟩:=zz;subst ex;obtain rfl:u=Y0 a:=rx;exact abI I1 ea c n l λu' s2 I2 ru=>⟨v,H1,I2,ru,q⟩
theorem alg(ha:PE X o ta)(hv:PE X value tv)(hs:w8 value (Ya (.Attribute o f pos')) pos.line X.env=pure false):PS X (.Assign [.Attribute o f pos'] value pos) (ae8 X.K ta tv f):=by
 intro pins s σ H D I h;refine plainObj_wpAny_Assign_Attribute (eZ (hv pins s σ H _ I h) λu s1 zz=>?_) hs;obtain⟨y,H1,I1,ry,q⟩:=zz;refine eZ (ha pins s1 σ H1 _ I1 q) λov s2 zz=>?_;obtain⟨x,H2,I2,rx,a,C,dx,fs,ex,ea,c,n,l,q2⟩:=zz;subst ex;obtain rfl:ov=Y0 a:=rx;exact ab1 I2 ea c n l ry λs3 I3=>⟨σ,_,I3,q2⟩
theorem akK{args:List YZ}(he:PE X e te)(I:bH X pins σ H s)(h:te σ H λx H1=>∃a C dx fs g,x=.ref a/\H1 a=Ya (.ins C dx fs)/\T4 X.K C/\bY X.K C m g/\fs.lookup m=Yb/\
   ∀s1,bH X pins σ H1 s1->Yn ?M X.A (vx pos (.ref g) ?BV (dk pos (YR args X.env)) ?DQ) Q X.xe s1) (ht:ay (.Call (.Attribute e m apos) args [] pos) X.env=(do
   let ov<-ay e X.env
   rl apos.atName
   let (f,first)<-ny [ov] (qV ov m pl)
   vx pos f first (dk pos (YR args X.env)) ?DQ)):
  Yn ?M X.A (ay (.Call (.Attribute e m apos) args [] pos) X.env) Q X.xe s:=by
 refine iO (pl:=pl) (eZ ?AY λu s1 zz=>?_) ht;obtain⟨x,H1,I1,rx,a,C,dx,fs,g,ex,ea,c,k,l,q⟩:=zz;subst ex;obtain rfl:u=Y0 a:=rx;exact uN I1 ea c k l (q s1 I1)
end
section
variable{c:Ye}{b:Bool}
inductive Ko (K:Yd) (H:Hp):V->Ye->Prop where
 |non:Ko K H .non (.type "NoneType")
 |bl (x:Bool):Ko K H (.bl x) (.type "bool")
 |int (i:Int):Ko K H (.int i) (.type "int")
 |str (x:Ym):Ko K H (.str x) (.type "str")
 |flt (x:UInt64):Ko K H (.flt x) (.type "float")
 |lst {a:Yc} {xs:List V} (e:H a=Ya (.lst xs)):Ko K H (.ref a) (.type "list")
 |frz {a:Yc} {o:Y6} {xs:List V} (e:H a=Ya (.frz o (.lst xs))):Ko K H (.ref a) (.type "list")
 |tup {a:Yc} {xs:List V} (e:H a=Ya (.tup xs)):Ko K H (.ref a) (.type "tuple")
 |dK {a:Yc} {kvs:List ?DG} (e:H a=Ya (.dK kvs)):Ko K H (.ref a) (.type "dict")
 |dT {a:Yc} {kvs:List ?BD} (e:H a=Ya (.dT kvs)):Ko K H (.ref a) (.type "dict")
 |ins {a C dx:Yc} {fs:List ?GQ} (e:H a=Ya (.ins C dx fs)) (cl:T4 K C) (ha:gz K (.ref C) "__class__"=Ya (Ya (.builtin "object.__class__")))
   (hn:EI K (.builtin "object.__class__") "__get__"=Ya (Ya (.builtin "getset_descriptor.__get__"))) (htk:PySem.W.takesIn K (.builtin "object.__class__")=Ya true)
   (hm:PySem.W.mroIn K C (.type "object")=Ya true):Ko K H (.ref a) (.ref C)
theorem aeC{x:V}{t:Ye}(I:bH X pins σ H s)(rx:RelV x u)(ty:Ko X.K H x t)(e:BE X.K t c=Ya b)(h:∀tk,Q (.bool b) {s with toks:=tk}):
  Yn ?M A (call (.builtin "isinstance") [u,c]) Q E s:=by
 cases ty with
 |non=>cases (show u=iS from rx);exact fb PySem.W.kitx_none I.kIn gB e (λz=>nomatch z) h
 |bl y=>cases (show u=ua y from rx);exact fb PySem.W.kitx_bool I.kIn gB e (λz=>nomatch z) h
 |int i=>obtain⟨t,q⟩:=(show∃t,u=kc i t from rx);cases q;exact fb PySem.W.kitx_int I.kIn gB e (λz=>nomatch z) h
 |str y=>obtain⟨t,q⟩:=(show∃t,u=AG y t from rx);cases q;exact fb PySem.W.kitx_str I.kIn gB e (λz=>nomatch z) h
 |flt y=>obtain⟨t,q⟩:=(show∃t,u=EW y t from rx);cases q;exact fb PySem.W.kitx_float I.kIn gB e (λz=>nomatch z) h
 |@lst a xs ea=>
  cases ?GD;obtain⟨_,_,n,_,h1⟩:=(show gQ X.prog X.w H s.heap a (.lst xs)from I.hok a _ ea);exact fb EJ I.kIn ⟨_,h1,rfl⟩ e (λz=>nomatch z) h
 |@frz a ob xs ea=>
  cases ?GD;obtain⟨_,_,_,n,_,h1⟩:=(show gQ X.prog X.w H s.heap a (.frz ob (.lst xs))from I.hok a _ ea);exact fb EJ I.kIn ⟨_,h1,rfl⟩ e (λz=>nomatch z) h
 |@tup a xs ea=>
  cases ?GD;obtain⟨_,_,_,p⟩:=(show gQ X.prog X.w H s.heap a (.tup xs)from I.hok a _ ea);obtain⟨o,h1,h2,_⟩:=p;exact fb PySem.W.kitx_tuple I.kIn ⟨o,h1,h2⟩ e (λz=>nomatch z) h
 |@dK a kvs ea=>
  cases ?GD;obtain⟨_,_,vs,_,p⟩:=(show gQ X.prog X.w H s.heap a (.dK kvs)from I.hok a _ ea);obtain⟨o,es,ep,h1,h2,_⟩:=p;exact fb EK I.kIn ⟨o,h1,h2.1⟩ e (λz=>nomatch z) h
 |@dT a kvs ea=>
  cases ?GD;obtain⟨_,_,xs,_,o,es,ep,h1,h2,_⟩:=(show gQ X.prog X.w H s.heap a (.dT kvs)from I.hok a _ ea);exact fb EK I.kIn ⟨o,h1,h2.1⟩ e (λz=>nomatch z) h
 |@ins a C dx fs ea cl ha hn htk hm=>
  cases ?GD;obtain⟨mA,O,_⟩:=Pg I.hok ea;obtain⟨od,J,_⟩:=O.look;exact fb (PySem.W.kitx_own (cl.get _) cl.hd ha hn htk hm) I.kIn J e (λz=>nomatch z) h
end
structure gJ(k:Nat)(A:Y7):Prop where
 hd:A.handled=Yb
 dp:A.depth+ 3*k+ 5<vE
 un:A.units+ 16*k+ 200<hV
theorem gJ.mono(r:gJ k A)(h:j<=k):gJ j A:=⟨r.hd,by have:=r.dp;omega,by have:=r.un;omega⟩
theorem gJ.deeper(r:gJ (k+ 1) A)(env:m4):gJ k (A.deeper env):=
 ⟨r.hd,by have:=r.dp;show A.depth+ 1+ 3*k+ 5<_;omega,by have:=r.un;show A.units+ 3+ 16*k+ 200<_;omega⟩
theorem abw:(A.under (.builtin "type.__call__" ⟨.ref C::us,kw⟩)).depth=A.depth+ 1:=by
 first|rfl|simp[Around.under,Code.weight,Code.isCreation,Code.isGuard,Code.isCaller,Code.frames,Code.isFrame,guardIds]
theorem ab0:(A.under (.builtin "type.__call__" ⟨.ref C::us,kw⟩)).units=A.units+ 1:=by
 first|rfl|simp[Around.under,Code.cUnits,Code.frames,Code.isFrame]
theorem gJ.make(r:gJ (k+ 1) A)(C:Yc)(us:List Ye)(kw:List (Ym×Ye)):gJ k (A.under (.builtin "type.__call__" ⟨.ref C::us,kw⟩)):=
 ⟨r.hd,by have:=r.dp;rw[abw];omega,by have:=r.un;rw[ab0];omega⟩
theorem gJ.depth(r:gJ k A):A.depth<vE:=by have:=r.dp;omega
theorem gJ.units(r:gJ k A):A.units+ 64<hV:=by have:=r.un;omega
theorem gJ.units0(r:gJ k A):A.units<hV:=by have:=r.un;omega
def sJ:TA:=λ_ H Q=>Q [] H
def zj(ta:TE)(tr:TA):TA:=λσ H Q=>ta σ H λx H1=>tr σ H1 λxs H2=>Q (x::xs) H2
section
theorem ao:PA X [] sJ:=λ_ _ _ _ H Q I h=>Calls.spliced_nil ⟨[],H,I,.nil,h⟩
theorem aj(ha:PE X e te)(hr:PA X es t)(hs:YR (e::es) X.env=?A8::YR es X.env:=by rfl):PA X (e::es) (zj te t):=by
 intro pos pins s σ H Q I h;rw[hs];show Yn _ _ (spliced (?A8::dk pos ?CY)) _ _ s;refine Calls.spliced_cons (eZ ?A6 λu s1 zz=>?_);obtain⟨x,H1,I1,r1,q1⟩:=zz;exact eZ (hr pos pins s1 σ H1 _ I1 q1) λus s2 ⟨xs,H2,I2,r2,q2⟩=>⟨x::xs,H2,I2,.cons r1 r2,q2⟩
def akS(t:TA):TE:=λσ H Q=>t σ H λxs H1=>xs.length<=YB/\∀p,H1 p=Yb->Q (.ref p) (upd H1 p (.tup xs))
def aof(t:TA):TE:=λσ H Q=>t σ H λxs H1=>xs.length<=YB/\∀p,H1 p=Yb->Q (.ref p) (upd H1 p (.lst xs))
theorem dY{x1}(h:PA X es t):PE X (.Tuple es x1 pos) (akS t):=by
 intro pins s σ H Q I hq;refine wpAny_Tuple_spliced (eZ (h pos pins s σ H _ I hq) λus s1 ⟨xs,H1,I1,r,z,q⟩=>⟨by rw[<-r.length];exact z,?_⟩);have hf:H1 s1.heap.objs.size=none:=I1.hok.fresh ?BU;refine⟨.ref s1.heap.objs.size,upd H1 s1.heap.objs.size (.tup xs),I1.laid (t':=s1.toks) (λb u e=>Yi _ e) ?BU ?_,rfl,q _ hf⟩;exact⟨z,us,r,xg.new _ _⟩
theorem dZ(h:PA X es t):PE X (.List es pos) (aof t):=by
 intro pins s σ H Q I hq;refine wpAny_List_spliced (eZ (h pos pins s σ H _ I hq) λus s1 ⟨xs,H1,I1,r,z,q⟩=>⟨by rw[<-r.length];exact z,?_⟩);have hf:H1 s1.heap.objs.size=none:=I1.hok.fresh ?BU;refine⟨.ref s1.heap.objs.size,upd H1 s1.heap.objs.size (.lst xs),I1.laid (t':=s1.toks) (λb u e=>Yi _ e) ?BU ?_,rfl,q _ hf⟩;exact⟨z,us,0,r,Yq _ rfl⟩
end
abbrev Sp:=List V->Hp->VK->XK->Prop
variable{sp:Sp}
abbrev CXT:=List m4->Hp->Yl->XK->Ye->Yl->Prop
variable{CX:CXT}
structure Wl(P:YI)(w:YV)(K:Yd)(mg:Ym->Option Ye)(base:YT)(A:Y7)(outer:List m4)(s:Yl)(H:Hp):Prop where
 frames:A.frames=Ya outer
 mod:Mod K mg base
 bs:∀b o,base.get? b=Ya o->s.heap.get? b=Ya o/\H b=Yb
 bsz:base.objs.size<=s.heap.objs.size
 funs:s.heap.FunFrames base outer
 frf:∀b∈frs outer,H b=Yb
 hok:xP P w H s.heap
 bare:tI s.gens
def CE(outer:List m4)(P:YI)(w:YV)(H:Hp)(s:Yl)(Q:VK)(u:Ye)(s':Yl):Prop:=
 ∃v H',s'.os=s.os/\tI s'.gens/\Un (frs outer) [] H H' s.heap s'.heap/\xP P w H' s'.heap/\RelV v u/\Q v H'
def CR(CX:CXT)(outer:List m4)(P:YI)(w:YV)(H:Hp)(s:Yl)(Q:VK)(E:XK)(r:pV)(s':Yl):Prop:=
 match r with
 | .ok (.ret u)=>CE outer P w H s Q u s'
 | .ok _=>False
 | .error e=>CX outer H s E e s'
structure aG(P:YI)(w:YV)(K:Yd)(mg:Ym->Option Ye)(base:YT)(CX:CXT)(k:Nat)(f:Yc)(fd:Yt)(ps:List Ym)(sp:Sp):Prop where
 len:∀vs H Q E,sp vs H Q E->vs.length=ps.length
 run:∀(A:Y7) (outer:List m4) (s:Yl) (H:Hp) (args:Args) (us:List Ye) (vs:List V) (Q:VK) (E:XK),gJ k A->Wl P w K mg base A outer s H->BF s fd args (ps.zip us)->Vals vs us->sp vs H Q E->
  c5 (Yr P w) A (.call (.ref f) args) (CR CX outer P w H s Q E) s
theorem aG.mono{K:Yd}{f:Yc}(F:aG P w K mg base CX j f fd ps sp)(h:j<=k):
  aG P w K mg base CX k f fd ps sp:=⟨F.len,λA outer s H args us vs Q E hr=>F.run A outer s H args us vs Q E (hr.mono h)⟩
theorem Wl.make{K:Yd}(e:Wl P w K mg base A outer s H)(C:Yc)(us:List Ye)(kw:List (Ym×Ye)):
  Wl P w K mg base (A.under (.builtin "type.__call__" ⟨.ref C::us,kw⟩)) outer s H:=⟨by first|exact e.frames|(simpa [Around.under,Code.envs,Code.isFrame,pushEnvs]using e.frames),e.mod,e.bs,e.bsz,e.funs,e.frf,e.hok,e.bare⟩
section
theorem bH.env0(I:bH X pins σ H s):Wl X.prog X.w X.K X.mg X.base X.A X.stack s H:=
 ⟨I.ok.frames,I.ok.mod,I.bs,bP I.ok.bsz I.sz,I.stack,I.stkFree,I.hok,I.bare⟩
theorem bH.after{Q:VK}(I:bH X pins σ H s)(h:CE X.stack X.prog X.w H s Q u s'):EP X pins σ Q u s':=by
 obtain⟨v,H',os,bare,un,hok,r,q⟩:=h;obtain⟨hh,g,d,t,os'⟩:=s';obtain rfl:os'=s.os:=os;exact⟨v,H',I.call (h':=hh) (g':=g) (d':=d) (t':=t) (ch:=[]) un hok bare (λb z=>absurd z ?N),r,q⟩
end
def ade(sp:Sp)(dvs:List V)(E:XK)(t:TA):TE:=λσ H Q=>t σ H λvs H1=>sp (vs++dvs) H1 Q E
def NZ(C:Yc)(m:Ym)(sp:Sp)(dvs:List V)(E:XK)(ta:TE)(t:TA):TE:=λσ H Q=>ta σ H λx H1=>∃a dx fs,x=.ref a/\H1 a=Ya (.ins C dx fs)/\fs.lookup m=Yb/\
 t σ H1 λvs H2=>sp (x::(vs++dvs)) H2 Q E
def ada(C:Yc)(sp:Sp)(dvs:List V)(E:XK)(t:TA):TE:=λσ H Q=>t σ H λvs H1=>∀x dx,H1 x=Yb->H1 dx=Yb->dx≠x->
 sp (.ref x::(vs++dvs)) (upd (upd H1 dx (.own x)) x (.ins C dx [])) ?DT E
def Binds(K:Yd)(fd:Yt)(ps:List Ym)(ds:List Ye):Prop:=
 ∀(s:Yl) (us:List Ye),K.In s.heap->(us++ds).length=ps.length->BF s fd ⟨us,[]⟩ (ps.zip (us++ds))
theorem Binds.all{K:Yd}(h:∀us:List Ye,us.length=ps.length->Cf fd ⟨us,[]⟩=pure (ps.zip us)):Binds K fd ps []:=λs us _ hl=>by
 rw[dA]at hl⊢;exact .of_eq (h us hl)
def CT(CX:CXT)(X:Cx)(E:XK):Prop:=∀(pins:List ?AQ) (σ:St) (H:Hp) (s:Yl) (e:Ye) (s':Yl),bH X pins σ H s->CX X.stack H s E e s'->X.xe e s'
section
variable{f:Yc}{dvs:List V}{ds:List Ye}{E:XK}{o:YZ}
theorem Eu{Q:VK}(F:aG X.prog X.w X.K X.mg X.base CX k f fd ps sp)(hr:gJ k X.A)(hb:Binds X.K fd ps ds)(hd:Vals dvs ds)(hx:CT CX X E)(I:bH X pins σ H s)(r:Vals vs us)(h:sp (vs++dvs) H Q E):Yn ?M X.A (call (.ref f) us) ?BT X.xe s:=by
 have r2:Vals (vs++dvs) (us++ds):=r.append hd;have hl:(us++ds).length=ps.length:=by rw[<-r2.length];exact F.len _ _ _ _ h
 refine Ck (codeAny_mono (F.run X.A X.stack s H ⟨us,[]⟩ (us++ds) (vs++dvs) Q E hr I.env0 (hb s us I.kIn hl) r2 h) λr s' hq=>?_);cases r with
 |error e=>exact hx pins σ H s e s' I hq
 |ok fl=>
  cases fl with
  |ret u=>exact I.after hq
  |next=>exact fh hq
  |brk=>exact fh hq
  |cont=>exact fh hq
theorem ai6(F:aG X.prog X.w X.K X.mg X.base CX k f fd ps sp)(hr:gJ k X.A)(hg:Gl X x)(hm:X.mg x=Ya (.ref f))(hk:mf X.K (.ref f)=true)(hb:Binds X.K fd ps ds)(hd:Vals dvs ds)(hx:CT CX X E)
  (ha:PA X (e::es) t) (hdb:(x==("__debug__":Ym))=false:=by decide) (he:YR (e::es) X.env=?A8::YR es X.env:=by rfl) (hpl:(dk pos ?CY).any (·.1)=false:=by rfl):
  PE X (.Call (.Name x p) (e::es) [] pos) (ade sp dvs E t):=by
 intro pins s σ H Q I h;refine ff (Jz I hg hm ?_ hdb);refine nB (h₀:=X.base) I.ok.mod.kin hk (eZ ?DN λus s1 ⟨vs,H1,I1,r,q⟩=>⟨I1.kIn,?_⟩) he hpl;exact Eu F hr hb hd hx I1 r q
theorem dF(he:PE X o ta)(c:T4 X.K C)(hm:bY X.K C m f)(F:aG X.prog X.w X.K X.mg X.base CX k f fd ps sp)(hr:gJ k X.A)(hb:Binds X.K fd ps ds)(hd:Vals dvs ds)(hx:CT CX X E)(ht:ay (.Call (.Attribute o m apos) [] [] pos) X.env=(do
   let ov<-ay o X.env
   rl apos.atName
   let (f,first)<-ny [ov] (qV ov m pl)
   vx pos f first (dk pos (YR [] X.env)) ?DQ):=by rfl):
  PE X (.Call (.Attribute o m apos) [] [] pos) (NZ C m sp dvs E ta sJ):=by
 intro pins s σ H Q I h;refine iO (pl:=pl) (eZ ?AY λu s1 zz=>?_) ht;obtain⟨x,H1,I1,rx,a,dx,fs,ex,ea,l,q⟩:=zz;subst ex;obtain rfl:u=Y0 a:=rx;refine uN I1 ea c hm l ?_;exact CY (first:=?BV) I1.kIn hm.kp (Eu (us:=?BV) (vs:=?BV) F hr hb hd hx I1 (.cons rfl .nil) q)
structure Mk(K:Yd)(C f:Yc):Prop where
 makes:FV K C=true
 init:gz K (.ref C) "__init__"=Ya (Ya (.ref f))
 fn:DH K (.ref f)=true
 kp:mf K (.ref C)=true
theorem ah4{Q:VK}(M:Mk X.K C f)(F:aG X.prog X.w X.K X.mg X.base CX k f fd ps sp)(hr:gJ (k+ 1) X.A)(hb:Binds X.K fd ps ds)(hd:Vals dvs ds)(hx:CT CX X E)(I:bH X pins σ H s)(r:Vals vs us)(h:∀x dx,H x=Yb->H dx=Yb->dx≠x->sp (.ref x::(vs++dvs)) (upd (upd H dx (.own x)) x (.ins C dx [])) ?DT E):
  Yn ?M X.A (call (.ref C) us) ?BT X.xe s:=by
 have hq:=h ?U s.heap.objs.size (I.hok.fresh (gx _)) ?AL (YF (jI _));have I2:=bH.made (C:=C) I;have r2:Vals (V.ref ?U::(vs++dvs)) (Y0 ?U::(us++ds)):=.cons rfl (r.append hd);have hl:(Y0 ?U::us++ds).length=ps.length:=by
  have e:=r2.length;rw[F.len _ _ _ _ hq]at e;exact e.symm
 refine Ck (ag4 (f:=f) I.kIn M.makes M.init (beq_iff_eq.mp M.fn) (codeAny_mono (F.run _ X.stack _ _ ⟨Y0 ?U::us,[]⟩ (Y0 ?U::(us++ds)) _ _ E (hr.make C us [])
  (I2.env0.make C us []) (hb _ (Y0 ?U::us) I2.kIn hl) r2 hq) λr s' hq'=>?_))
 cases r with
 |error e=>exact hx pins σ _ _ e s' I2 hq'
 |ok fl=>
  cases fl with
  |ret u=>
   obtain⟨v,H',I3,rv,ev,q3⟩:=I2.after hq';subst ev;exact⟨rv,⟨V.ref ?U,H',I3,rfl,q3⟩⟩
  |next=>exact fh hq'
  |brk=>exact fh hq'
  |cont=>exact fh hq'
theorem wz(M:Mk X.K C f)(F:aG X.prog X.w X.K X.mg X.base CX k f fd ps sp)(hr:gJ (k+ 1) X.A)(hg:Gl X x)(hm:X.mg x=Ya (.ref C))(hb:Binds X.K fd ps ds)(hd:Vals dvs ds)(hx:CT CX X E)
  (ha:PA X (e::es) t) (hdb:(x==("__debug__":Ym))=false:=by decide) (he:YR (e::es) X.env=?A8::YR es X.env:=by rfl) (hpl:(dk pos ?CY).any (·.1)=false:=by rfl):
  PE X (.Call (.Name x p) (e::es) [] pos) (ada C sp dvs E t):=by
 intro pins s σ H Q I h;refine ff (Jz I hg hm ?_ hdb);refine nB (h₀:=X.base) I.ok.mod.kin M.kp (eZ ?DN λus s1 ⟨vs,H1,I1,r,q⟩=>⟨I1.kIn,?_⟩) he hpl;exact ah4 M F hr hb hd hx I1 r q
end
def PK(X:Cx)(kws:List EB)(t:TA):Prop:=
 ∀(pos:iL) (pins:List ?AQ) (s:Yl) (σ:St) (H:Hp) (Q:List V->Hp->Prop),bH X pins σ H s->t σ H Q->Yn ?M X.A (evalAll ((kK pos (gm kws X.env)).map (·.2))) (AP X pins σ Q) X.xe s
section
variable{f:Yc}{ks:List Ym}{E:XK}{kpos:iL}{o:YZ}{kws:List EB}{tk:TA}{nm:Option Ym}
theorem al9:PK X [] sJ:=λ_ _ _ _ H Q I h=>wpAny_evalAll_nil ⟨[],H,I,.nil,h⟩
theorem aio(ha:PE X e te)(hr:PK X kws t):PK X (⟨nm,e,kpos⟩::kws) (zj te t):=by
 intro pos pins s σ H Q I h;show Yn _ _ (evalAll ((do let v<-ay e X.env;rl pos;pure v)::(kK pos (gm kws X.env)).map (·.2))) _ _ s;refine wpAny_evalAll_cons (Yg (eZ ?A6 λu s1 zz=>?_));obtain⟨x,H1,I1,r1,q1⟩:=zz;refine Yg (xi (Yp ?_));exact eZ (hr pos pins s1 σ H1 _ I1 q1) λus s2 ⟨xs,H2,I2,r2,q2⟩=>⟨x::xs,H2,I2,.cons r1 r2,q2⟩
variable{g:List Ye->List Ye->List Ye}{gV:List V->List V->List V}
end
structure aF(N P:List Ym)(sc:jS):Prop where
 kind:sc.kind=.function
 co:sc.isCoroutine=false
 gen:sc.isGenerator=false
 nd:N.Nodup
 pre:N.take P.length=P
 par:∀x∈P,sc.names.lookup x=Ya .local\/sc.names.lookup x=Ya .cell
 nofree:∀y∈sc.names,y.2≠.free
theorem Ug{kindOf:Ym->Option sT}{x:Ym}:∀{binds:List (Ym×Ye)} {m:Ym->Option Ye},(∀v,(x,v)∉binds)->Cn kindOf binds m x=m x
 |[],_,_=>rfl
 |(n,v)::r,m,h=>by
  unfold Cn;rw[Ug λw hw=>h w (Yh _ hw)];split
  ·have:x≠n:=by rintro rfl;exact h v Yf
   simp[this]
  ·rfl
theorem U9{kindOf:Ym->Option sT}{x:Ym}:∀{binds:List (Ym×Ye)} {m:Ym->Option Ye},(∀v,(x,v)∉binds)->Co kindOf binds m x=m x
 |[],_,_=>rfl
 |(n,v)::r,m,h=>by
  unfold Co;rw[U9 λw hw=>h w (Yh _ hw)];split
  ·rfl
  ·have:x≠n:=by rintro rfl;exact h v Yf
   simp[this]
theorem Uv{kindOf:Ym->Option sT}{x:Ym}{v:Ye}:∀{P:List Ym} {vs:List Ye} {i:Nat} {m:Ym->Option Ye},P.Nodup->P[i]?=Ya x->vs[i]?=Ya v->kindOf x=Ya .local->
  Cn kindOf (P.zip vs) m x=Ya v
 |[],_,_,_,_,h,_,_=>by simp at h
 |_::_,[],_,_,_,_,h,_=>by simp at h
 |p::P,w::vs,0,m,nd,h1,h2,hk=>by
  simp at h1 h2;subst h1;subst h2;show Cn kindOf ((p,w)::P.zip vs) m p=_;unfold Cn;rw[Ug λv hv=>(d5.mp nd).1 (qv hv).1,if_pos hk];simp
 |p::P,w::vs,i+ 1,m,nd,h1,h2,hk=>by
  show Cn kindOf ((p,w)::P.zip vs) m x=_;unfold Cn;exact Uv (i:=i) (d5.mp nd).2 (by simpa using h1) (by simpa using h2) hk
theorem TF{kindOf:Ym->Option sT}{x:Ym}{v:Ye}:∀{P:List Ym} {vs:List Ye} {i:Nat} {m:Ym->Option Ye},P.Nodup->P[i]?=Ya x->vs[i]?=Ya v->kindOf x≠Ya .local->
  Co kindOf (P.zip vs) m x=Ya v
 |[],_,_,_,_,h,_,_=>by simp at h
 |_::_,[],_,_,_,_,h,_=>by simp at h
 |p::P,w::vs,0,m,nd,h1,h2,hk=>by
  simp at h1 h2;subst h1;subst h2;show Co kindOf ((p,w)::P.zip vs) m p=_;unfold Co;rw[U9 λv hv=>(d5.mp nd).1 (qv hv).1,if_neg hk];simp
 |p::P,w::vs,i+ 1,m,nd,h1,h2,hk=>by
  show Co kindOf ((p,w)::P.zip vs) m x=_;unfold Co;exact TF (i:=i) (d5.mp nd).2 (by simpa using h1) (by simpa using h2) hk
noncomputable def pJ(N:List Ym)(vs:List V):St:=vs.map Ya++br (N.length-vs.length) Yb
noncomputable def Vo(CX:CXT)(P:YI)(w:YV)(K:Yd)(mg:Ym->Option Ye)(base:YT)(N:List Ym)(qual:Ym)(scope:jS)(f:Yc)(cd:Ye)(A:Y7)(outer:List m4)(s:Yl)(H:Hp)(E:XK):Cx where
 prog:=P
 w:=w
 K:=K
 mg:=mg
 base:=base
 A:=A.deeper (nE qual scope s.heap.objs.size f cd)
 N:=N
 s₀:=s
 H₀:=H
 env:=nE qual scope s.heap.objs.size f cd
 outer:=outer
 stack:=nE qual scope s.heap.objs.size f cd::outer
 ex:=[]
 calm:=true
 fn:=λ_=>true
 pn:=[]
 xe:=λe s'=>Yn (Yr P w) (A.deeper (nE qual scope s.heap.objs.size f cd)) (leaving (nE qual scope s.heap.objs.size f cd) e) (λ_ s''=>CX outer H s E e s'') (λe' s''=>CX outer H s E e' s'') s'
theorem aaJ{sc:jS}(h:sc.names.lookup x=Ya .cell):∃c,(HL n sc.names []).lookup x=Ya c:=by
 have q:=AW sc.names n [] (.inl h);exact Option.isSome_iff_exists.mp q
theorem aep{K:Yd}{f:Yc}{cd:Ye}{s1:Yl}{E:XK}(S:aF N ps scope)(hd:A.handled=Yb)(e0:Wl P w K mg base A outer s H)(hl:vs.length=ps.length)(r:Vals vs us)(x:InCallC s s.heap.objs.size (Cn (nE qual scope s.heap.objs.size f cd).kindOf (ps.zip us) λ_=>Yb) (HL ?U scope.names []) (Co (nE qual scope s.heap.objs.size f cd).kindOf (ps.zip us) λ_=>Yb) s1):
  bH (Vo CX P w K mg base N qual scope f cd A outer s H E) [] (pJ N vs) H s1:=by
 have hpl:ps.length<=N.length:=by have:=congrArg JO S.pre;rw[eA]at this;omega
 obtain⟨h1,tk,rfl,hk⟩:=x.done;have noA:∀b:Yc,b∉(Vo CX P w K mg base N qual scope f cd A outer s H E).ex:=λb z=>absurd (show b∈([]:List Yc)from z) ?N;refine⟨⟨e0.mod,S.kind,rfl,rfl,Yo _,λy z c h1 h2=>?_,λy hy=>?_,λy c _ h=>?_,λ_=>hd,Around.frames_deeper e0.frames,.inr ⟨rfl,rfl⟩,λb z=>absurd z (noA b),e0.bs,e0.bsz,λb _ _=>noA b,λb z=>absurd z (noA b),e0.funs,e0.frf⟩,
  rfl,e0.bare,Un.kept hk,⟨_,x.toInCall.ns,λi y v h1 h2 h3=>?_⟩,λy c h=>⟨_,x.cell y c h⟩,e0.hok.fresh ?BU,λy c h=>?_,λp hp=>absurd ?GX ?N,e0.hok.kept hk,?_⟩
 ·exact name_of_addr x.apart (c6 h1) (c6 h2)
 ·have hy:scope.names.lookup y=Ya .cell\/scope.names.lookup y=Ya .free:=hy;rcases hy with hy|hy
  ·exact aaJ hy
  ·exact absurd rfl (S.nofree _ (c6 hy))
 ·exact Y5 (x.above y c (c6 h))
 ·have hi:i<vs.length:=by
   unfold pJ at h2;by_cases hi:i<vs.length
   ·exact hi
   ·rw[fu (by simpa using hi)]at h2;rw[Au]at h2;split at h2<;>cases h2
  have ha:vs[i]?=Ya v:=by
   unfold pJ at h2;rw[fN (by simpa using hi),Yw]at h2;cases e:vs[i]? with
   |none=>rw[e]at h2;cases h2
   |some a=>rw[e]at h2;cases h2;rfl
  obtain⟨u,hu,rv⟩:=r.get ha;have hp:ps[i]?=Ya y:=by
   rw[<-S.pre,y6 ?D];exact h1
  have ndP:ps.Nodup:=by rw[<-S.pre];exact S.nd.sublist (r9 _ _)
  refine⟨u,rv,?_⟩;rcases S.par y (YW hp)with k|k
  ·exact .inl ⟨k,Uv ndP hp hu k⟩
  ·obtain⟨c,e⟩:=aaJ (n:=s.heap.objs.size+ 1) k;refine .inr ⟨.inl k,c,e,?_⟩;have q:=x.cell y c e;rw[TF ndP hp hu (by show scope.names.lookup y≠_;rw[k];decide)]at q;exact q
 ·exact e0.hok.fresh (Y5 (x.above y c (c6 h)))
 ·unfold pJ;show _=N.length;rw[YE,Yk,BG];omega
theorem afQ{K:Yd}{f:Yc}{params:DI}{dV kV doc pm cdv ct oc:Ye}{an od:Option Yc}{osl:Array ?EV}(lk:K.lookup f=Ya ⟨oc,od,.func (d6 name qual params body scope dV kV doc pm an cdv ct),osl⟩)(hcd:mh K cdv qual=true)(S:aF N ps scope)(len:∀vs H Q E,sp vs H Q E->vs.length=ps.length)(hbody:∀(A:Y7) (outer:List m4) (s:Yl) (H:Hp) (vs:List V) (Q:VK) (E:XK),gJ k (A.deeper (nE qual scope s.heap.objs.size f cdv))->sp vs H Q E->
   ∃t,PSs ?EG body t/\t {nx:=λ_ H'=>Q .non H',rt:=Q} (pJ N vs) H):
  aG P w K mg base CX (k+ 1) f (d6 name qual params body scope dV kV doc pm an cdv ct) ps sp:=by
 refine⟨len,λA outer s H args us vs Q E hr e0 hb r hsp=>?_⟩;have hl:=len _ _ _ _ hsp;have KX:K.In s.heap:=e0.mod.kin.keeps λb o e=>(e0.bs b o e).1;have lim:s.heap.NoLimit:=e0.mod.nolimit.keeps λb o e=>(e0.bs b o e).1;have hkind:∀y∈ps.zip us,scope.names.lookup y.1=Ya .local\/(scope.names.lookup y.1=Ya .cell/\((HL ?U scope.names []).lookup y.1).isSome=true):=fun⟨n,v⟩ hy=>by
  rcases S.par n (qv hy).1 with q|q
  ·exact .inl q
  ·exact .inr ⟨q,AW _ _ _ (.inl q)⟩
 refine codeAny_call_function hr.depth (KX _ _ lk) rfl S.co S.gen rfl (PySem.W.codeRec_of KX hcd) (hb _ _ _ _ ?_);refine wpAny_newFunctionEnv_cells S.kind hkind λenv he s1 x=>?_;subst he;refine⟨lim.keeps x.toInCall.keep,codeAny_func ?_⟩;obtain⟨t,ht,hq⟩:=hbody A outer s H vs Q E (hr.deeper _) hsp;have I:bH ?EG [] (pJ N vs) H s1:=aep S hr.hd e0 hl r x;refine ai (ht [] s1 (pJ N vs) H _ I hq) (λfl s' hs=>?_) λe s' hs=>hs;have fin:∀{σ':St} {H':Hp} {v:V} {u:Ye},bH ?EG [] σ' H' s'->RelV v u->Q v H'->CE outer P w H s Q u s':=
  fun{σ' H' v u} J rv q=>⟨v,H',J.os,J.bare,J.base,J.hok,rv,q⟩
 cases fl with
 |ret u=>
  obtain⟨v,σ',H',J,rv,q⟩:=hs;exact fin J rv q
 |next=>
  obtain⟨σ',H',J,q⟩:=hs;exact fin (v:=V.non) (u:=iS) J rfl q
 |brk=>
  obtain⟨_,_,_,q⟩:=hs;exact fh q
 |cont=>
  obtain⟨_,_,_,q⟩:=hs;exact fh q
section
variable{id:String}{r:List V->Hp->VK->Prop}
def tCB(r:List V->Hp->VK->Prop)(t:TA):TE:=λσ H Q=>t σ H λvs H1=>r vs H1 Q
theorem cL(hc:jQ X (.builtin id) r)(hg:Gl X x)(hm:X.mg x=Yb)(hv:i0 x=Ya (.builtin id))(ha:PA X (e::es) t)(hn:x≠"__name__":=by decide)(hdb:(x==("__debug__":Ym))=false:=by decide)
  (he:YR (e::es) X.env=?A8::YR es X.env:=by rfl) (hpl:(dk pos ?CY).any (·.1)=false:=by rfl):PE X (.Call (.Name x p) (e::es) [] pos) (tCB r t):=by
 intro pins s σ H Q I h;refine ff (Ar I hg hm hv ?_ hn hdb);exact FX (eZ ?DN λus s1 ⟨vs,H1,I1,r1,q1⟩=>hc pins s1 σ H1 vs us Q I1 r1 q1) he hpl
theorem cD(hc:jQ X (.type T) r)(hg:Gl X x)(hm:X.mg x=Yb)(hv:i0 x=Ya (.type T))(ha:PA X (e::es) t)(hn:x≠"__name__":=by decide)(hdb:(x==("__debug__":Ym))=false:=by decide)
  (he:YR (e::es) X.env=?A8::YR es X.env:=by rfl) (hpl:(dk pos ?CY).any (·.1)=false:=by rfl):PE X (.Call (.Name x p) (e::es) [] pos) (tCB r t):=by
 intro pins s σ H Q I h;refine ff (Ar I hg hm hv ?_ hn hdb);exact w9 (eZ ?DN λus s1 ⟨vs,H1,I1,r1,q1⟩=>hc pins s1 σ H1 vs us Q I1 r1 q1) he hpl
end
section
variable{κ:Type}[DecidableEq κ]
noncomputable def JK(kvs:List (κ×V))(k:κ):Option V:=(kvs.find? λkv=>decide (kv.1=k)).map (·.2)
noncomputable def tR(kvs:List (κ×V))(k:κ)(v:V):List (κ×V):=
 if(kvs.any λkv=>decide (kv.1=k))=true then kvs.map (λkv=>if kv.1=k then(kv.1,v)else kv)else kvs++[(k,v)]
theorem CV{p:κ×V}{r:List (κ×V)}{k:κ}(e:p.1=k):JK (p::r) k=Ya p.2:=by simp[JK,nN,e]
theorem CP{p:κ×V}{r:List (κ×V)}{k:κ}(e:¬ p.1=k):JK (p::r) k=JK r k:=by simp[JK,nN,e]
theorem aaw(k:κ):∀kvs:List (κ×V),(kvs.any λkv=>decide (kv.1=k))=(JK kvs k).isSome
 |[]=>rfl
 |p::r=>by
  rw[kL];by_cases e:p.1=k
  ·simp only[CV e,decide_eq_true e,Bool.true_or,Option.isSome_some]
  ·rw[CP e,decide_eq_false e,gy];exact aaw k r
theorem wD(kvs:List (κ×V))(k:κ)(v:V):(tR kvs k v).length<=kvs.length+ 1:=by
 unfold tR;split
 ·rw[Yk];omega
 ·rw[YE,Y8,fe];omega
theorem Er.isSome_eq{o:Option V}{u:Option Ye}(r:Er o u):o.isSome=u.isSome:=by
 cases o with
 |none=>cases u with
  |none=>rfl
  |some _=>exact(show False from r).elim
 |some _=>cases u with
  |none=>exact(show False from r).elim
  |some _=>rfl
theorem KV.val{kvs:List (κ×V)}{vs:List (κ×Ye)}(r:KV kvs vs)(k:κ):Er (JK kvs k) (yT vs k):=by
 unfold KV at r
 induction r with
 |nil=>exact gB
 |@cons p q ps qs h t ih=>
  obtain⟨h1,h2⟩:=h;by_cases e:p.1=k
  ·have e':q.1=k:=h1.symm.trans e;have b:yT (q::qs) k=Ya q.2:=by simp[yT,nN,e']
   rw[CV e,b];exact h2
  ·have e':¬ q.1=k:=λz=>e (h1.trans z);have b:yT (q::qs) k=yT qs k:=by simp[yT,nN,e']
   rw[CP e,b];exact ih
theorem KV.any{kvs:List (κ×V)}{vs:List (κ×Ye)}(r:KV kvs vs)(k:κ):(kvs.any λkv=>decide (kv.1=k))=vs.any λkv=>decide (kv.1=k):=by
 unfold KV at r
 induction r with
 |nil=>rfl
 |cons h t ih=>rw[kL,kL,ih,h.1]
theorem KV.repl{kvs:List (κ×V)}{vs:List (κ×Ye)}(r:KV kvs vs)(k:κ)(ry:RelV y u):
  KV (kvs.map λkv=>if kv.1=k then(kv.1,y)else kv) (vs.map λkv=>if kv.1=k then(kv.1,u)else kv):=by
 unfold KV at r⊢
 induction r with
 |nil=>exact .nil
 |@cons p q ps qs h t ih=>
  rw[YS,YS];refine .cons ?_ ih;obtain⟨h1,h2⟩:=h;by_cases e:p.1=k
  ·rw[if_pos e,if_pos (h1.symm.trans e)];exact⟨h1,ry⟩
  ·rw[if_neg e,if_neg (λz=>e (h1.trans z))];exact⟨h1,h2⟩
theorem KV.put{kvs:List (κ×V)}{vs:List (κ×Ye)}(r:KV kvs vs)(k:κ)(ry:RelV y u):KV (tR kvs k y) (stored vs k u):=by
 unfold tR stored;rw[r.any k];by_cases e:(vs.any λkv=>decide (kv.1=k))=true
 ·rw[if_pos e,if_pos e];exact r.repl k ry
 ·rw[if_neg e,if_neg e];exact sh r ⟨rfl,ry⟩
theorem KV.length{kvs:List (κ×V)}{vs:List (κ×Ye)}(r:KV kvs vs):kvs.length=vs.length:=bX r
end
theorem aae{k:d9}(r:RelV (kV k) u):(bT P w).is k u=true:=by
 cases k with
 |inl i=>obtain⟨t,e⟩:=(show∃t,u=kc i t from r);subst e;exact Dq P w i t
 |inr x=>obtain⟨t,e⟩:=(show∃t,u=AG x t from r);subst e;exact Xz P w x t
theorem Tj{P:YI}{w:YV}:∀{ks:List d9} {us:List Ye},Vals (ks.map kV) us->ItemsAre (bT P w) ks us
 |[],_,r=>by rw[mn]at r;cases r;exact .nil
 |k::ks,_,r=>by
  rw[YS]at r;cases r with
  |cons h t=>exact .cons (aae h) (Tj t)
abbrev KT(H:Hp):List ?BD->List ?ER->Prop:=dQ λp q=>p.1=q.1/\H q.2.1=Ya (.tup (p.1.map kV))/\RelV p.2 q.2.2
theorem KT.val(r:KT H kvs xs)(k:List d9):Er (JK kvs k) ((yi xs k).map (·.2)):=by
 induction r with
 |nil=>exact gB
 |@cons p q ps qs h t ih=>
  obtain⟨h1,_,h2⟩:=h;by_cases e:p.1=k
  ·have e':q.1=k:=h1.symm.trans e;have b:yi (q::qs) k=Ya q.2:=by simp[yi,nN,e']
   rw[CV e,b];exact h2
  ·have e':¬ q.1=k:=λz=>e (h1.trans z);have b:yi (q::qs) k=yi qs k:=by simp[yi,nN,e']
   rw[CP e,b];exact ih
theorem KT.repl(r:KT H kvs xs)(k:List d9)(ry:RelV y u):
  KT H (kvs.map λkv=>if kv.1=k then(kv.1,y)else kv) (xs.map (putAt k u)):=by
 induction r with
 |nil=>exact .nil
 |@cons p q ps qs h t ih=>
  rw[YS,YS];refine .cons ?_ ih;obtain⟨h1,h2,h3⟩:=h;unfold putAt;by_cases e:p.1=k
  ·rw[if_pos e,if_pos (h1.symm.trans e)];exact⟨h1,h2,ry⟩
  ·rw[if_neg e,if_neg (λz=>e (h1.trans z))];exact⟨h1,h2,h3⟩
theorem KT.put(r:KT H kvs xs)(k:List d9)(hb:H b=Ya (.tup (k.map kV)))(ry:RelV y u):
  KT H (tR kvs k y) (ot xs k b u):=by
 have e:(kvs.any λkv=>decide (kv.1=k))=(yi xs k).isSome:=by
  rw[aaw,(r.val k).isSome_eq,EL]
 unfold tR ot;rw[e];by_cases q:(yi xs k).isSome=true
 ·rw[if_pos q,if_pos q];exact r.repl k ry
 ·rw[if_neg q,if_neg q];exact sh r ⟨rfl,hb,ry⟩
theorem KT.keeps(r:KT H kvs xs)(ht:∀b ys,H b=Ya (.tup ys)->H' b=Ya (.tup ys)):KT H' kvs xs:=
 dQ.mapP r λ_ _ z=>⟨z.1,ht _ _ z.2.1,z.2.2⟩
section
theorem akp{u:HO}(ok:xP P w H h)(e:Rd H a u):gQ P w H h a u:=e.ok ok
theorem Di{kvs:List ?DG}(ok:xP P w H h)(e:Rd H a (.dK kvs)):kvs.length<=YB/\(a==eK)=false/\∃vs,KV kvs vs/\h.DictOf (bT P w) a vs:=
 show gQ P w H h a (.dK kvs)from akp ok e
theorem aaA{kvs:List ?DG}(ok:xP P w H h)(e:H a=Ya (.dK kvs)):kvs.length<=YB/\(a==eK)=false/\∃vs,KV kvs vs/\h.DictOf (bT P w) a vs:=Di ok (.inl e)
theorem key_of{ks:List d9}(ok:xP P w H h)(e:H a=Ya (.tup (ks.map kV))):(ke (bT P w)).is h ks a:=by
 obtain⟨_,its,r,o,h1,h2,n,h3⟩:=(show gQ P w H h a (.tup (ks.map kV))from ok a _ e);exact⟨o,its.toArray,n,h1,h2,h3.1,by simpa using Tj r⟩
theorem Tw(ok:xP P w H h)(e:Rd H a (.dT kvs)):kvs.length<=YB/\(a==eK)=false/\
  ∃xs,KT H kvs xs/\h.DictOfH (ke (bT P w)) a xs:=by
 obtain⟨z,y,xs,r,o,es,ep,h1,h2,h3,h4,h5⟩:=(show gQ P w H h a (.dT kvs)from akp ok e);refine⟨z,y,xs,r,o,es,ep,h1,h2,h3,h4,λx hx=>?_,h5⟩;have all:∀{l:List ?BD} {m:List ?ER},KT H l m->∀x∈m,(ke (bT P w)).is h x.1 x.2.1:=by
  intro l m q
  induction q with
  |nil=>intro x hx;exact nomatch hx
  |@cons p q ps qs hq t ih=>
   intro x hx;rcases Yz.mp hx with e|hx
   ·subst e;exact key_of ok (by rw[<-hq.1];exact hq.2.1)
   ·exact ih x hx
 exact all r x hx
theorem aoY(ok:xP P w H h)(e:H a=Ya (.dT kvs)):kvs.length<=YB/\(a==eK)=false/\
  ∃xs,KT H kvs xs/\h.DictOfH (ke (bT P w)) a xs:=Tw ok (.inl e)
end
def Vm(H:Hp)(a:Yc)(y:V)(r:Option V):Prop:=
 (∃kvs k,Rd H a (.dK kvs)/\y=kV k/\r=JK kvs k)\/∃kvs k b,Rd H a (.dT kvs)/\y=.ref b/\H b=Ya (.tup (k.map kV))/\r=JK kvs k
def aiC(H:Hp)(a:Yc)(y v:V)(H':Hp):Prop:=
 (∃kvs k,H a=Ya (.dK kvs)/\y=kV k/\kvs.length<YB/\H'=upd H a (.dK (tR kvs k v)))\/
 ∃kvs k b,H a=Ya (.dT kvs)/\y=.ref b/\H b=Ya (.tup (k.map kV))/\kvs.length<YB/\H'=upd H a (.dT (tR kvs k v))
section
variable{r:Ye}{o:Option V}
theorem bH.big(I:bH X pins σ H s):eK<s.heap.objs.size:=by
 have h:Y3<s.heap.objs.size:=(I.mod.glob.keeps I.bk).lt;exact y7 ?B h
theorem aee(hu:A.units+ 1<hV)(I:bH X pins σ H s)(g:Vm H a y (Ya v))(ry:RelV y u)(h:∀w' s',bH X pins σ H s'->RelV v w'->Q w' s'):
  Yn ?M A (vF (.ref a) u) Q E s:=by
 rcases g with⟨kvs,k,e,ey,l⟩|⟨kvs,k,b,e,ey,eb,l⟩
 ·subst ey;obtain⟨z,hd,vs,rel,dd⟩:=Di I.hok e;obtain⟨w',hw,rw'⟩:=Er.some_of (v:=v) (o:=yT vs k) (by rw[l];exact rel.val k);exact wpAny_getItem_of (aae ry) dd.mapOf hw (h w' _ (I.tok _) rw')
 ·subst ey;cases (show u=Y0 b from ry);obtain⟨z,hd,xs,rel,dd⟩:=Tw I.hok e;obtain⟨w',hw,rw'⟩:=Er.some_of (v:=v) (o:=(yi xs k).map (·.2)) (by rw[l];exact rel.val k);obtain⟨p,hp,hp2⟩:=af.mp hw;refine wpAny_getItem_heap (xa hu) (key_of I.hok eb) dd hp ?_;rw[hp2];exact h w' _ (I.tok _) rw'
theorem apB(hu:A.units+ 1<hV)(I:bH X pins σ H s)(g:Vm H a y o)(ry:RelV y u)(h:∀s',bH X pins σ H s'->Q (.bool o.isSome) s'):
  Yn ?M A (cS .In u (.ref a)) Q E s:=by
 rcases g with⟨kvs,k,e,ey,l⟩|⟨kvs,k,b,e,ey,eb,l⟩
 ·subst ey;obtain⟨z,hd,vs,rel,dd⟩:=Di I.hok e;refine wpAny_in_of (aae ry) hd dd.mapOf ?_;rw[<-(rel.val k).isSome_eq,<-l];exact h _ (I.tok _)
 ·subst ey;cases (show u=Y0 b from ry);obtain⟨z,hd,xs,rel,dd⟩:=Tw I.hok e;refine wpAny_in_heap (xa hu) (key_of I.hok eb) hd dd ?_;have q:=(rel.val k).isSome_eq;rw[EL]at q;rw[<-q,<-l];exact h _ (I.tok _)
theorem Wa{ob:HO}(I:bH X pins σ H s)(mu:Mut (H a))(hs:fm a s.heap h')(he:∃q,h'.get? a=Ya q)(new:gQ X.prog X.w (upd H a ob) h' a ob):
  bH X pins σ (upd H a ob) ?CK:=
 I.write (x:=a) (e:=a) mu (.inl rfl) (λb q hb z=>(hs.2 b hb).trans z) he new
theorem Wf{kvs:List ?DG}{vs:List (d9×Ye)}(z:kvs.length<=YB)(hd:(a==eK)=false)(rel:KV kvs vs)(dd:h'.DictOf (bT P w) a vs):
  gQ P w H' h' a (.dK kvs):=⟨z,hd,vs,rel,dd⟩
theorem aeU{Q:Unit->Yl->Prop}(hu:A.units+ 1<hV)(I:bH X pins σ H s)(g:aiC H a y v H')(ry:RelV y u)(rv:RelV v r)(h:∀s',bH X pins σ H' s'->Q () s'):
  Yn ?M A (setItem (.ref a) u r) Q E s:=by
 rcases g with⟨kvs,k,e,ey,l,eH⟩|⟨kvs,k,b,e,ey,eb,l,eH⟩
 ·subst ey eH;obtain⟨z,hd,vs,rel,dd⟩:=aaA I.hok e;have hz:vs.length<=YB:=by rw[<-rel.length];exact z
  have hl:(tR kvs k v).length<=YB:=by have:=wD kvs k v;omega
  refine wpAny_setItem_pairs (hsz:=hz) (aae ry) dd λh' dd' hs=>h _ ?_;have he:∃q,h'.get? a=Ya q:=let ⟨q,_,_,hq,_⟩:=dd';⟨q,hq⟩;exact Wa I (by rw[e];exact gB) hs he (Wf hl hd (rel.put k rv) dd')
 ·subst ey eH;cases (show u=Y0 b from ry);obtain⟨z,hd,xs,rel,dd⟩:=aoY I.hok e;have hz:xs.length<=YB:=by rw[<-bX rel];exact z
  have hl:(tR kvs k v).length<=YB:=by have:=wD kvs k v;omega
  refine wpAny_setItem_heap (hsz:=hz) (xa hu) (key_of I.hok eb) dd λh' dd' hs=>h _ ?_;obtain⟨q,es,ep,hq,h2,h3,h4,_,h5⟩:=dd';refine Wa I (by rw[e];exact gB) hs ⟨q,hq⟩ ⟨hl,hd,_,(rel.put k eb rv).keeps λc ys ec=>?_,q,es,ep,hq,h2,h3,h4,h5⟩;rw[aQ (bD ec e (λz=>nomatch z))];exact ec
end
section
variable{kvs:List ?DG}{k:d9}
end
def anl(i:YZ):Prop:=∀ov iv,AX i false ov iv=Kn [ov,iv] (vF ov iv)
theorem ajE{slice:YZ}{id:String}(hl:Cs (.type T) "__getitem__"=pure (Ya (.builtin id)))(hs:anl slice)(h:Yn ?I A (ay value env) (λo s₁=>Yn ?I A (ay slice env) (λi s₂=>s₂.TypeIs o T/\Yn ?I A (vF o i) Q E s₂) E s₁) E s):
  Yn ?I A (ay (.Subscript value slice pos) env) Q E s:=by
 refine FY (ai h (λo s₁ h₁=>ai h₁ (λi s₂ h₂=>?_) λ_ _ x=>x) λ_ _ x=>x);obtain⟨hT,h₂⟩:=h₂;unfold CL;refine Yg ?_;rw[getitemInPython_of_ne hT.not_modules];refine Yg (AJ hT hl ?_);have fin:Yn ?I A (AX slice false o i) (λr s₃=>Yn ?I A (letTemporaryGo value o r >>= λ_=>pure r) Q E s₃) E s₂:=by
  rw[hs o i];exact wpAny_operating (ai h₂ (λr s₃ h₃=>Yg (wpAny_letTemporaryGo (Yp h₃))) λ_ _ x=>x)
 first
  |exact Yp (Yg fin)
  |exact Yg (Yp (Yg fin))
  |exact Yg fin
theorem aa4{o:Option V}(I:bH X pins σ H s)(g:Vm H a y o):s.TypeIs (.ref a) "dict":=by
 rcases g with⟨kvs,k,e,_,_⟩|⟨kvs,k,b,e,_,_,_⟩
 ·obtain⟨_,_,vs,_,dd⟩:=Di I.hok e;exact dd.typeIs
 ·obtain⟨_,_,xs,_,dd⟩:=Tw I.hok e;exact dd.typeIs
def akj(td ty:TE):TE:=λσ H Q=>td σ H λx H1=>ty σ H1 λy H2=>∃a v,x=.ref a/\Vm H2 a y (Ya v)/\Q v H2
def aoB(ty td:TE):TE:=λσ H Q=>ty σ H λy H1=>td σ H1 λx H2=>∃a o,x=.ref a/\Vm H2 a y o/\Q (.bl o.isSome) H2
def akf(td ty tv:TE):TS:=λD σ H=>tv σ H λv H1=>td σ H1 λx H2=>ty σ H2 λy H3=>∃a H4,x=.ref a/\aiC H3 a y v H4/\D.nx σ H4
section
variable{o i:YZ}
theorem ad1(hu:X.A.units+ 1<hV)(ho:PE X o td)(hi:PE X i ty)(hs:anl i):PE X (.Subscript o i pos) (akj td ty):=by
 intro pins s σ H Q I h;refine ajE PySem.F.slot_dict_getitem.lookup hs (eZ (ho pins s σ H _ I h) λu s1 zz=>?_);obtain⟨x,H1,I1,rx,q1⟩:=zz;refine eZ (hi pins s1 σ H1 _ I1 q1) λiv s2 zz=>?_;obtain⟨y,H2,I2,ry,a,v,ex,g,q2⟩:=zz;subst ex;obtain rfl:u=Y0 a:=rx;exact⟨aa4 I2 g,aee hu I2 g ry λw' s3 I3 rw'=>⟨v,H2,I3,rw',q2⟩⟩
theorem amo(hu:X.A.units+ 1<hV)(hi:PE X i ty)(ho:PE X o td):PC X .In i o (aoB ty td):=by
 intro pins s σ H Q I h;refine eZ (hi pins s σ H _ I h) λiv s1 zz=>?_;obtain⟨y,H1,I1,ry,q1⟩:=zz;refine eZ (ho pins s1 σ H1 _ I1 q1) λu s2 zz=>?_;obtain⟨x,H2,I2,rx,a,ov,ex,g,q2⟩:=zz;subst ex;obtain rfl:u=Y0 a:=rx;exact apB hu I2 g ry λs3 I3=>⟨.bl ov.isSome,H2,I3,rfl,q2⟩
theorem adS(hu:X.A.units+ 1<hV)(ho:PE X o td)(hi:PE X i ty)(hv:PE X value tv)(hs:w8 value (Ya (.Subscript o i pos')) pos.line X.env=pure false):
  PS X (.Assign [.Subscript o i pos'] value pos) (akf td ty tv):=by
 intro pins s σ H D I h;refine wpAny_Assign_Subscript (eZ (hv pins s σ H _ I h) λr s1 zz=>?_) hs;obtain⟨v,H1,I1,rv,q1⟩:=zz;refine eZ (ho pins s1 σ H1 _ I1 q1) λu s2 zz=>?_;obtain⟨x,H2,I2,rx,q2⟩:=zz;refine eZ (hi pins s2 σ H2 _ I2 q2) λiv s3 zz=>?_;obtain⟨y,H3,I3,ry,a,H4,ex,g,q3⟩:=zz;subst ex;obtain rfl:u=Y0 a:=rx;exact aeU hu I3 g ry rv λs4 I4=>⟨σ,H4,I4,q3⟩
end
theorem WQ(h:YT)(hb:eK<h.objs.size):gQ P w H (h.push {cls:=.type "dict",data:=.dict #[]}) h.objs.size (.dK []):=
 ⟨YX _,beq_eq_false_iff_ne.mpr (Ne.symm (YF hb)),[],.nil,Heap.DictOf.new h⟩
theorem afL(h:YT)(hb:eK<h.objs.size):gQ P w H (h.push {cls:=.type "dict",data:=.dict #[]}) h.objs.size (.dT []):=
 ⟨YX _,beq_eq_false_iff_ne.mpr (Ne.symm (YF hb)),[],.nil,_,#[],0,Yq _ rfl,⟨rfl,rfl,rfl⟩,rfl,rfl,GS⟩
def agU:TE:=λ_ H Q=>∀p,H p=Yb->Q (.ref p) (upd H p (.dK []))
def alE:TE:=λ_ H Q=>∀p,H p=Yb->Q (.ref p) (upd H p (.dT []))
section
theorem uM:PE X (.Dict [] [] pos) agU:=λpins s σ H Q I h=>
 Fh ⟨.ref s.heap.objs.size,_,I.laid (a:=s.heap.objs.size) (o:=.dK []) (t':=s.toks) (λ_ _ q=>Yi _ q) ?BU (WQ s.heap I.big),rfl,h _ ?AL⟩
theorem aaV:PE X (.Dict [] [] pos) alE:=λpins s σ H Q I h=>
 Fh ⟨.ref s.heap.objs.size,_,I.laid (a:=s.heap.objs.size) (o:=.dT []) (t':=s.toks) (λ_ _ q=>Yi _ q) ?BU (afL s.heap I.big),rfl,h _ ?AL⟩
end
def acB:List (TE×TE)->St->Hp->(List (V×V)->Hp->Prop)->Prop
 |[],_,H,Q=>Q [] H
 |(tk,tv)::r,σ,H,Q=>tk σ H λx H1=>tv σ H1 λy H2=>acB r σ H2 λps H3=>Q ((x,y)::ps) H3
abbrev VV:List (V×V)->List (Ye×Ye)->Prop:=dQ λp q=>RelV p.1 q.1/\RelV p.2 q.2
def PPs(X:Cx)(pos:iL)(keys:List (Option YZ))(values:List YZ)(trs:List (TE×TE)):Prop:=
 ∀(pins:List ?AQ) (s:Yl) (σ:St) (H:Hp) (Q:List (V×V)->Hp->Prop),bH X pins σ H s->acB trs σ H Q->
  Yn ?M X.A (evalPairs (pairTrees keys values X.env pos)) (λvs s'=>∃ps H',bH X pins σ H' s'/\VV ps vs/\Q ps H') X.xe s
theorem ajq:PPs X pos [] [] []:=λpins s σ H Q I h=>pairTrees_nil_walk ⟨[],H,I,.nil,h⟩
theorem ahc{k v:YZ}{ks:List (Option YZ)}{vs:List YZ}{tk:TE}{trs:List (TE×TE)}(hk:PE X k tk)(hv:PE X v tv)(hr:PPs X pos ks vs trs):
  PPs X pos (Ya k::ks) (v::vs) ((tk,tv)::trs):=λpins s σ H Q I h=>
 pairTrees_cons_walk (eZ (hk pins s σ H _ I h) λu s1 ⟨x,H1,I1,rx,q1⟩=>eZ (hv pins s1 σ H1 _ I1 q1) λw2 s2 ⟨y,H2,I2,ry,q2⟩=>
  eZ (hr pins s2 σ H2 _ I2 q2) λws s3 ⟨ps,H3,I3,rel,q3⟩=>⟨(x,y)::ps,H3,I3,.cons ⟨rx,ry⟩ rel,q3⟩)
noncomputable def oK(kvs more:List ?DG):List ?DG:=more.foldl (λacc kv=>tR acc kv.1 kv.2) kvs
theorem KV.merge:∀{more:List ?DG} {rs:List (d9×Ye)} {kvs:List ?DG} {vs:List (d9×Ye)},KV more rs->KV kvs vs->KV (oK kvs more) (y8 vs rs):=by
 intro more rs kvs vs r;unfold KV at r
 induction r generalizing kvs vs with
 |nil=>intro q;exact q
 |@cons p q ps qs h t ih=>
  intro r0;have e:KV (tR kvs p.1 p.2) (stored vs q.1 q.2):=by
   have:=r0.put p.1 h.2;rw[<-h.1];exact this
  exact ih e
theorem Ht:∀(more kvs:List ?DG),(oK kvs more).length<=kvs.length+ more.length
 |[],kvs=>by show kvs.length<=kvs.length+ 0;omega
 |p::r,kvs=>by
  have h1:=Ht r (tR kvs p.1 p.2);have h2:=wD kvs p.1 p.2;show(oK (tR kvs p.1 p.2) r).length<=_;rw[Y8];omega
theorem Qp{P:YI}{w:YV}:∀{kvs:List ?DG} {ws:List (Ye×Ye)},VV (kvs.map λkv=>(kV kv.1,kv.2)) ws->∃rs,Carries (bT P w) ws rs/\KV kvs rs
 |[],_,r=>by rw[mn]at r;cases r;exact⟨[],gB,.nil⟩
 |p::kvs,_,r=>by
  rw[YS]at r;cases r with
  |@cons a b as bs h t=>
   obtain⟨rs,c,q⟩:=Qp (P:=P) (w:=w) t;obtain⟨b1,b2⟩:=b;exact⟨(p.1,b2)::rs,⟨aae h.1,rfl,c⟩,.cons ⟨rfl,h.2⟩ q⟩
def akr(trs:List (TE×TE)):TE:=λσ H Q=>∀p,H p=Yb->acB trs σ (upd H p (.dK [])) λps H2=>H2 p=Ya (.dK [])/\∃kvs:List ?DG,ps=kvs.map (λkv=>(kV kv.1,kv.2))/\kvs.length<=15/\Q (.ref p) (upd H2 p (.dK (oK [] kvs)))
theorem aju{keys:List (Option YZ)}{values:List YZ}{trs:List (TE×TE)}(h:PPs X pos keys values trs)(hall:keys.all (·.isSome)=true)(hl:keys.length=values.length)(h0:keys≠[])(h15:keys.length<=15):PE X (.Dict keys values pos) (akr trs):=by
 intro pins s σ H Q I q;have hn:=I.hok.fresh (Yo s.heap.objs.size);have I1:=I.laid (a:=s.heap.objs.size) (o:=.dK []) (h':=s.heap.push {cls:=.type "dict",data:=.dict #[]}) (t':=s.toks) (λ_ _ q=>Yi _ q) ?BU (WQ s.heap I.big);refine wpAny_Dict_walk (knd:=bT X.prog X.w) hall hl h0 h15 (eZ (h pins _ σ _ _ I1 (q _ hn)) λws s2 zz=>?_);obtain⟨ps,H2,I2,rel,e,kvs,ep,lk,q2⟩:=zz;subst ep;obtain⟨rs,c,rk⟩:=Qp (P:=X.prog) (w:=X.w) rel;obtain⟨z,hd,vs0,r0,dd⟩:=aaA I2.hok e;cases r0;refine⟨rs,c,dd,λh' dd' hs=>⟨.ref s.heap.objs.size,_,?_,rfl,q2⟩⟩;have hz:(oK [] kvs).length<=YB:=by
  have h1:=Ht kvs [];rw[fe]at h1;rw[ip];omega
 have he:∃q,h'.get? s.heap.objs.size=Ya q:=let ⟨q,_,_,hq,_⟩:=dd';⟨q,hq⟩;exact Wa I2 (by rw[e];exact gB) hs he (Wf hz hd (rk.merge .nil) dd')
section
variable{d:V}{r:Ye}{o:Option V}
end
section
variable{o f:YZ}{cpos:iL}{tx:TE}
end
section
variable{kvs:List ?DG}
end
section
end
end L2
namespace HT
open PySem PyProof.Rows
variable{b t sl:Yc}{items:Array Ye}{Q:Ye->Yl->Prop}{vl vu:Ye}{hi:Option Int}
noncomputable def gb:List Int->List Int->Bool
 |[],[]=>false
 |[],_::_=>true
 |_::_,[]=>false
 |x::xs,y::ys=>if x=y then gb xs ys else decide (x<y)
theorem jw(x y:Int)(xs ys:List Int):gb (x::xs) (y::ys)=if x=y then gb xs ys else decide (x<y):=rfl
theorem G6:gb [] []=false:=rfl
theorem DX(y:Int)(ys:List Int):gb [] (y::ys)=true:=rfl
theorem Fi(x:Int)(xs:List Int):gb (x::xs) []=false:=rfl
theorem Xk(A:Y7)(s:Yl)(a:Int)(t:ml)(c:Int)(u:ml):∃e,SeqAt.EqAt A s (.int a t) (.int c u) e/\(e=true↔a=c):=
 ⟨(a==c),SeqAt.EqAt.int_int a t c u,by simp⟩
theorem af8(A:Y7)(s:Yl)(a:Int)(t:ml)(c:Int)(u:ml)(prog:YI)(w:YV)(E:Ye->Yl->Prop)(Q:Ye->Yl->Prop)(h:Q (.bool (decide (a<c))) s):
  Yn ?I A (we .Lt (.int a t) (.int c u)) Q E s:=
 (FR h:Yn ?I A (cS .Lt (.int a t) (.int c u)) Q E s)
section
open PySem.SeqAt
open PySem.AutoSeq1 (wpAny_loadPart')
open PySem.MeetsSeq PySem.MeetsSeq2 PySem.MeetsSeq3
theorem S9(l b:Yc)(items items2:Array Ye)(n n2:Nat)(dd dd2:Option Yc)(sl sl2:Array ?EV)(ns ms:List Int)(hi:aT items.toList ns)(hj:aT items2.toList ms):
  pk (bS.«tuple.__lt__» ⟨[.ref l,.ref b],[]⟩)
   (λ_ R s=>s.heap.get? l=Ya {cls:=.type "tuple",dict:=dd,data:=.seq items n,slots:=sl}/\s.heap.get? b=Ya {cls:=.type "tuple",dict:=dd2,data:=.seq items2 n2,slots:=sl2}/\
    R (.ok (.ret (.bool (gb ns ms)))) s):=
 .of_wp λprog w A R s h=>by
  obtain⟨hp,g,d,tk,os⟩:=s;obtain⟨hl,hb,h⟩:=h;have f2:=AutoSeq1.sub_tuple_tuple;have z1:items.size=ns.length:=by rw[<-hi.length];simp
  have z2:items2.size=ms.length:=by rw[<-hj.length];simp
  wp_walk using uk hl,uk hb,Fm _ (λrest b s'=>b.1=Yb/\s'=⟨hp,g,d,tk,os⟩/\∃(vs ws:List Ye) (ns' ms':List Int),rest=vs.zip ws/\
   aT vs ns'/\aT ws ms'/\ns'.length+ items2.size=ms'.length+ items.size/\R (.ok (.ret (.bool (gb ns' ms')))) ⟨hp,g,d,tk,os⟩) _
  case turn=>
   rintro⟨y,x⟩ rest b s' ⟨hb',rfl,vs,ws,ns',ms',hz,hvi,hwi,hlen,hR⟩;cases hvi with
   |nil=>rw[EM]at hz;cases hz
   |cons a t hvi'=>
    cases hwi with
    |nil=>rw[DJ]at hz;cases hz
    |cons c u hwi'=>
     rw[rf]at hz;injection hz with hyx hrest;injection hyx with hy hx;subst hy hx;rw[jw]at hR;simp only[Y8]at hlen;obtain⟨e,he,hiff⟩:=Xk A.in1 ⟨hp,g,d,tk,os⟩ a t c u;refine Yg (he prog w _ _ ?_);cases e with
     |true=>
      rw[if_pos (hiff.mp rfl)]at hR
      wp_walk
      exact⟨rfl,rfl,_,_,_,_,hrest,hvi',hwi',by omega,hR⟩
     |false=>
      rw[if_neg (λq=>absurd (hiff.mpr q) YN)]at hR;have hri:=af8 A.in1 ⟨hp,g,d,tk,os⟩ a t c u prog w
      wp_walk using hri
      exact⟨_,rfl,by simpa using hR⟩
  case fin=>
   rintro⟨b1,b2⟩ s' ⟨hb',rfl,vs,ws,ns',ms',hz,hvi,hwi,hlen,hR⟩;simp only at hb';subst hb';have hv:gb ns' ms'=decide (items.size<items2.size):=by
    cases hvi with
    |nil=>
     cases hwi with
     |nil=>
      simp only[fe]at hlen;rw[G6];exact(decide_eq_false ?D).symm
     |cons c u hw=>
      simp only[fe,Y8]at hlen;rw[DX];exact(decide_eq_true ?D).symm
    |cons a t hv=>
     cases hwi with
     |nil=>
      simp only[fe,Y8]at hlen;rw[Fi];exact(decide_eq_false ?D).symm
     |cons c u hw=>
      rw[rf]at hz;cases hz
   rw[hv]at hR
   wp_walk
   exact⟨_,rfl,by simpa [t9]using hR⟩
  case h=>
   exact⟨rfl,rfl,items.toList,items2.toList,ns,ms,rfl,hi,hj,by omega,h⟩
end
section
variable{prog:YI}{w:YV}{A:Y7}{E:Ye->Yl->Prop}{s:Yl}
theorem acs{l:Yc}{items2:Array Ye}{ns ms:List Int}(hl:AH s.heap l items)(hb:AH s.heap b items2)(hi:aT items.toList ns)(hj:aT items2.toList ms)(hu:A.units<hV)(h:Q (.bool (gb ns ms)) s):Yn ?I A (cS .Lt (.ref l) (.ref b)) Q E s:=by
 obtain⟨⟨cls,dd,data,sl⟩,ho,hc,n,hd⟩:=id hl;obtain⟨⟨cls2,dd2,data2,sl2⟩,ho2,hc2,n2,hd2⟩:=id hb;simp only at hc hd hc2 hd2;subst hc hd hc2 hd2;exact AY (op:=.Lt) ⟨_,ho,rfl⟩ ⟨_,ho2,rfl⟩ PySem.F.slot_tuple_lt PySem.F.entry_tuple_lt (PySem.F.args_tuple_lt_2 _ _) (S9 l b items items2 n n2 dd dd2 sl sl2 ns ms hi hj)
  ⟨ho,ho2,show ua (gb ns ms)≠Ct/\Q (.bool (gb ns ms)) s from⟨(λx=>nomatch x),h⟩⟩ hu
theorem ajo{vs ws:List Ye}(ht:AH s.heap t vs.toArray)(hb:AH s.heap b ws.toArray)(hv:vs≠[])(h1:ws=[]->Q (.ref t) s)(h2:ws≠[]->Q (.ref s.heap.objs.size) {s with heap:=s.heap.push {cls:=.type "tuple",data:=.seq (vs++ws).toArray}})(hsz:vs.length+ ws.length<=YB):Yn ?I A (i5 .Add (.ref t) (.ref b)) Q E s:=by
 obtain⟨⟨cls,dd,data,sl⟩,ho,hc,n,hd⟩:=id ht;obtain⟨⟨cls2,dd2,data2,sl2⟩,ho2,hc2,n2,hd2⟩:=id hb;simp only at hc hd hc2 hd2;subst hc hd hc2 hd2;have e:vs.toArray++ws.toArray=(vs++ws).toArray:=by simp
 by_cases hw:ws=[]
 ·exact DM ⟨_,ho,rfl⟩ ⟨_,ho2,rfl⟩ y9 CM si rX (rh _ _)
   (tuple_addW1 t b vs.toArray ws.toArray n n2 dd dd2 sl sl2 (by simpa using hv) (by simp[hw])) ⟨ho,ho2,h1 hw⟩
 ·refine DM ⟨_,ho,rfl⟩ ⟨_,ho2,rfl⟩ y9 CM si rX (rh _ _)
   (tuple_addW2 t b vs.toArray ws.toArray n n2 dd dd2 sl sl2 (by simpa using hv) (by simpa using hw) (by rw[Yx,Yx];exact hsz)) ⟨ho,ho2,?_⟩
  rw[e];exact h2 hw
noncomputable def ql(n d:Nat):Option Int->Nat
 |none=>d
 |some v=>if v<0 then(v+ (n:Int)).toNat else min v.toNat n
theorem ak1(n d:Nat)(hd:d<=n)(o:Option Int):ql n d o<=n:=by
 cases o with
 |none=>exact hd
 |some v=>
  show(if v<0 then(v+ (n:Int)).toNat else min v.toNat n)<=n;by_cases hv:v<0
  ·rw[if_pos hv];omega
  ·rw[if_neg hv];exact Nat.min_le_right _ _
theorem acT(v:Int)(n d:Nat):(if v<0 then max (v+ (n:Int)) 0 else min v (n:Int))=((ql n d (Ya v):Nat):Int):=by
 show(if v<0 then max (v+ (n:Int)) 0 else min v (n:Int))=(((if v<0 then(v+ (n:Int)).toNat else min v.toNat n):Nat):Int);by_cases hv:v<0
 ·simp only[if_pos hv];omega
 ·simp only[if_neg hv];omega
theorem abL(lo hi:Option Int)(n:Nat):qA lo hi 1 (n:Int)=(((ql n 0 lo:Nat):Int),((ql n n hi:Nat):Int)):=by
 have h1:¬ ((1:Int)<0):=by omega
 unfold qA;simp only[h1,if_false];refine Prod.ext ?_ ?_
 ·cases lo with
  |none=>rfl
  |some v=>exact acT v n 0
 ·cases hi with
  |none=>rfl
  |some v=>exact acT v n n
theorem acy(i j:Nat):kR (i:Int) (j:Int) 1=j-i:=by
 unfold kR;have h1:(1:Int)>0:=by omega
 simp only[h1,if_true,Int.ediv_one];split<;>omega
theorem Qz{v:Ye}{o:Option Int}{Q:Option Int->Yl->Prop}(p:zd v o)(h:Q o s):Yn ?I A (GU v) Q E s:=by
 cases p with
 |none=>exact GV h
 |int i t=>exact slicePart_int h
theorem Mx{lo:Option Int}{n:Nat}{Q:Int×Int×Nat->Yl->Prop}(hs:s.heap.IsSliceOf sl vl vu .none)(pl:zd vl lo)(pu:zd vu hi)(h:Q (((ql n 0 lo:Nat):Int),1,ql n n hi-ql n 0 lo) s):Yn ?I A (xk (.ref sl) (pure (n:Int))) Q E s:=by
 obtain⟨os,hos,hcs,hds⟩:=id hs;unfold xk II;refine Yg (Yg (sj hos hds (x:=vl) rfl (Yg (sj hos hds (x:=vu) rfl (Yg (sj hos hds (x:=.none) rfl (Yp ?_)))))));refine Yg (GV ?_);show Yn _ _ (if((1:Int)==0)=true then _ else _) _ _ s;rw[if_neg ?B];refine Yg (Qz pl (Yg (Qz pu (Yg (Yp ?_)))));show Yn _ _ (match qA lo hi 1 (n:Int)with|(lo,hi)=>pure (lo,(1:Int),kR lo hi 1)) _ _ s;rw[abL lo hi n];show Yn _ _ (pure (((ql n 0 lo:Nat):Int),(1:Int),kR ((ql n 0 lo:Nat):Int) ((ql n n hi:Nat):Int) 1)) _ _ s;rw[acy];exact Yp h
theorem ahw(xs:Array Ye)(i k:Nat):((cq k).filterMap fun(m:Nat)=>xs[((i:Int)+ (m:Int)*1).toNat]?).toArray=((xs.toList.drop i).take k).toArray:=by
 have e:(fun(m:Nat)=>xs[((i:Int)+ (m:Int)*1).toNat]?)=λm=>xs[i+ m]?:=by
  funext m;have:((i:Int)+ (m:Int)*1).toNat=i+ m:=by omega
  rw[this]
 rw[e];have:=pick_run xs i k;rw[List.filterMap_map]at this;have e2:((λx=>xs[x]?)∘λx=>i+ x)=λm=>xs[i+ m]?:=rfl;rw[e2]at this;rw[this]
theorem KC{lo:Option Int}(ht:AH s.heap t items)(hs:s.heap.IsSliceOf sl vl vu .none)(pl:zd vl lo)(pu:zd vu hi)(hw:¬ (ql items.size 0 lo=0/\ql items.size items.size hi=items.size))(h:Q (.ref s.heap.objs.size) {s with heap:=s.heap.push {cls:=.type "tuple",data:=.seq ((items.toList.drop (ql items.size 0 lo)).take ?GE).toArray}})(hsz:items.size<=YB):Yn ?I A (vF (.ref t) (.ref sl)) Q E s:=by
 have htake:sizeOk (.seq ((items.toList.drop (ql items.size 0 lo)).take ?GE).toArray):=by
  show((items.toList.drop (ql items.size 0 lo)).take ?GE).toArray.size<=YB;rw[Yx,eA,ti,aE];omega
 have hj:ql items.size items.size hi<=items.size:=ak1 _ _ ?BU hi;obtain⟨os,hos,hcs,hds⟩:=id hs;have hTs:s.TypeIs (.ref sl) "slice":=⟨os,hos,hcs⟩;unfold vF
 try with_reducible refine cE ?_
 first|refine Yg (Yp ?_)|skip
 refine Yg (wpAny_sequenceKey ht.typeIs ?B ?_);refine Yg (js (name:=YL "__getitem__") ht.typeIs jJ
  (iF jJ ht.typeIs entry_tuple_getitem ?_ (args_tuple_getitem _ _)))
 show Yn _ _ (Iq (.ref t) >>= _) _ _ s;refine Yg (tupleItemsOf_ ht ?_);refine Yg (DO hTs ?_);rw[if_pos ?B];refine Yg (Mx hs pl pu ?_);have hno:¬ ((((ql items.size 0 lo:Nat):Int)==0&&(1:Int)==1&&(ql items.size items.size hi-ql items.size 0 lo)==items.size)=true):=by
  intro q;rw[aw,aw]at q;have q1:((ql items.size 0 lo:Nat):Int)=0:=eq_of_beq q.1.1;have q2:ql items.size items.size hi-ql items.size 0 lo=items.size:=eq_of_beq q.2;exact hw ⟨by omega,by omega⟩
 show Yn _ _ (if(((ql items.size 0 lo:Nat):Int)==0&&(1:Int)==1&&(ql items.size items.size hi-ql items.size 0 lo)==items.size)=true then _ else _) _ _ s;rw[if_neg hno,ahw]
 first
  |exact Yg (m:=mv _) (eL (Yp ⟨_,rfl,Yp h⟩) htake)
  |exact Yg (m:=mv _) (eL (Yg (Yp (Yp ⟨_,rfl,Yp h⟩))) htake)
  |exact Yg (Yg (m:=mv _) (eL (Yp (Yp ⟨_,rfl,Yp h⟩)) htake))
  |exact Yg (Yg (m:=mv _) (eL (Yp ⟨_,rfl,Yp h⟩) htake))
end
end HT
namespace L2
open PySem PySem.Spec PyProof.Rows
variable{X:Cx}{e:YZ}{pos:iL}{xs:List V}{us its:List Ye}{n j t':Nat}{i:Int}{pins:List ?AQ}{σ:St}{H:Hp}{s:Yl}{T:String}
abbrev TO:=St->Hp->(Option Int->Hp->Prop)->Prop
def PO(X:Cx)(e:Option YZ)(t:TO):Prop:=
 ∀(pins:List ?AQ) (s:Yl) (σ:St) (H:Hp) (Q:Option Int->Hp->Prop),bH X pins σ H s->t σ H Q->
  Yn ?M X.A (evalPart e X.env) (λu s'=>∃o H',bH X pins σ H' s'/\zd u o/\Q o H') X.xe s
def adG:TO:=λ_ H Q=>Q Yb H
def aj6(t:TE):TO:=λσ H Q=>t σ H λx H1=>∃i,x=.int i/\Q (Ya i) H1
theorem m9{ns:List Int}:∀{us:List Ye},Vals ?A1 us->aT us ns:=by
 induction ns with
 |nil=>intro us r;rw[mn]at r;cases r;exact .nil
 |cons n ns ih=>
  intro us r;rw[YS]at r;cases r with
  |cons r1 r2=>
   obtain⟨t,e⟩:=r1;subst e;exact .cons n t (ih r2)
section
variable{te:TE}{lo hi:Option YZ}{tl th:TO}{p2:iL}
theorem xF:PO X Yb adG:=by
 intro pins s σ H Q I h;rw[Iy];exact Yp ⟨Yb,H,I,.none,h⟩
theorem qP(h:PE X e te):PO X (Ya e) (aj6 te):=by
 intro pins s σ H Q I hw;rw[evalPart_some];refine eZ (h pins s σ H _ I hw) λu s1 zz=>?_;obtain⟨x,H1,I1,r1,q1⟩:=zz;obtain⟨i,rfl,q⟩:=q1;obtain⟨t,rfl⟩:=r1;exact⟨Ya i,H1,I1,.int i t,q⟩
def SlR(X:Cx)(r:V->Option Int->Option Int->Hp->VK->Prop):Prop:=
 ∀(pins:List ?AQ) (s:Yl) (σ:St) (H:Hp) (x:V) (v vl vu:Ye) (lo hi:Option Int) (sl:Yc) (Q:VK),bH X pins σ H s->RelV x v->s.heap.IsSliceOf sl vl vu .none->zd vl lo->zd vu hi->r x lo hi H Q->
  ∃T id,Cs (.type T) "__getitem__"=pure (Ya (.builtin id))/\s.TypeIs v T/\Yn ?M X.A (vF v (.ref sl)) ?BT X.xe s
def tSl(r:V->Option Int->Option Int->Hp->VK->Prop)(te:TE)(tl th:TO):TE:=λσ H Q=>te σ H λx H1=>tl σ H1 λl H2=>th σ H2 λu H3=>r x l u H3 Q
theorem oJ{r:V->Option Int->Option Int->Hp->VK->Prop}(hr:SlR X r)(he:PE X e te)(hl:PO X lo tl)(hu:PO X hi th):PE X (.Subscript e (.Slice lo hi Yb p2) pos) (tSl r te tl th):=by
 intro pins s σ H Q I h;refine FY (eZ ?AY λv s1 zz=>?_);obtain⟨x,H1,I1,r1,q1⟩:=zz;refine wpAny_Slice (eZ (hl pins s1 σ H1 _ I1 q1) λvl s2 zz=>?_);obtain⟨l,H2,I2,pl,q2⟩:=zz;refine eZ (hu pins s2 σ H2 _ I2 q2) λvu s3 zz=>?_;obtain⟨u,H3,I3,pu,q3⟩:=zz;rw[Iy];refine Yp ?_;have I4:bH X pins σ H3 {s3 with heap:=s3.heap.push {cls:=.type "slice",data:=.fields #[vl,vu,.none]}}:=I3.kept (t':=s3.toks) λb ob q=>Yi _ q;obtain⟨T,id,hT,ht,hg⟩:=hr pins {s3 with heap:=s3.heap.push {cls:=.type "slice",data:=.fields #[vl,vu,.none]}} σ H3 x v vl vu l u s3.heap.objs.size Q I4 r1 (Heap.IsSliceOf.new ..) pl pu q3;show Yn ?M X.A (CL e (.Slice lo hi Yb p2) v (.ref s3.heap.objs.size)) ?BT X.xe {s3 with heap:=s3.heap.push {cls:=.type "slice",data:=.fields #[vl,vu,.none]}};exact tail_any (ops:=[.ref s3.heap.objs.size,v]) ht hT hg (by with_unfolding_all rfl)
noncomputable def K6(xs:List V)(lo hi:Option Int):List V:=(xs.drop (HT.ql xs.length 0 lo)).take ?EW
theorem N7(xs:List V)(lo hi:Option Int):(K6 xs lo hi).length<=xs.length:=by
 unfold K6;rw[eA,ti];omega
def al1(K:Yd):V->Option Int->Option Int->Hp->VK->Prop:=λx lo hi H Q=>∃a xs,x=.ref a/\dC K H a xs/\
 ¬ (HT.ql xs.length 0 lo=0/\HT.ql xs.length xs.length hi=xs.length)/\∀p,H p=Yb->Q (.ref p) (upd H p (.tup (K6 xs lo hi)))
theorem amN:SlR X (al1 X.K):=by
 intro pins s σ H x v vl vu lo hi sl Q I rx hs pl pu h;obtain⟨a,xs,rfl,hx,hw,q⟩:=h;cases rx;obtain⟨its,r,ht,hz⟩:=I.tuple hx;have hlen:its.toArray.size=xs.length:=by rw[Yx];exact r.length.symm
 refine⟨"tuple",_,jJ.lookup,ht.typeIs,?_⟩;refine HT.KC ht hs pl pu (by rw[hlen];exact hw) ?_ (by rw[hlen];exact hz);rw[hlen];refine⟨.ref s.heap.objs.size,_,I.laid (t':=s.toks) (o:=.tup (K6 xs lo hi)) (λb ob q=>Yi _ q) ?BU ?_,rfl,q _ ?AL⟩;exact⟨bP (N7 xs lo hi) hz,_,(r.drop (HT.ql xs.length 0 lo)).take ?EW,xg.new _ _⟩
def aob(K:Yd):R2:=λx y H Q=>∃a b xs ys,x=.ref a/\y=.ref b/\dC K H a xs/\dC K H b ys/\xs≠[]/\xs.length+ ys.length<=YB/\
 (ys=[]->Q (.ref a) H)/\(ys≠[]->∀p,H p=Yb->Q (.ref p) (upd H p (.tup (xs++ys))))
theorem Vals.nil_iff(r:Vals xs us):us=[]↔xs=[]:=by
 cases r with
 |nil=>simp
 |cons _ _=>simp
theorem ajw:Fb X (i5 .Add) (aob X.K):=by
 intro pins s σ H x y v u Q I rx ry h;obtain⟨a,b,xs,ys,rfl,rfl,ha,hb,hx,hz,q1,q2⟩:=h;cases rx;cases ry;obtain⟨its,r1,p1,_⟩:=I.tuple ha;obtain⟨its2,r2,p2,_⟩:=I.tuple hb;refine HT.ajo p1 p2 (λz=>hx (r1.nil_iff.mp z)) (λz=>⟨.ref a,H,I,rfl,q1 (r2.nil_iff.mp z)⟩) (λz=>?_) (by rw[<-r1.length,<-r2.length];exact hz);refine⟨.ref s.heap.objs.size,_,I.laid (t':=s.toks) (o:=.tup (xs++ys)) (λb ob q=>Yi _ q) ?BU ?_,rfl,q2 (λw=>z (r2.nil_iff.mpr w)) _ ?AL⟩;exact⟨by rw[YE];exact hz,_,r1.append r2,xg.new _ _⟩
end
noncomputable def ixN(n:Nat)(i:Int):Option Nat:=if 0<=i then(if i<n then Ya i.toNat else Yb)else if-(n:Int)<=i then Ya (i+ n).toNat else Yb
noncomputable def mq{α:Type}(xs:List α)(i:Int):Option α:=(ixN xs.length i).bind λj=>xs[j]?
theorem ai5(h:ixN n i=Ya j):seqIndex? i n=Ya j/\j<n/\-(n:Int)<=i/\i<n:=by
 unfold ixN at h;by_cases h0:0<=i
 ·rw[if_pos h0]at h;by_cases h1:i<n
  ·rw[if_pos h1]at h;have e:i.toNat=j:=YK h;exact⟨by rw[seqIndex_of h0 h1,e],by omega,by omega,h1⟩
  ·rw[if_neg h1]at h;cases h
 ·rw[if_neg h0]at h;by_cases h1:-(n:Int)<=i
  ·rw[if_pos h1]at h;have e:(i+ n).toNat=j:=YK h;exact⟨by rw[IM ?D h1,e],by omega,h1,by omega⟩
  ·rw[if_neg h1]at h;cases h
theorem ad6{α:Type}{xs:List α}{v:α}(h:mq xs i=Ya v):∃j,seqIndex? i xs.length=Ya j/\xs[j]?=Ya v/\j<xs.length/\-(xs.length:Int)<=i/\i<xs.length:=by
 unfold mq at h;cases e:ixN xs.length i with
 |none=>rw[e]at h;cases h
 |some j=>
  rw[e]at h;obtain⟨h1,h2,h3,h4⟩:=ai5 e;exact⟨j,h1,h,h2,h3,h4⟩
theorem eN{α:Type}{xs:List α}{v:α}(h:xs[j]?=Ya v):mq xs (j:Int)=Ya v:=by
 have hj:j<xs.length:=(Ys.mp h).1;have e:ixN xs.length (j:Int)=Ya j:=by
  unfold ixN;rw[if_pos ?D,if_pos ?D];simp
 unfold mq;rw[e];exact h
theorem PN{α:Type}(xs:List α)(v:α):mq (xs++[v]) (-1)=Ya v:=by
 have hl:(xs++[v]).length=xs.length+ 1:=by simp
 have e:ixN (xs++[v]).length (-1)=Ya xs.length:=by
  unfold ixN;rw[hl,if_neg ?B,if_pos ?D];congr 1;omega
 unfold mq;rw[e];show(xs++[v])[xs.length]?=Ya v;simp
def aim(b:YZ):Prop:=∀o i,AX b false o i=Kn [o,i] (vF o i)
def IxR(X:Cx)(r:R2):Prop:=
 ∀(value slice:YZ) (pins:List ?AQ) (s:Yl) (σ:St) (H:Hp) (x y:V) (v u:Ye) (Q:VK),bH X pins σ H s->RelV x v->RelV y u->r x y H Q->
  AX slice false v u=Kn [v,u] (vF v u)->Yn ?M X.A (CL value slice v u) ?BT X.xe s
def MtR(X:Cx)(id:String)(r:V->List V->Hp->VK->Prop):Prop:=
 ∀(pins:List ?AQ) (s:Yl) (σ:St) (H:Hp) (x:V) (xs:List V) (v:Ye) (us:List Ye) (Q:VK),bH X pins σ H s->RelV x v->Vals xs us->r x xs H Q->
  Yn ?M X.A (call (.builtin id) (v::us)) ?BT X.xe s
section
variable{a b:YZ}{ta tb:TE}
theorem aM{r:R2}(hr:IxR X r)(ha:PE X a ta)(hb:PE X b tb)(hs:aim b):PE X (.Subscript a b pos) (tOp r ta tb):=by
 intro pins s σ H Q I h;exact FY (amn ha hb I h λv u s2 x y H2 I2 rx ry q=>hr a b pins s2 σ H2 x y v u Q I2 rx ry q (hs _ _))
def xK(K:Yd):R2:=λx y H Q=>∃p xs i v,x=.ref p/\y=.int i/\bK K H p xs/\mq xs i=Ya v/\Q v H
def amc(K:Yd):R2:=λx y H Q=>∃p xs i v,x=.ref p/\y=.int i/\dC K H p xs/\mq xs i=Ya v/\Q v H
theorem ajx:IxR X (xK X.K):=by
 intro value slice pins s σ H x y v u Q I rx ry h hs;obtain⟨p,xs,i,z,rfl,rfl,hq,he,q⟩:=h;cases rx;obtain⟨t,rfl⟩:=ry;obtain⟨its,r,pl,hz⟩:=I.list hq;obtain⟨j,h1,h2,h3,h4,h5⟩:=ad6 he;obtain⟨w,ew,rw'⟩:=r.get h2;have hl:=r.length;have hn:=Q0;have fin:EP X pins σ Q w s:=⟨z,H,I,rw',q⟩;by_cases h0:0<=i
 ·have hj:i.toNat=j:=by
   rw[seqIndex_of h0 h5]at h1;exact YK h1
  exact item_listR pl.isList h0 ?D (by rw[hj];simpa using ew) fin hs
 ·have hj:(i+ (its.toArray.size:Int)).toNat=j:=by
   rw[IM ?D h4]at h1;rw[Yx,<-hl];exact YK h1
  exact AZ (x:=w) pl.isList.typeIs EN.lookup
   (wpAny_getItem_list_neg (Q:=λr s'=>r=w/\EP X pins σ Q r s') pl.isList ?D (by rw[Yx]<;>omega) ?D (by rw[hj];simpa using ew) ⟨rfl,fin⟩) hs
theorem amB:IxR X (amc X.K):=by
 intro value slice pins s σ H x y v u Q I rx ry h hs;obtain⟨p,xs,i,z,rfl,rfl,hq,he,q⟩:=h;cases rx;obtain⟨t,rfl⟩:=ry;obtain⟨its,r,pl,hz⟩:=I.tuple hq;obtain⟨j,h1,h2,h3,h4,h5⟩:=ad6 he;obtain⟨w,ew,rw'⟩:=r.get h2;have hl:=r.length;have hn:=Q0;have fin:EP X pins σ Q w s:=⟨z,H,I,rw',q⟩;exact AZ (x:=w) pl.typeIs jJ.lookup
  (getItem_tuple (j:=j) (Q:=λr s'=>r=w/\EP X pins σ Q r s') pl ?D ?D (by rw[Yx,<-hl];exact h1) (by simpa using ew) ⟨rfl,fin⟩) hs
theorem Wb(lo hi:Option Int)(n:Nat):(qh lo hi Yb n).1=((HT.ql n 0 lo:Nat):Int)/\(qh lo hi Yb n).2.1=((HT.ql n n hi:Nat):Int)/\(qh lo hi Yb n).2.2=1:=by
 refine⟨?_,?_,rfl⟩
 ·cases lo with
  |none=>simp[qh,HT.ql]
  |some i=>
   simp only[qh,HT.ql,Fn,show(1:Int)>0 by decide,if_true];by_cases h:i<0
   ·simp only[h,if_true]<;>omega
   ·simp only[h,if_false]<;>omega
 ·cases hi with
  |none=>simp[qh,HT.ql]
  |some i=>
   simp only[qh,HT.ql,Fn,show(1:Int)>0 by decide,if_true];by_cases h:i<0
   ·simp only[h,if_true]<;>omega
   ·simp only[h,if_false]<;>omega
theorem Sd(its:List Ye)(lo hi:Option Int):slicePick its.toArray lo hi Yb=((its.drop (HT.ql its.length 0 lo)).take (HT.ql its.length its.length hi-HT.ql its.length 0 lo)).toArray:=by
 obtain⟨h1,h2,h3⟩:=Wb lo hi its.toArray.size;unfold slicePick;rw[h1,h2,h3];simp only[sliceRange_one,pick_run,Yx]<;>rfl
def alx(K:Yd):V->Option Int->Option Int->Hp->VK->Prop:=λx lo hi H Q=>∃a xs,x=.ref a/\bK K H a xs/\∀p,H p=Yb->Q (.ref p) (upd H p (.lst (K6 xs lo hi)))
theorem aii:SlR X (alx X.K):=by
 intro pins s σ H x v vl vu lo hi sl Q I rx hs pl pu h;obtain⟨a,xs,rfl,hx,q⟩:=h;cases rx;obtain⟨its,r,ht,hz⟩:=I.list hx;have hlen:=r.length;refine⟨"list",_,EN.lookup,ht.isList.typeIs,?_⟩;refine wpAny_getItem_list_slice ht.isList hs pl pu .none ?N ?_ (by rw[Yx]<;>omega);rw[Sd,<-hlen];refine⟨.ref s.heap.objs.size,_,I.laid (t':=s.toks) (o:=.lst (K6 xs lo hi)) (λb ob q=>Yi _ q) ?BU ?_,rfl,q _ ?AL⟩;exact⟨bP (N7 xs lo hi) hz,_,0,(r.drop (HT.ql xs.length 0 lo)).take ?EW,Yq _ rfl⟩
theorem We:jQ X (.builtin "len") (λxs H Q=>∃p ys,xs=?CD/\(bK X.K H p ys\/dC X.K H p ys)/\Q (.int ys.length) H):=by
 intro pins s σ H xs us Q I r h;obtain⟨p,ys,rfl,hq,q⟩:=h;obtain⟨u,rfl,rx⟩:=lQ r;cases rx;have hn:=Q0;rcases hq with hq|hq
 ·obtain⟨its,r',pl,hz⟩:=I.list hq;have hlen:=r'.length;exact Calls.call_len_list pl.isList ?DO ⟨.int ys.length,H,I.tok _,⟨s.toks+ 1,by rw[Yx,hlen]⟩,q⟩
 ·obtain⟨its,r',pl,hz⟩:=I.tuple hq;have hlen:=r'.length;exact len_tuple pl ?DO ⟨.int ys.length,H,I.tok _,⟨s.toks+ 1,by rw[Yx,hlen]⟩,q⟩
theorem Wm:jQ X (.type "list") (λxs H Q=>∃p ys,xs=?CD/\(bK X.K H p ys\/dC X.K H p ys)/\∀l,H l=Yb->Q (.ref l) (upd H l (.lst ys))):=by
 intro pins s σ H xs us Q I r h;obtain⟨p,ys,rfl,hq,q⟩:=h;obtain⟨u,rfl,rx⟩:=lQ r;cases rx;have fin:∀(its:List Ye),Vals ys its->ys.length<=YB->∀(h':YT) (c':Nat),(∀b o',s.heap.get? b=Ya o'->h'.get? b=Ya o')->
   h'.get? s.heap.objs.size=Ya {cls:=.type "list",dict:=Yb,data:=.seq its.toArray c',slots:=#[]}->EP X pins σ Q (.ref s.heap.objs.size) ?AM:=λits r' hz h' c' kp e=>
  ⟨.ref s.heap.objs.size,_,I.laid (t':=s.toks) kp ?BU (show gQ X.prog X.w _ h' _ (.lst ys)from⟨hz,its,c',r',e⟩),rfl,q _ ?AL⟩
 rcases hq with hq|hq
 ·obtain⟨its,r',pl,hz⟩:=I.list hq;have hlen:=r'.length;obtain⟨o,ho,hc,n,hd⟩:=pl.isList;exact IA p (.inl rfl) ho hc hd (λh' c' kp e=>fin its r' hz h' c' kp e) ?DO
 ·obtain⟨its,r',pl,hz⟩:=I.tuple hq;have hlen:=r'.length;obtain⟨o,ho,hc,n,hd⟩:=pl;exact IA p (.inr rfl) ho hc hd (λh' c' kp e=>fin its r' hz h' c' kp e) ?DO
theorem RX:jQ X (.type "tuple") (λxs H Q=>∃p ys,xs=?CD/\((bK X.K H p ys/\∀l,H l=Yb->Q (.ref l) (upd H l (.tup ys)))\/(dC X.K H p ys/\Q (.ref p) H))):=by
 intro pins s σ H xs us Q I r h;obtain⟨p,ys,rfl,h⟩:=h;obtain⟨u,rfl,rx⟩:=lQ r;cases rx;rcases h with⟨hq,q⟩|⟨hq,q⟩
 ·obtain⟨its,r',pl,hz⟩:=I.list hq;have hlen:=r'.length;refine call_tuple_list pl.isList (λh' kp=>?_) ?DO;have I1:bH X pins σ H ?AM:=I.kept (t':=s.toks) kp;have I2:bH X pins σ (upd H h'.objs.size (.tup ys)) {s with heap:=h'.push {cls:=.type "tuple",data:=.seq its.toArray}}:=
   I1.laid (t':=s.toks) (λb o e=>Yi _ e) ?BU (show gQ X.prog X.w _ _ _ (.tup ys)from⟨hz,its,r',xg.new _ _⟩)
  exact⟨.ref h'.objs.size,_,I2,rfl,q _ ?D9⟩
 ·obtain⟨its,r',pl,hz⟩:=I.tuple hq;exact call_tuple_same pl ⟨.ref p,H,I,rfl,q⟩
def tyV(K:Yd)(T:String)(x:V)(H:Hp):Prop:=match x with
 | .str _=>T="str"
 | .int _=>T="int"
 | .ref p=>(T="list"/\∃xs,bK K H p xs)\/(T="tuple"/\∃o,K.lookup p=Ya o/\o.cls=.type "tuple"/\o.dict=Yb)\/
   (T="dict"/\((∃kvs,H p=Ya (.dK kvs))\/∃kvs,H p=Ya (.dT kvs)))\/(T="set"/\∃S n,H p=Ya (.set S n))
 |_=>False
theorem Ln{x:V}{v:Ye}(I:bH X pins σ H s)(r:RelV x v)(ty:tyV X.K T x H):
  s.TypeIs v T/\∀a,v=.ref a->∃ob,s.heap.get? a=Ya ob/\ob.dict=none:=by
 cases x with
 |str z=>
  obtain⟨t,rfl⟩:=r;cases (show T="str"from ty);exact⟨typeIs_str s z t,λ_ e=>nomatch e⟩
 |int i=>
  obtain⟨t,rfl⟩:=r;cases (show T="int"from ty);exact⟨F0 s i t,λ_ e=>nomatch e⟩
 |ref p=>
  cases r;rcases ty with⟨rfl,xs,hq⟩|⟨rfl,o,hk,hc,hd⟩|⟨rfl,hk⟩|⟨rfl,S,n,hk⟩
  ·obtain⟨its,_,pl,_⟩:=I.list hq;refine⟨pl.isList.typeIs,λa e=>?_⟩;cases e;obtain⟨o,n,e,c,hd,_⟩:=pl;exact⟨o,e,hd⟩
  ·refine⟨⟨o,I.kIn p o hk,hc⟩,λa e=>?_⟩;cases e;exact⟨o,I.kIn _ o hk,hd⟩
  ·have z:∃o,s.heap.get? p=Ya o/\o.ExactDict:=by
    rcases hk with⟨kvs,hk⟩|⟨kvs,hk⟩
    ·obtain⟨_,_,_,_,o,_,_,e,ex,_⟩:=I.hok p _ hk;exact⟨o,e,ex⟩
    ·obtain⟨_,_,_,_,o,_,_,e,ex,_⟩:=I.hok p _ hk;exact⟨o,e,ex⟩
   obtain⟨o,e,ex⟩:=z;refine⟨⟨o,e,ex.1⟩,λa e2=>?_⟩;cases e2;exact⟨o,e,ex.2.1⟩
  ·obtain⟨o,_,_,_,e,ex,_⟩:=I.hok p _ hk;refine⟨⟨o,e,ex.1⟩,λa e2=>?_⟩;cases e2;exact⟨o,e,ex.2.1⟩
 |_=>exact fh ty
def aoT(K:Yd)(T:String)(r:V->List V->Hp->VK->Prop)(to:TE):TE:=λσ H Q=>to σ H λx H1=>tyV K T x H1/\r x [] H1 Q
def tBM(K:Yd)(T:String)(r:V->List V->Hp->VK->Prop)(to:TE)(t:TA):TE:=λσ H Q=>to σ H λx H1=>tyV K T x H1/\t σ H1 λxs H2=>r x xs H2 Q
variable{o:YZ}{es:List YZ}{to:TE}{t:TA}{name:Ym}{apos cpos:iL}{id:String}{r:V->List V->Hp->VK->Prop}
theorem Vp(pa:PlainAttrs T)(slot:IQ T name id)(hty:typeOf (.builtin id)=pure (.type "method_descriptor"))(hm:MtR X id r)(ho:PE X o to)
  (hbase:kH o name X.env (ay o X.env)=ay o X.env:=by rfl) (hline:(apos.endLine==cpos.line)=true:=by rfl):PE X (.Call (.Attribute o name apos) [] [] cpos) (aoT X.K T r to):=by
 intro pins s σ H Q I h;refine nh hbase hline (eZ (ho pins s σ H _ I h) λv s1 zz=>?_);obtain⟨x,H1,I1,r1,ty,q1⟩:=zz;obtain⟨h1,h2⟩:=Ln I1 r1 ty;exact⟨T,id,pa,slot,hty,h1,h2,j3 rfl (qo (hm pins s1 σ H1 x [] v [] Q I1 r1 .nil q1))⟩
theorem ad3(pa:PlainAttrs T)(slot:IQ T name id)(hty:typeOf (.builtin id)=pure (.type "method_descriptor"))(hm:MtR X id r)(ho:PE X o to)(ha:PA X (e::es) t)
  (hbase:kH o name X.env (ay o X.env)=ay o X.env:=by rfl)
  (hfew:((dk cpos ?IX).all (λx=>!x.1)&&(kK cpos (gm [] X.env)).all (λx=>x.1.isSome)
   &&decide ((e::es).length+ ([]:List EB).length+ (if([]:List EB).isEmpty then 0 else 1)<30))=true:=by rfl)
  (hline:(apos.endLine==cpos.line)=true:=by rfl) (hs:YR (e::es) X.env=?A8::YR es X.env:=by rfl) (hplain:(dk cpos ?CY).any (·.1)=false:=by rfl):
  PE X (.Call (.Attribute o name apos) (e::es) [] cpos) (tBM X.K T r to t):=by
 intro pins s σ H Q I h;refine wpAny_Call_method_late hbase hfew hline rfl (eZ (ho pins s σ H _ I h) λv s1 zz=>?_);obtain⟨x,H1,I1,r1,ty,q1⟩:=zz;obtain⟨h1,h2⟩:=Ln I1 r1 ty;refine⟨T,id,pa,slot,hty,h1,h2,?_⟩;have hA:=ha cpos pins s1 σ H1 _ I1 q1;rw[hs]at hA⊢;refine j3 (by show(false||(dk cpos ?CY).any (·.1))=false;rw[hplain]<;>rfl) (Calls.evalArgs_plain ?_);exact eZ hA λus s2 ⟨vs,H2,I2,r2,q2⟩=>hm pins s2 σ H2 x vs v us Q I2 r1 r2 q2
end
def MtM(X:Cx)(id:String)(r:V->List V->Hp->VK->Prop):Prop:=
 ∀(pins:List ?AQ) (s:Yl) (σ:St) (H:Hp) (x:V) (xs:List V) (v:Ye) (us:List Ye) (Q:VK),bH X pins σ H s->RelV x v->Vals xs us->r x xs H Q->
  Yn ?M X.A (call (.builtin id) (v::us)) ?BT X.xe s
theorem Vals.one:∀{x:V} {us:List Ye},Vals [x] us->∃u,us=[u]/\RelV x u:=by
 intro x us h;cases h with|cons r t=>
 cases t;exact⟨_,rfl,r⟩
theorem Vals.rep{xs:List V}{us:List Ye}(h:Vals xs us):∀k:Nat,Vals (br k xs).flatten (br k us).flatten
 |0=>.nil
 |k+ 1=>by
  rw[mS,mS,sd,sd];exact Vals.append h (Vals.rep h k)
theorem Ul(its:List Ye):∀(k:Nat) (acc:List Ye),
  F6 (λx1 x2=>x1++x2) acc.toArray (br k its.toArray)=(acc++(br k its).flatten).toArray
 |0,acc=>by simp
 |k+ 1,acc=>by
  have e:acc.toArray++its.toArray=(acc++its).toArray:=by simp
  have e2:(acc++its)++(br k its).flatten=acc++(br (k+ 1) its).flatten:=by
   rw[mS,sd,kN]
  rw[<-e2,<-Ul its k (acc++its),<-e,mS,hW]
section
variable{l b:Yc}{ys zs:List V}
theorem bH.lset{its':List Ye}{f:Array Ye->Array Ye}(I:bH X pins σ H s)(hH:H l=Ya (.lst xs))(e:s.heap.get? l=Ya {cls:=.type "list",data:=.seq its.toArray n})(hf:f its.toArray=its'.toArray)(hv:Vals ys its')(hz:ys.length<=YB):
  bH X pins σ (upd H l (.lst ys)) {s with heap:=s.heap.update l (eM f),toks:=t'}:=by
 have q:=PySem.IsL.update e f;rw[hf]at q;refine I.write (x:=l) (e:=l) (by rw[hH];exact trivial) (.inl rfl) (λb' u hb hu=>(bo s.heap (eM f) (Ne.symm hb)).trans hu) ⟨_,q⟩ ?_;exact⟨hz,its',_,hv,q⟩
theorem bH.lnew(I:bH X pins σ H s)(hv:Vals ys its)(hz:ys.length<=YB):
  bH X pins σ (upd H s.heap.objs.size (.lst ys)) {s with heap:=s.heap.push {cls:=.type "list",data:=.seq its.toArray},toks:=t'}:=
 I.laid (λ_ _ q=>Yi _ q) ?BU ⟨hz,its,0,hv,Yq _ rfl⟩
theorem bH.fresh(I:bH X pins σ H s):H s.heap.objs.size=none:=I.hok.fresh ?BU
theorem bH.lstM(I:bH X pins σ H s)(hH:H l=Ya (.lst xs)):xs.length<=YB/\∃(its:List Ye) (n:Nat),Vals xs its/\xs.length=its.length/\s.heap.get? l=Ya {cls:=.type "list",data:=.seq its.toArray n}:=by
 obtain⟨z,its,n,r,e⟩:=I.hok l _ hH;exact⟨z,its,n,r,r.length,e⟩
theorem WW(h:n<=YB):mw n=false:=by
 unfold mw;exact decide_eq_false ?D
end
section
def O5:V->List V->Hp->VK->Prop:=λx vs H Q=>∃l xs y,x=.ref l/\vs=[y]/\H l=Ya (.lst xs)/\xs.length<YB/\Q .non (upd H l (.lst (xs++[y])))
theorem Lq:MtM X "list.append" O5:=by
 intro pins s σ H x vs v us Q I rx rv h;obtain⟨l,xs,y,rfl,rfl,hH,hz,q⟩:=h;cases rx;obtain⟨u,rfl,ru⟩:=rv.one;obtain⟨z,its,n,r,hl,e⟩:=I.lstM hH;refine px F.slot_list_append ⟨_,e,rfl⟩ F.entry_list_append (F.args_list_append_2 _ _) (PySem.list_append l its.toArray n u (by rw[Yx];omega)) ⟨e,?_⟩;refine⟨.non,_,I.lset (its':=its++[u]) hH e ?N (r.append (.cons ru .nil)) ?_,rfl,q⟩;rw[YE,kC];omega
def aiM:V->List V->Hp->VK->Prop:=λx vs H Q=>∃l b xs zs,x=.ref l/\vs=[.ref b]/\H l=Ya (.lst xs)/\H b=Ya (.lst zs)/\xs.length+ zs.length<=YB/\Q .non (upd H l (.lst (xs++zs)))
theorem TX:MtM X "list.extend" aiM:=by
 intro pins s σ H x vs v us Q I rx rv h;obtain⟨l,b,xs,zs,rfl,rfl,hH,hB,hz,q⟩:=h;cases rx;obtain⟨u,rfl,ru⟩:=rv.one;cases ru;obtain⟨z,its,n,r,hl,e⟩:=I.lstM hH;obtain⟨z2,its2,n2,r2,hl2,e2⟩:=I.lstM hB;have hsz:its.toArray.size+ its2.toArray.size<=YB:=by rw[Yx,Yx];omega
 have hlong:¬ (!its.toArray.isEmpty&&mw (its.toArray.size+ its2.toArray.size))=true:=by
  rw[WW hsz,rq];exact YN
 refine px F.slot_list_extend ⟨_,e,rfl⟩ F.entry_list_extend (F.args_list_extend_2 _ _)
  (AutoSeq1.list_extend_list_list_0 l its.toArray n b its2.toArray n2 hlong (by rw[Yx];omega) ?D) ⟨e,e2,?_⟩
 refine⟨.non,_,I.lset (its':=its++its2) hH e ?N (r.append r2) ?_,rfl,q⟩;rw[YE];omega
def apk:R2:=λx y H Q=>∃l b xs zs,x=.ref l/\y=.ref b/\H l=Ya (.lst xs)/\H b=Ya (.lst zs)/\xs.length+ zs.length<=YB/\∀p,H p=Yb->Q (.ref p) (upd H p (.lst (xs++zs)))
theorem amx:Fb X (i5 .Add) apk:=by
 intro pins s σ H x y v u Q I rx ry h;obtain⟨l,b,xs,zs,rfl,rfl,hH,hB,hz,q⟩:=h;cases rx;cases ry;obtain⟨z,its,n,r,hl,e⟩:=I.lstM hH;obtain⟨z2,its2,n2,r2,hl2,e2⟩:=I.lstM hB;refine PySem.P.add_list e e2 ?_ (by rw[Yx,Yx];omega);have ea:its.toArray++its2.toArray=(its++its2).toArray:=by simp
 rw[ea];exact⟨.ref _,_,I.lnew (t':=s.toks) (r.append r2) (by rw[YE];omega),rfl,q _ I.fresh⟩
def apq:R2:=λx y H Q=>∃l k xs,x=.ref l/\y=.int k/\H l=Ya (.lst xs)/\-(2^63)<=k/\k<2^63/\xs.length*k.toNat<=YB/\
 ∀p,H p=Yb->Q (.ref p) (upd H p (.lst (br k.toNat xs).flatten))
theorem ac6{α:Type}(xs:List α)(k:Nat):(br k xs).flatten.length=k*xs.length:=by
 induction k with
 |zero=>simp
 |succ k ih=>rw[mS,sd,YE,ih,Nat.succ_mul,IS]
theorem amK:Fb X (i5 .Mult) apq:=by
 intro pins s σ H x y v u Q I rx ry h;obtain⟨l,k,xs,rfl,rfl,hH,h1,h2,hz,q⟩:=h;cases rx;obtain⟨t,rfl⟩:=ry;obtain⟨z,its,n,r,hl,e⟩:=I.lstM hH;have hlen:its.toArray.size*k.toNat<=YB:=by rw[Yx,<-hl];exact hz
 have hcap:¬ its.toArray.size*k.toNat>(2^63-1) / 8:=by
  have:(YB:Nat)<=(2^63-1) / 8:=by decide
  omega
 have hfit:¬ (!Builtin.List.listFitsIndex k)=true:=by
  rw[fitsIndex_both h1 h2];exact YN
 have hlong:¬ mw (its.toArray.size*k.toNat)=true:=by
  rw[WW hlen];exact YN
 have hnew:F6 (λx1 x2=>x1++x2) #[] (br (if its.toArray.isEmpty=true then 0 else k.toNat) its.toArray)=(br k.toNat its).flatten.toArray:=by
  have f0:∀m:Nat,F6 (λx1 x2=>x1++x2) #[] (br m its.toArray)=(br m its).flatten.toArray:=λm=>by
   have:=Ul its m [];rw[List.nil_append]at this;exact this
  rw[f0];cases its with
  |nil=>simp
  |cons a r'=>rw[if_neg ?N]
 refine wpAny_binaryOp_repeat_ref (T:="list") (U:="int") ?B ⟨_,e,rfl⟩ (λs'=>F0 s' k t) noFill_list_mul F.fills_int_mul F.slot_int_rmul repeat_list F.slot_int_index.lookup
  (px F.slot_int_rmul (F0 s k t) F.entry_int_rmul (F.args_int_rmul_2 _ _) (int___rmul___int_list k t l its.toArray n)
   ⟨e,rfl,⟨_,e,rfl⟩,px F.slot_list_mul ⟨_,e,rfl⟩ F.entry_list_mul (F.args_list_mul_2 _ _) (AutoListH.list___mul___list_int_3 l its.toArray n k t hfit hcap hlong) ⟨e,?_⟩⟩)
 rw[hnew];exact⟨.ref _,_,I.lnew (t':=s.toks) (r.rep k.toNat) (by rw[ac6,Nat.mul_comm];exact hz),rfl,q _ I.fresh⟩
end
section
variable{prog:YI}{w:YV}{A:Y7}{E:Ye->Yl->Prop}
end
section
end
end L2
namespace Att
open PySem PySem.W PySem.Calls PyProof.Rows
variable{P:Params}{h:YT}{l:OpenLaw}{n:Nat}
theorem Ox:∀(ns:List Int) (vs:List Ye),WellAll P h vs (ns.map WData.int)->aT vs ns:=by
 intro ns
 induction ns with
 |nil=>
  intro vs w;rw[mn]at w;cases w;exact .nil
 |cons n ns ih=>
  intro vs w;rw[YS]at w;cases w with
  |cons a b=>
   cases a;exact .cons _ _ (ih _ b)
theorem afq(hn:l.most=Ya n){args:List WData}{vals:List Ye}(hpre:l.row.toRowW.claim.pre args=true)(hwl:WellAll P h vals args):
  ∃a vs ns,vals=[Y0 a]/\args=[WData.list (ns.map WData.int)]/\h.get? a=Ya {cls:=.type "list",data:=.seq vs.toArray}/\aT vs ns/\ns.length<=n:=by
 have hsh:WShape.hasAll [] args [.list .int]=true:=(pre_splitW hpre).1;have hc:l.pre.holds [] {args:=args}=true:=(pre_splitW hpre).2;obtain⟨d,r,rfl,h1,h2⟩:=hasAllW_cons hsh;obtain rfl:=hasAllW_nil h2;obtain⟨xs,rfl,h3⟩:=hasW_list h1;obtain⟨ns,rfl⟩:=items_int h3;have hlen:ns.length<=n:=by
  unfold OpenLaw.pre at hc;have h4:(WTm.not (.lt (.lit (.int (n:Int))) (.len (.arg 0)))).holds [] {args:=[.list (ns.map .int)]}=true:=by
   have h4:=(holds_andW hc).1;rw[hn]at h4;exact h4
  have h5:=condW_of h4 (w_not (w_lt w_lit (w_len_list (w_arg rfl))));rw[Yk]at h5;refine Nat.le_of_not_lt λq=>?_;have q':(n:Int)<((ns.length:Nat):Int):=by omega
  first
   |(rw[decide_eq_true q']at h5;exact absurd h5 ?B)
   |(simp at h5;omega)
 cases hwl with
 |cons w1 w2=>
  cases w2;cases w1 with
  |list ho hall=>exact⟨_,_,ns,rfl,rfl,ho,Ox ns _ hall,hlen⟩
theorem aer(l:OpenLaw)(args:List WData):l.row.toRowW.claim.post args (.bool true) args=true:=
 postW_of (r:=l.row.toRowW) (X:=(true==true))
  (show WShape.has [] (.bool true) .bool=true by first|rfl|decide|simp[WShape.has,WShape.arms,WShape.armsAll])
  (show(WTm.eq .res (.lit (.bool true))).value [] {args:=args,res:=Ya (.bool true),after:=args}=Ya (.bool (true==true))from w_eq_bool (w_res rfl) w_lit) rfl
theorem attach_call{q:YI}{loose:List Ym}{XP:(Ym->Option Ye)->YT->Prop}{YP:YV->YT->Prop}{d:DefRec}(hn:l.most=Ya n)(hdf:d.params.defaults=[])(call:∀(w:YV) (s₀ s₁:Yl) (mg mb:Ym->Option Ye) (fa:Yc) (o:Y6) (pm cd doc:Ye) (a:Yc) (vs:List Ye) (ns:List Int),
   Ground q loose [] XP w s₀ mg mb s₁.heap->YP w s₁.heap->
   s₁.heap.get? fa=Ya o->o.data=.func (docDef d.name d.params d.body d.scope pm cd doc)->s₁.heap.CodeRec cd d.name->mg d.name=Ya (.ref fa)->
   s₁.heap.get? a=Ya {cls:=.type "list",data:=.seq vs.toArray}->aT vs ns->ns.length<=n->s₁.gens=#[]->
   c5 (Yr l.prog w) yY (.call (.ref fa) ⟨?BV,[]⟩) ?B1 s₁):
  WalkO q loose XP YP l.row.toRowW d [] (λf vs=>PySem.call f vs):=by
 intro w s₀ s₁ mg mb G Y fa o pm cd doc dV kV ho hd hcd hD hmg hg args vals as hpre hlay hrd hwl hlo;obtain rfl:dV=.none:=Dflts.none hD hdf;obtain rfl:kV=.none:=Dflts.noKw hD;obtain⟨a,vs,ns,rfl,rfl,hobj,hints,hlen⟩:=afq hn hpre hwl;refine enter_call (codeAny_mono (call w s₀ s₁ mg mb fa o pm cd doc a vs ns G Y ho (fd_plain hd) hcd hmg hobj hints hlen hg) λr s' hq=>?_);obtain⟨rfl,h2,h3,h4⟩:=hq;exact⟨.inl ⟨.bool true,.bool true,[],rfl,λ_=>rfl,.bool true,aer l _,λ_=>⟨EO,λ_ hm=>(nomatch hm)⟩⟩,h2,h3,h4⟩
section
variable{prog:YI}{w:YV}{A:Y7}{E:Ye->Yl->Prop}{s:Yl}{K:Frag}
end
end Att
namespace L2
open PySem PySem.Spec PyProof.Rows
variable{X:Cx}{x qual:Ym}{f:Yc}{fd:Yt}{ps:List Ym}{k:Nat}{A B:Prop}{H H':Hp}
theorem Ga:∀{vs:List Ye} {ns:List Int},aT vs ns->Vals ?A1 vs
 |_,_,.nil=>.nil
 |_,_,.cons n t h=>.cons ⟨t,rfl⟩ (Ga h)
noncomputable def bF(s:YJ)(j:Nat):YJ:=match s with
 | .ClassDef _ _ _ body _ _ _ _ _ _ _=>body.getD j (.Pass ⟨0,0,0,0⟩)
 |_=>.Pass ⟨0,0,0,0⟩
noncomputable def jP(s:YJ):DI:=match s with
 | .FunctionDef _ a _ _ _ _ _ _ _ _=>a
 |_=>{posonlyargs:=[],args:=[],vararg:=Yb,kwonlyargs:=[],kw_defaults:=[],kwarg:=Yb,defaults:=[]}
noncomputable def gK(s:YJ):List YJ:=match s with
 | .FunctionDef _ _ b _ _ _ _ _ _ _=>b
 |_=>[]
noncomputable def az(s:YJ):jS:=match s with
 | .FunctionDef _ _ _ _ _ _ sc _ _ _=>sc
 |_=>{kind:=.function,names:=[],isGenerator:=false,isCoroutine:=false}
abbrev bJ:CXT:=λ_ _ _ _ _ _=>False
abbrev E0:XK:=λ_ _ _=>False
theorem fc:CT bJ X E0:=λ_ _ _ _ _ _ _ h=>h.elim
structure cB(K:Yd)(x qual:Ym)(st:YJ)(f:Yc)(fd:Yt):Prop where
 ex:∃(oc:Ye) (od:Option Yc) (kV doc pm:Ye) (an:Option Yc) (cdv ct:Ye) (osl:Array ?EV),
  fd=d6 x qual (jP st) (gK st) (az st) .none kV doc pm an cdv ct/\K.lookup f=Ya ⟨oc,od,.func fd,osl⟩/\mh K cdv qual=true
 kp:mf K (.ref f)=true
section
variable{P:YI}{w:YV}{K:Yd}{mg:Ym->Option Ye}{base:YT}
theorem cB.ok{st:YJ}{N:List Ym}{sp:Sp}(F:cB K x qual st f fd)(S:aF N ps (az st))(len:∀vs H Q E,sp vs H Q E->vs.length=ps.length)(hbody:∀(cdv:Ye) (A:Y7) (outer:List m4) (s:Yl) (H:Hp) (vs:List V) (Q:VK) (E:XK),gJ k (A.deeper ?BR)->sp vs H Q E->
   ∃t,PSs (Vo bJ P w K mg base N qual (az st) f cdv A outer s H E).nox (gK st) t/\t {nx:=λ_ H'=>Q .non H',rt:=Q} (pJ N vs) H):aG P w K mg base bJ (k+ 1) f fd ps sp:=by
 obtain⟨oc,od,kV,doc,pm,an,cdv,ct,osl,rfl,lk,hcd⟩:=F.ex;refine afQ lk hcd S len λA outer s H vs Q E hr hsp=>?_;obtain⟨t,h,q⟩:=hbody cdv A outer s H vs Q E hr hsp;exact⟨t,h.nox,q⟩
theorem cB.binds{st:YJ}(F:cB K x qual st f fd)(h:∀(kV doc pm:Ye) (an:Option Yc) (cdv ct:Ye) (us:List Ye),us.length=ps.length->Cf ?A4 ⟨us,[]⟩=pure (ps.zip us)):Binds K fd ps []:=by
 obtain⟨oc,od,kV,doc,pm,an,cdv,ct,osl,rfl,lk,hcd⟩:=F.ex;exact .all (h kV doc pm an cdv ct)
theorem RJ{st:YJ}{oc:Ye}{od an:Option Yc}{osl:Array ?EV}{kV doc pm cdv ct:Ye}(l:K.lookup f=Ya ⟨oc,od,.func ?A4,osl⟩)(c:mh K cdv qual=true)(k:mf K (.ref f)=true):cB K x qual st f ?A4:=⟨⟨oc,od,kV,doc,pm,an,cdv,ct,osl,rfl,l,c⟩,k⟩
end
theorem Ql{A:Y7}(hr:gJ k A):A.units+ 1<hV:=iP (hZ (by decide:1<=64) _) hr.units
theorem bx{n:Nat}(h:n<=1000):n<YB:=iP h ?B
section
theorem pv(i:Nat){pos:iL}(hN:X.N[i]?=Ya x:=by rfl)(hv:Vis X.env.scope x:=by first|exact Or.inl rfl|exact Or.inr ?E|exact Or.inr ?IC)(hd:(x==("__debug__":Ym))=false:=by decide)(hcd:(x==("__classdict__":Ym))=false:=by decide):PE X (.Name x pos) (vO i):=amt hN hv hd hcd
end
theorem anr(h:B):if false=true then A else B:=by
 rw[if_neg YN];exact h
theorem ame(h:A):if true=true then A else B:=by
 rw[if_pos rfl];exact h
theorem iu{c:Prop}[Decidable c](h1:c->A)(h2:¬ c->B):if c then A else B:=by
 by_cases h:c
 ·rw[if_pos h];exact h1 h
 ·rw[if_neg h];exact h2 h
def aW(H H':Hp):Prop:=∀b o,H b=Ya o->H' b=Ya o
theorem aW.refl(H:Hp):aW H H:=λ_ _ h=>h
theorem aW.trans{H1 H2:Hp}(a:aW H H1)(b:aW H1 H2):aW H H2:=λc o h=>b c o (a c o h)
theorem aW.free(e:aW H H'){l:Yc}(h:H' l=JU):H l=JU:=by
 cases q:H l with
 |none=>rfl
 |some o=>
  rw[e l o q]at h;cases h
theorem aW.seq{K:Yd}{a:Yc}{xs:List V}(e:aW H H')(h:bK K H a xs):bK K H' a xs:=by
 rcases h with(h|⟨o,h⟩)|h
 ·exact .inl (.inl (e _ _ h))
 ·exact .inl (.inr ⟨o,e _ _ h⟩)
 ·exact .inr h
section
variable{κ:Type}[DecidableEq κ]
end
end L2
namespace GX
open PySem
variable{env:m4}{sc:jS}{n:Ym}{c:Yc}
theorem QL{α β:Type}{f:α->β->w4 (ForInStep β)}(g:α->β->β):∀(l:List α) (b:β),(∀x∈l,∀b,f x b=pure (.yield (g x b)))->
  forIn l b f=pure (l.foldl (λb x=>g x b) b)
 |[],b,_=>rfl
 |x::l,b,h=>by
  simp only[List.forIn_cons,h x (.head _),pure_bind];exact QL g l (g x b) λy hy=>h y (Yh _ hy)
noncomputable def Jq(env:m4)(x:Ym×sT)(cs:List ?GG):List ?GG:=if x.2==.free then(x.1,(env.cells.lookup x.1).getD 0)::cs else cs
theorem acQ(h:∀y∈sc.names,y.2=.free->∃c,env.cells.lookup y.1=Ya c):
  CA sc env=pure (sc.names.foldl (λb x=>Jq env x b) []):=by
 simp only[CA];rw[QL (Jq env) sc.names [] (λx hx b=>by
  obtain⟨n,k⟩:=x;unfold Jq;by_cases hk:k=.free
  ·subst hk;obtain⟨c,hc⟩:=h _ hx rfl;have e:cellOf env n=pure c:=by unfold cellOf;rw[hc]
   simp[e,hc]
  ·have hb:(k==c8)=false:=by simpa using hk
   simp only[hb,ri,if_false])]
 rfl
theorem Ro{env:m4}:∀(l:List (Ym×sT)) (acc:List ?GG),(∀y∈l,y.2=.free->∃c,env.cells.lookup y.1=Ya c)->(∀p∈acc,env.cells.lookup p.1=Ya p.2)->
  ∀p∈l.foldl (λb x=>Jq env x b) acc,env.cells.lookup p.1=Ya p.2
 |[],acc,_,ha=>ha
 |x::l,acc,h,ha=>by
  refine Ro l _ (λy hy=>h y (Yh _ hy)) λp hp=>?_;unfold Jq at hp;dsimp only at hp;by_cases hk:x.2=.free
  ·obtain⟨c,hc⟩:=h x Yf hk;rw[hk]at hp;simp only[beq_self_eq_true,if_true]at hp;rcases Yz.mp hp with rfl|hp
   ·rw[hc];rfl
   ·exact ha p hp
  ·have hb:(x.2==c8)=false:=by simpa using hk
   simp only[hb,ri,if_false]at hp;exact ha p hp
theorem Qq{env:m4}{n:Ym}:∀(l:List (Ym×sT)) (acc:List ?GG),((∃c,(n,c)∈acc)\/(n,c8)∈l)->∃c,(n,c)∈l.foldl (λb x=>Jq env x b) acc
 |[],acc,h=>by
  rcases h with h|h
  ·exact h
  ·cases h
 |x::l,acc,h=>by
  refine Qq l _ ?_;unfold Jq;dsimp only;rcases h with⟨c,h⟩|h
  ·refine .inl ⟨c,?_⟩;split
   ·exact Yh _ h
   ·exact h
  ·rcases Yz.mp h with h|h
   ·refine .inl ?_;subst h;exact⟨_,by rw[if_pos ?AE];exact .head _⟩
   ·exact .inr h
theorem Ha{n:Ym}{c:Yc}:∀{l:List ?GG},(n,c)∈l->∃c',l.lookup n=Ya c'
 |[],h=>by cases h
 |(m,d)::l,h=>by
  rw[tj];cases e:n==m with
  |true=>exact⟨d,rfl⟩
  |false=>
   rcases Yz.mp h with h|h
   ·cases h;simp at e
   ·exact Ha h
theorem ahC{n:Ym}{c:Yc}:∀{l:List ?GG},l.lookup n=Ya c->(n,c)∈l
 |[],h=>by cases h
 |(m,d)::l,h=>by
  rw[tj]at h;cases e:n==m with
  |true=>
   rw[e]at h;have e':n=m:=by simpa using e
   have h':d=c:=YK h;rw[e',h'];exact Yf
  |false=>
   rw[e]at h;exact Yh _ (ahC h)
theorem Rb(h:∀y∈sc.names,y.2=.free->∃c,env.cells.lookup y.1=Ya c):
  ∃cl,CA sc env=pure cl/\(∀x c,cl.lookup x=Ya c->env.cells.lookup x=Ya c)/\(∀n,(n,c8)∈sc.names->∃c,cl.lookup n=Ya c):=by
 refine⟨_,acQ h,λx c e=>?_,λn hn=>?_⟩
 ·exact Ro sc.names [] h (λp hp=>by cases hp) (x,c) (ahC e)
 ·obtain⟨c,hc⟩:=Qq (env:=env) sc.names [] (.inr hn);exact Ha hc
theorem Ds{x:Ym}{names:List (Ym×sT)}:
  (names.map fun(n,k)=>if(k==c8&&env.scope.kind==.function&&env.kindOf n==Ya .cell)then(n,iA)else(n,k)).lookup x
  =(names.lookup x).map λk=>if(k==c8&&env.scope.kind==.function&&env.kindOf x==Ya .cell)then iA else k:=by
 induction names with
 |nil=>rfl
 |cons p r ih=>
  obtain⟨n,k⟩:=p;rw[YS];by_cases e:x=n
  ·subst e;dsimp only;split<;>simp_all
  ·have e':(x==n)=false:=by simpa using e
   dsimp only;split<;>simp only[tj,e']<;>exact ih
noncomputable def Vl(elt target:YZ)(ifs:List YZ)(it acc:Ye)(env:m4):w4 Bool:=do
 match<-fF it with
 |none=>pure false
 |some v=>
  ui target it v
  y3 target env v
  let ok<-forIn ifs true λc r=>if r=true then do let ok<-DC c env (ay c env);pure (uu ok)else pure (uu r)
  if ok=true then do
   let x<-ay elt env;let _<-call (.builtin "list.append") [acc,x]
   pure true
  else pure true
theorem ajl(elt target iter:YZ)(ifs:List YZ)(scope:jS)(pos:iL)(it acc:Ye)(env:m4):
  compTurn (.ListComp elt [⟨target,iter,ifs,0⟩] scope pos) 0 it acc env=(do
   rl iter.pos
   let more<-Vl elt target ifs it acc env
   if more=true then again (.compLoop (.ListComp elt [⟨target,iter,ifs,0⟩] scope pos) 0 it acc env)else pure (.done .next)):=by
 rw[compTurn_list,Vl];simp only[bind_assoc];congr 1;funext _;congr 1;funext r;cases r with
 |none=>simp
 |some v=>
  simp only[bind_assoc];congr 1;funext _;congr 1;funext _;congr 1;funext ok;cases ok<;>simp
theorem Xd{prog:YI}{w:YV}{A:Y7}{R:pV->Yl->Prop}{s:Yl}{elt target iter:YZ}{ifs:List YZ}{scope:jS}{pos:iL}{it acc:Ye}(I:Nat->Yl->Prop)(turn:∀n s,I n s->Yn ?I A (Vl elt target ifs it acc env) (λmore s'=>if more=true then∃m,m<n/\I m s' else R (.ok .next) s') ?CR s)(n:Nat)(h:I n s):
  c5 ?I A (.compLoop (.ListComp elt [⟨target,iter,ifs,0⟩] scope pos) 0 it acc env) R s:=by
 apply codeAny_loop rfl I _ n h;intro n s hI;apply wpAny_noted;rw[ajl];change Yn _ A _ _ _ _;apply Yg;apply xi;apply Yg;refine ai (turn n s hI) (λmore s' q=>?_) λ_ _ z=>z.elim;cases more
 ·exact Yp q
 ·exact Yp ⟨rfl,q⟩
end GX
namespace GX
open PySem PySem.Spec PyProof.Rows
variable{A:Y7}{key v:Ye}{Q E:Ye->Yl->Prop}{s:Yl}{B:bS}{R:pV->Yl->Prop}{kws:List (Ym×Ye)}{ko d:Option Ye}
noncomputable def kept:Option (Ye×Ye)->Array Ye
 |none=>#[]
 |some (x,k)=>#[x,k]
noncomputable abbrev PL(a:Array Ye)(c:Nat):Y6:={cls:=.type "list",dict:=Yb,data:=.seq a c,slots:=#[]}
noncomputable abbrev put(S:Yc)(a:Array Ye)(s:Yl):Yl:={s with heap:=s.heap.update S (eM λ_=>a)}
def HX(prog:YI)(w:YV)(A:Y7)(key v:Ye)(Q:Ye->Yl->Prop)(s:Yl):Prop:=
 match key with
 | .none=>Q v s
 |f=>Yn ?I A.in1 (call f [v]) Q ?CR s
def UJ(prog:YI)(w:YV)(op:EA)(lp:String)(I S:Yc)(key:Ye)(kw:List (Ym×Ye))(b:Option (Ye×Ye))(A:Y7)(R:pV->Yl->Prop):Option Ye->Yl->Prop
 |none,s=>(∃c,s.heap.get? S=Ya (PL (kept b) c))/\match b with
  |some (x,_)=>R (.ok (.ret x)) (put S #[] s)
  |none=>∃n d r,kw=(n,d)::r/\R (.ok (.ret d)) s
 |some v,s=>HX prog w A key v (λk s=>(∃c,s.heap.get? S=Ya (PL (kept b) c))/\match b with
  |none=>c5 ?I A (.builtin lp ⟨[.ref I,key,.ref S],kw⟩) R (put S #[v,k] s)
  |some (_,k')=>Yn ?I A.in1 (we op k k') (λa s=>∃y c,a=.bool y/\s.heap.get? S=Ya (PL (kept b) c)/\c5 ?I A (.builtin lp ⟨[.ref I,key,.ref S],kw⟩) R (if y then put S #[v,k] s else s)) ?CR s) s
abbrev Turn(prog:YI)(w:YV)(op:EA)(lp:String)(B:bS):Prop:=∀(I S:Yc) (key:Ye) (kw:List (Ym×Ye)) (b:Option (Ye×Ye)) (c:Nat),
 GW prog w (B ⟨[.ref I,key,.ref S],kw⟩) λA R s=>s.heap.get? S=Ya (PL (kept b) c)/\Yn ?I A.in1 (fF (.ref I)) (UJ prog w op lp I S key kw b A R) ?CR s
section
variable{prog:YI}{w:YV}
theorem two{x k:Ye}:(kept (Ya (x,k))).size<=YB:=by show 2<=YB;decide +kernel
theorem key_of{P:vk->Yl->Prop}{f:Ye->w4 vk}(r:Ye->w4 Ye)(h:HX prog w A key v Q s)(m:∀k s,Q k s->Yn ?I A.in1 (f k) P E s):
  Yn ?I A.in1 (match key with| .none=>pure v >>= f|_=>tryCatch (ny [v] (call key [v])) r >>= f) P E s:=by
 unfold HX at h;split at h
 ·exact Yg (Yp (m _ _ h))
 ·exact Yg (ox (cE (ai h m λ_ _ z=>z.elim)))
theorem abe:Turn prog w .Lt "min.loop" bS.«min.loop»:=by
 intro I S key kw b c A R s ⟨hS,nx⟩;show Yn _ _ (AK (.ref S) >>= _) _ _ s;apply Yg;apply rL hS rfl;apply Yg;apply ox;refine ai nx (λr s1 h=>?_) λ_ _ z=>z.elim;rcases r with _|v<;>rcases b with _|⟨x,k'⟩
 ·obtain⟨_,n,d,l,rfl,q⟩:=h
  wp_walk
  exact q
 ·obtain⟨⟨c1,h1⟩,q⟩:=h;apply Yg;refine i6 h1 rfl ?_ two
  wp_walk
  exact q
 ·unfold UJ at h;refine key_of _ h λk s2 h=>?_;obtain⟨⟨c2,h2⟩,q⟩:=h;apply Yg;apply i6 h2 rfl;exact Yp ⟨eT F.plain_min_loop _,q⟩
 ·unfold UJ at h;refine key_of _ h λk s2 h=>?_;obtain⟨_,q⟩:=h;apply Yg;apply ox;apply cE;apply Yg;refine ai q (λa s3 h=>?_) λ_ _ z=>z.elim;obtain⟨y,c3,rfl,h3,q⟩:=h
  wp_walk
  cases y
  ·wp_walk
   exact⟨eT F.plain_min_loop _,q⟩
  ·refine BH rfl (Yg (i6 h3 rfl ?_ two))
   wp_walk
   exact⟨eT F.plain_min_loop _,q⟩
theorem afW:Turn prog w .Gt "max.loop" bS.«max.loop»:=by
 intro I S key kw b c A R s ⟨hS,nx⟩;show Yn _ _ (AK (.ref S) >>= _) _ _ s;apply Yg;apply rL hS rfl;apply Yg;apply ox;refine ai nx (λr s1 h=>?_) λ_ _ z=>z.elim;rcases r with _|v<;>rcases b with _|⟨x,k'⟩
 ·obtain⟨_,n,d,l,rfl,q⟩:=h
  wp_walk
  exact q
 ·obtain⟨⟨c1,h1⟩,q⟩:=h;apply Yg;refine i6 h1 rfl ?_ two
  wp_walk
  exact q
 ·unfold UJ at h;refine key_of _ h λk s2 h=>?_;obtain⟨⟨c2,h2⟩,q⟩:=h;apply Yg;apply i6 h2 rfl;exact Yp ⟨eT F.plain_max_loop _,q⟩
 ·unfold UJ at h;refine key_of _ h λk s2 h=>?_;obtain⟨_,q⟩:=h;apply Yg;apply ox;apply cE;apply Yg;refine ai q (λa s3 h=>?_) λ_ _ z=>z.elim;obtain⟨y,c3,rfl,h3,q⟩:=h
  wp_walk
  cases y
  ·wp_walk
   exact⟨eT F.plain_max_loop _,q⟩
  ·refine BH rfl (Yg (i6 h3 rfl ?_ two))
   wp_walk
   exact⟨eT F.plain_max_loop _,q⟩
theorem enter{id:String}{args:Args}{Sp:KI}(he:oa wq id=Ya B)(hp:BI id=true)(m:GW prog w (B args) Sp)(h:Sp A R s):
  c5 ?I A (.builtin id args) R s:=AL he (by rw[Around.under_plainId hp];exact m A R s h)
def acS(bt:Nat->Nat->Bool)(n i:Nat):Prop:=∀j,j<n->bt j i=false/\(j<i->bt i j=true)
structure ait(prog:YI)(w:YV)(A:Y7)(key:Ye)(op:EA)(l I S:Yc)(vs:List Ye)(bt:Nat->Nat->Bool)(G:List (Nat×Ye)->Yl->Prop):Prop where
 irr:∀i,bt i i=false
 asy:∀i j,bt i j=true->bt j i=false
 cov:∀a b c,bt a b=true->bt c b=false->bt a c=true
 tail:∀p q L s,G (p::q::L) s->G (q::L) s
 head:∀p L s,G (p::L) s->G [p] s
 calm:∀x L s h tk,x=I\/x=S->G L s->(∀b o,b≠x->s.heap.get? b=Ya o->h.get? b=Ya o)->G L ?A9
 list:∀L s,G L s->s.heap.IsList l vs.toArray
 keys:∀L s j v a c m,G L s->vs[j]?=Ya v->s.heap.get? S=Ya (PL a c)->s.heap.IsListIter I l m->HX prog w A key v (λk s=>G ((j,k)::L) s/\s.heap.get? S=Ya (PL a c)/\s.heap.IsListIter I l m) s
 cmp:∀i j k k' s,G [(j,k),(i,k')] s->Yn ?I A.in1 (we op k k') (λa s'=>a=.bool (bt j i)/\s'=s) ?CR s
theorem HX.imp{Q':Ye->Yl->Prop}(h:HX prog w A key v Q s)(m:∀k s,Q k s->Q' k s):HX prog w A key v Q' s:=by
 unfold HX at h⊢;split at h
 ·exact m _ _ h
 ·exact ai h m λ_ _ z=>z
def ane(bt:Nat->Nat->Bool)(vs:List Ye)(j:Nat):Option (Nat×Ye×Ye)->Prop
 |none=>j=0
 |some (i,x,_)=>i<j/\vs[i]?=Ya x/\acS bt j i
noncomputable def ap3:Option (Nat×Ye×Ye)->List (Nat×Ye)
 |none=>[]
 |some (i,_,k)=>[(i,k)]
variable{op:EA}{lp:String}{l I S:Yc}{vs:List Ye}{bt:Nat->Nat->Bool}{G:List (Nat×Ye)->Yl->Prop}{kw:List (Ym×Ye)}
theorem ait.put(M:ait prog w A key op l I S vs bt G){L:List (Nat×Ye)}{a b:Array Ye}{c m:Nat}(SI:S≠I)(g:G L s)(hS:s.heap.get? S=Ya (PL a c))(hI:s.heap.IsListIter I l m):
  G L (put S b s)/\(∃c,(put S b s).heap.get? S=Ya (PL b c))/\(put S b s).heap.IsListIter I l m:=
 ⟨M.calm S L s _ s.toks (.inr rfl) g λx o n e=>(bo _ _ (Ne.symm n)).trans e,⟨_,eW _ hS rfl⟩,hI.at λo e=>(bo _ _ SI).trans e⟩
theorem aef(T:Turn prog w op lp B)(he:oa wq lp=Ya B)(hp:BI lp=true)(hh:A.handled=Yb)(M:ait prog w A key op l I S vs bt G)(lI:l≠I)(SI:S≠I)
  (hD:vs=[]->∃n d r,kw=(n,d)::r/\∀s,G [] s->R (.ok (.ret d)) s) (hR:∀i v k s,vs[i]?=Ya v->acS bt vs.length i->G [(i,k)] s->R (.ok (.ret v)) s):
  ∀(r j:Nat) (b:Option (Nat×Ye×Ye)) (s:Yl) (c:Nat),vs.length=j+ r->ane bt vs j b->G (ap3 b) s->s.heap.get? S=Ya (PL (kept (b.map (·.2))) c)->s.heap.IsListIter I l j->
   c5 ?I A (.builtin lp ⟨[.ref I,key,.ref S],kw⟩) R s:=by
 have W:=uS (prog:=prog) (w:=w) (A:=A.in1) hh I l lI vs.toArray;intro r
 induction r with
 |zero=>
  intro j b s c ej so g hS hI;obtain rfl:j=vs.toArray.size:=by rw[Yx];omega
  refine enter he hp (T I S key kw _ c) ⟨hS,W.done _ _ _ ⟨hI,M.list _ _ g⟩ λh tk k=>?_⟩;have g1:=M.calm I _ _ h tk (.inl rfl) g λx o n e=>k x o (by simpa using n) e;refine⟨⟨c,k S _ (by simpa using SI) hS⟩,?_⟩;rcases b with _|⟨i,x,y⟩
  ·obtain⟨n,d,l,e,q⟩:=hD (df (by simpa using(show vs.toArray.size=0 from so)));exact⟨n,d,l,e,q _ g1⟩
  ·exact hR i x y _ so.2.1 (by simpa using so.2.2) (M.calm S _ _ _ tk (.inr rfl) g1 λz o n e=>(bo _ _ (Ne.symm n)).trans e)
 |succ r ih=>
  intro j b s c ej so g hS hI;refine enter he hp (T I S key kw _ c) ⟨hS,W.item j _ _ _ (by rw[Yx];omega) ⟨hI,M.list _ _ g⟩ λv h tk hv st k=>?_⟩;have hv:vs[j]?=Ya v:=by simpa using hv
  have g1:=M.calm I _ _ h tk (.inl rfl) g λx o n e=>k x o (by simpa using n) e;unfold UJ;refine HX.imp (M.keys _ _ j v _ _ _ g1 hv (k S _ (by simpa using SI) hS) st.1) λy s2 ⟨g2,h2,i2⟩=>⟨⟨c,h2⟩,?_⟩;have more:(∀i,i<j->bt j i=true)->c5 ?I A (.builtin lp ⟨[.ref I,key,.ref S],kw⟩) R (put S #[v,y] s2):=λup=>by
   obtain⟨g3,⟨c3,h3⟩,i3⟩:=M.put (b:=#[v,y]) SI g2 h2 i2;refine ih (j+ 1) (Ya (j,v,y)) _ c3 ?D ⟨jI _,hv,λi hi=>?_⟩ (M.head _ _ _ g3) h3 i3;rcases ze.mp hi with z|rfl
   ·exact⟨M.asy _ _ (up i z),λ_=>up i z⟩
   ·exact⟨M.irr _,λz=>absurd z (Y2 _)⟩
  rcases b with _|⟨i,x,z⟩
  ·exact more λi hi=>absurd (show j=0 from so) ?D
  ·obtain⟨hi,hx,ft⟩:=so;refine ai (M.cmp i j y z s2 g2) (λa s3 ⟨ea,es⟩=>⟨_,c,ea,es▸h2,?_⟩) λ_ _ z=>z;subst es;cases e:bt j i with
   |true=>exact more λi' hi'=>M.cov _ _ _ e (ft i' hi').1
   |false=>
    refine ih (j+ 1) (Ya (i,x,z)) _ c ?D ⟨by omega,hx,λi' hi'=>?_⟩ (M.tail _ _ _ _ g2) h2 i2;rcases ze.mp hi' with z|rfl
    ·exact ft i' z
    ·exact⟨e,λz=>absurd z ?D⟩
abbrev adY(prog:YI)(w:YV)(nm lp:String):Prop:=∀(A:Y7) (s:Yl) (Q E:Ye->Yl->Prop) (kws:List (Ym×Ye)) (ko d:Option Ye) (l:Yc) (its:Array Ye),
 pf nm ["key","default"] 0 ⟨[],kws⟩=pure [ko,d]->km nm ⟨[.ref l],kws⟩->s.heap.IsList l its->
 c5 ?I A (.builtin lp ⟨[.ref s.heap.objs.size,ko.getD .none,.ref ?U],d.toList.map λd=>("default",d)⟩) (IJ Q E)
  {s with heap:=(s.heap.push {cls:=.type "list_iterator",data:=.fields #[.ref l,.int 0 0]}).push (PL #[] 0)}->Yn ?I A (call (.builtin nm) [.ref l] kws) Q E s
theorem UL:adY prog w "min" "min.loop":=by
 intro A s Q E kws ko d l its hb ha hl h;refine kmb_tree F.kind_min F.plain_min F.entry_min ha ?_
 wp_walk using A0 hb,fy hl
 rw[fw];exact⟨eT F.plain_min_loop _,h⟩
theorem afv:adY prog w "max" "max.loop":=by
 intro A s Q E kws ko d l its hb ha hl h;refine kmb_tree F.kind_max F.plain_max F.entry_max ha ?_
 wp_walk using A0 hb,fy hl
 rw[fw];exact⟨eT F.plain_max_loop _,h⟩
theorem T5{nm:String}(O:adY prog w nm lp)(T:Turn prog w op lp B)(he:oa wq lp=Ya B)(hp:BI lp=true)(hh:A.handled=Yb)(hb:pf nm ["key","default"] 0 ⟨[],kws⟩=pure [ko,d])(ha:km nm ⟨[.ref l],kws⟩)(hl:s.heap.IsList l vs.toArray)(M:ait prog w A (ko.getD .none) op l s.heap.objs.size ?U vs bt G)(g:∀h,(∀b o,s.heap.get? b=Ya o->h.get? b=Ya o)->G [] {s with heap:=h})(hD:vs=[]->∃x,d=Ya x/\∀s,G [] s->Q x s)(hR:∀i v k s,vs[i]?=Ya v->acS bt vs.length i->G [(i,k)] s->Q v s):Yn ?I A (call (.builtin nm) [.ref l] kws) Q E s:=by
 obtain⟨o,ho,_⟩:=id hl;refine O A s Q E kws ko d l _ hb ha hl (aef T he hp hh M (YF (Yu ho)) (pS _) (λe=>?_) hR vs.length 0 Yb _ 0 (u3 _).symm rfl (g _ λb o e=>?_) ?_ ?_)
 ·obtain⟨x,rfl,q⟩:=hD e;exact⟨_,x,[],rfl,q⟩
 ·exact Yi _ (Yi _ e)
 ·exact ER (fw ..).symm rfl
 ·exact⟨_,Yi _ (Yq _ rfl),rfl,rfl⟩
abbrev Lg(h h':YT):Prop:=∀b o,h.get? b=Ya o->h'.get? b=Ya o
theorem RC{nm:String}(O:adY prog w nm lp)(T:Turn prog w op lp B)(he:oa wq lp=Ya B)(hp:BI lp=true)(hh:A.handled=Yb)(hb:pf nm ["key","default"] 0 ⟨[],kws⟩=pure [ko,d])(ha:km nm ⟨[.ref l],kws⟩)(hl:s.heap.IsList l vs.toArray)(bt:Nat->Nat->Bool)(irr:∀i,bt i i=false)(asy:∀i j,bt i j=true->bt j i=false)(cov:∀a b c,bt a b=true->bt c b=false->bt a c=true)(KK:Nat->Ye->Prop)(keys:∀j v h tk,vs[j]?=Ya v->Lg s.heap h->HX prog w A (ko.getD .none) v (λk s'=>KK j k/\∃tk,s'=?A9) ?A9)(cmp:∀i j k k' h tk,KK j k->KK i k'->Lg s.heap h->∀Q:Ye->Yl->Prop,Q (.bool (bt j i)) ?A9->Yn ?I A.in1 (we op k k') Q ?CR ?A9)(hD:vs=[]->∃x,d=Ya x/\∀h tk,Lg s.heap h->Q x ?A9)(hR:∀i v h tk,vs[i]?=Ya v->acS bt vs.length i->Lg s.heap h->Q v ?A9):
  Yn ?I A (call (.builtin nm) [.ref l] kws) Q E s:=by
 refine T5 (bt:=bt) (G:=λL s'=>(∃h tk,s'=?A9/\Lg s.heap h)/\∀p∈L,KK p.1 p.2) O T he hp hh hb ha hl ⟨irr,asy,cov,?_,?_,?_,?_,?_,?_⟩ (λh k=>⟨⟨h,s.toks,rfl,k⟩,by simp⟩) (λe=>?_) ?_
 ·exact λp q L s g=>⟨g.1,λq hq=>g.2 q (Yh _ hq)⟩
 ·exact λp L s g=>⟨g.1,λq hq=>g.2 q (YU.mp hq▸Yf)⟩
 ·rintro x L s' h tk hx ⟨⟨h',tk',rfl,G⟩,q⟩ k;refine⟨⟨h,tk,rfl,λb o e=>k b o ?_ (G b o e)⟩,q⟩;have:=Yu e;rcases hx with rfl|rfl
  ·exact YF this
  ·exact YF (kP this)
 ·rintro L s' ⟨⟨h',tk',rfl,G⟩,q⟩;exact hl.at λo e=>G _ _ e
 ·rintro L s' j v a c m ⟨⟨h,tk,rfl,G⟩,q⟩ hv hS hI;refine(keys j v h tk hv G).imp ?_;rintro k s' ⟨hk,tk',rfl⟩;refine⟨⟨⟨h,tk',rfl,G⟩,λp hp=>?_⟩,hS,hI⟩;rcases Yz.mp hp with rfl|hp
  ·exact hk
  ·exact q p hp
 ·rintro i j k k' s' ⟨⟨h,tk,rfl,G⟩,q⟩;exact cmp i j k k' h tk (q (j,k) ?N) (q (i,k') ?N) G _ ⟨rfl,rfl⟩
 ·obtain⟨x,hx,q⟩:=hD e;exact⟨x,hx,λs' ⟨⟨h,tk,e,G⟩,_⟩=>e▸q h tk G⟩
 ·exact λi v k s' hv ft ⟨⟨h,tk,e,G⟩,_⟩=>e▸hR i v h tk hv ft G
end
end GX
namespace GX
open PySem
end GX
namespace GB
variable{n b h:Nat}
theorem adw(n h:Nat):(n &&& 2^h=0)↔n.testBit h=false:=by
 constructor
 ·intro e;have q:(n &&& 2^h).testBit h=false:=by rw[e];exact de h
  rw[i7,Nat.testBit_two_pow_self,IB]at q;exact q
 ·intro e;apply kT;intro i;rw[i7,de,qq];by_cases hi:h=i
  ·subst hi;rw[e];rfl
  ·rw[decide_eq_false hi,rq]
noncomputable def W3(n:Nat):List Nat:=(cq 63).filter λh=>n.testBit h
theorem ag8(hn:n<2^b)(hb:b<=h):n.testBit h=false:=
 og (YM hn (kU ?B hb))
theorem WF{p:Nat->Bool}{c:Nat}(hb:b<=c)(hp:∀h,b<=h->p h=false):(cq c).filter p=(cq b).filter p:=by
 induction c with
 |zero=>
  have:b=0:=by omega
  subst this;rfl
 |succ c ih=>
  by_cases e:b=c+ 1
  ·subst e;rfl
  ·rw[qB,nV,ih ?D];have:[c].filter p=[]:=by
    rw[zh,hp c ?D];rfl
   rw[this,dA]
theorem aiL(hb:b<=63)(hn:n<2^b):(cq b).filter (λh=>n.testBit h)=W3 n:=
 (WF hb λ_ hh=>ag8 hn hh).symm
theorem J0:h∈W3 n↔h<63/\n.testBit h=true:=by
 unfold W3;rw[Y9,fv]
theorem ahV(n:Nat):(W3 n).length<=63:=by
 have:=tJ (λh=>n.testBit h) (cq 63);rw[cK]at this;exact this
theorem wX(n:Nat):(W3 n).Pairwise (·<·):=u4 _ ka
noncomputable def hl(n:Int):List Int:=(W3 n.toNat).map (fun(h:Nat)=>(h:Int))
theorem Vf(n:Int):(hl n).length<=63:=by
 unfold hl;rw[Yk];exact ahV _
theorem VR{n:Int}:(h:Int)∈hl n↔h<63/\n.toNat.testBit h=true:=by
 unfold hl;rw[YD];constructor
 ·rintro⟨a,ha,e⟩;have:a=h:=by omega
  subst this;exact J0.mp ha
 ·intro q;exact⟨h,J0.mpr q,rfl⟩
theorem af1{n:Int}{a:Int}{r:List Int}(e:hl n=a::r):∀x∈hl n,a<=x:=by
 have s:(hl n).Pairwise (·<·):=by
  unfold hl;rw[hJ];exact(wX _).imp λh=>by omega
 rw[e]at s⊢;intro x hx;rcases Yz.mp hx with rfl|hx
 ·exact qk _
 ·have:=(xb.mp s).1 x hx;omega
end GB
namespace GB
noncomputable def abA(l:List Nat):Nat:=l.foldl (λa h=>a ||| 2^h) 0
theorem aaU(h:Nat):∀(l:List Nat) (a:Nat),(l.foldl (λa h=>a ||| 2^h) a).testBit h=(a.testBit h||decide (h∈l))
 |[],a=>by simp
 |x::l,a=>by
  rw[hW,aaU h l,mi,qq,IC];congr 1;rw[dS];simp only[AN,decide_eq_true_iff,Yz];constructor
  ·rintro(e|e)
   ·exact .inl e.symm
   ·exact .inr e
  ·rintro(e|e)
   ·exact .inl e.symm
   ·exact .inr e
theorem X4(l:List Nat)(h:Nat):(abA l).testBit h=decide (h∈l):=by
 unfold abA;rw[aaU,de,gy]
theorem ajc{l:List Nat}{b:Nat}(h:∀x∈l,x<b):abA l<2^b:=by
 apply yn;intro i hi;rw[X4];exact decide_eq_false λz=>by have:=h i z;omega
end GB
namespace L2
open PySem PySem.Spec PyProof.Rows
variable{X:Cx}{H:Hp}{h:YT}{C D:Yc}{elt tg iter e:YZ}{ifs es:List YZ}{sc:jS}{pos p:iL}{g:TG}{tt:TT}{te:TE}{σ:St}{Qe:Hp->Prop}{wi:TI}{x:Ym}{kws:List EB}{t:TA}
noncomputable def anY(N:List Ym)(sc:jS)(x:Ym):Option Nat->Bool
 |none=>true
 |some j=>decide (N[j]?=Ya x)&&decide (sc.names.lookup x=Ya .free)
def agi(N N':List Ym)(src:List (Option Nat))(esc sc:jS):Prop:=
 (∀y∈sc.names,y.2≠.cell)/\(∀y∈sc.names,y.2=.local->sc.names.lookup y.1=Ya .local)/\
 (∀y∈sc.names,y.2=.free->esc.names.lookup y.1=Ya .cell\/esc.names.lookup y.1=Ya .free)/\
 N'.Nodup/\src.length=N'.length/\∀p∈N'.zip src,anY N sc p.1 p.2=true
noncomputable instance (N N':List Ym) (src:List (Option Nat)) (esc sc:jS):Decidable (agi N N' src esc sc):=by unfold agi;infer_instance
noncomputable def aaG(src:List (Option Nat))(σ:St):St:=src.map λo=>o.bind λj=>(σ[j]?).bind λv=>v
noncomputable def Cx.blk(X:Cx)(N':List Ym)(sc:jS)(cl:List ?GG)(C:Yc)(s2:Yl)(H2:Hp)(fp:List Yc):Cx:=
 {X with N:=N',s₀:=s2,H₀:=H2,env:=compEnvC sc cl C X.env,outer:=X.stack,ex:=fp,fn:=λ_=>false,pn:=[],xe:=λ_ _=>False}
def PIf(X:Cx)(ifs:List YZ)(t:TT):Prop:=
 ∀(pins:List ?AQ) (s:Yl) (σ:St) (H:Hp) (Q:Bool->Hp->Prop),bH X pins σ H s->t σ H Q->
  Yn ?M X.A (forIn ifs true λc r=>if r=true then do let ok<-DC c X.env (ay c X.env);pure (uu ok)else pure (uu r)) (TP X pins σ Q) X.xe s
def aje:TT:=λ_ H Q=>Q true H
theorem c7:PIf X [] aje:=λ_ _ _ H _ I h=>wpAny_tests_nil ⟨H,I,h⟩
theorem qM{c:YZ}{t:TT}(h:PT X c t):PIf X [c] t:=λpins s σ H Q I hw=>wpAny_tests_one (h pins s σ H Q I hw)
theorem Un.but{fs ex:List Yc}{H':Hp}{h1 h2:YT}(u:Un fs ex H H' h h1)(sb:fm C h1 h2)(hC:h.get? C=Yb):Un fs ex H H' h h2:=
 have ne:∀b o,h.get? b=Ya o->b≠C:=λb o e z=>by rw[z,hC]at e;cases e
 ⟨λb o e n hb hx=>(sb.2 b (ne b o e)).trans (u.keep b o e n hb hx),λb o e n hb hx=>let ⟨sl,z⟩:=u.slot b o e n hb hx;⟨sl,(sb.2 b (ne b o e)).trans z⟩,u.free,
  λb o e hx=>let ⟨o',z⟩:=u.there b o e hx;⟨o',(sb.2 b (ne b o e)).trans z⟩,u.tups,u.frzs,u.tbls⟩
theorem xP.but{P:YI}{w:YV}{h':YT}(x:xP P w H h)(sb:fm C h h')(hC:H C=Yb):xP P w H h':=λb ob e=>by
 refine(x b ob e).stay (λc v hc q=>(sb.2 c ?_).trans q) (λ_ q=>q) λ_ _ q=>q;rintro rfl;rcases hc with rfl|hc
 ·rw[hC]at e;cases e
 ·rw[hC]at hc;cases hc
def pL(g:TG)(tt:TT)(te:TE)(D:Yc)(N:St->Hp->Prop)(x:V)(σ:St)(H:Hp):Prop:=
 g x σ H λσ2 H2=>tt σ2 H2 λb H3=>if b=true then te σ2 H3 λy H4=>∃ys,H4 D=Ya (.lst ys)/\ys.length<YB/\N σ2 (upd H4 D (.lst (ys++[y])))else N σ2 H3
def agj(src:List (Option Nat))(wi:TI)(g:TG)(tt:TT)(te:TE):TE:=λσ H Q=>wi σ H λJ H1=>∀D,H1 D=Yb->∃W:Nat->Nat->St->Hp->Prop,(∃m,W 0 m (aaG src σ) (upd H1 D (.lst [])))/\
 ∀i m σ' H',W i m σ' H'->(J.stop i H'/\Q (.ref D) H')\/(J.go i H'/\∃N:St->Hp->Prop,?V/\
  ∀x H'',J.yld i H' x H''->pL g tt te D N x σ' H'')
theorem Us{N':List Ym}{src:List (Option Nat)}{cl:List ?GG}{pins:List ?AQ}{H2:Hp}{s2:Yl}{it:Yc}{fp:List Yc}{tn:Nat->YT->Prop}{J:It}{W:Nat->Nat->St->Hp->Prop}{m0:Nat}{RR:Ye->Yc->pV->Yl->Prop}(hc:X.calm=true)(hk:sc.kind=.function)(hB:agi X.N N' src X.env.scope sc)(hsub:∀x c,cl.lookup x=Ya c->X.env.cells.lookup x=Ya c)(hhas:∀n,(n,c8)∈sc.names->∃c,cl.lookup n=Ya c)(hg:∀cl C s2 H2 fp,N'.Nodup->PG ?BB tg g)(ht:∀cl C s2 H2 fp,PIf ?BB ifs tt)(he:∀cl C s2 H2 fp,PE ?BB elt te)(I2:bH X pins σ H2 s2)(T:Turn X.prog X.w X.K tg J fp it tn)(st2:tn 0 s2.heap)(f2:∀b∈fp,JD X pins H2 b)(w0:W 0 m0 (aaG src σ) (upd H2 s2.heap.objs.size (.lst [])))(turn:∀i m σ' H',W i m σ' H'->(J.stop i H'/\Qe H')\/(J.go i H'/\∃N:St->Hp->Prop,?V/\
   ∀x H'',J.yld i H' x H''->pL g tt te s2.heap.objs.size N x σ' H'')) (fin:∀C s4 σ3 H3,s2.heap.objs.size<=C->bH ?BB [] σ3 H3 s4->Qe H3->RR (.ref s2.heap.objs.size) C (.ok .next) s4):
  Yn ?M X.A (EC []) (λacc s₃=>Yn ?M X.A (newFunctionEnv sc X.env.globals cl [] X.env.qual Yb .none (Ya X.env)) (λcenv s₄=>
   c5 ?M X.A (.compStart (.ListComp elt ?GI sc pos) 0 (.ref it) acc {cenv with scope:=relabel sc X.env}) (RR acc cenv.locals) s₄) X.xe s₃) X.xe s2:=by
 obtain⟨b1,b2,b3,b4,b5,b6⟩:=hB;refine eL (CB b1 (by intro y hy;simp at hy) (λh₁ ns₁ sb₁=>?_) hk);dsimp only at ns₁ sb₁⊢;generalize hP:s2.heap.push {cls:=.type "list",dict:=Yb,data:=.seq ([]:List Ye).toArray}=Hl at ns₁ sb₁⊢;have hC:Hl.objs.size=s2.heap.objs.size+ 1:=by rw[<-hP,fw]
 have nDC:s2.heap.objs.size≠Hl.objs.size:=by rw[hC];exact YF (jI _)
 have below:∀{b:Yc} {o:Y6},s2.heap.get? b=Ya o->b≠Hl.objs.size:=fun{b o} z=>by
  have:=Yu z;rw[hC];exact YF (kP this)
 have old:∀b o,s2.heap.get? b=Ya o->h₁.get? b=Ya o:=λb o z=>sb₁.extBut b o (below z) (Yi _ (hP▸Yi _ z));have hD1:h₁.get? s2.heap.objs.size=Ya {cls:=.type "list",data:=.seq ([]:List Ye).toArray}:=sb₁.extBut _ _ nDC (Yi _ (hP▸Yq _ rfl));have fD:H2 s2.heap.objs.size=none:=I2.hok.fresh ?BU;have fC:H2 Hl.objs.size=none:=I2.hok.fresh (by rw[hC];exact gx _);have ok:(X.blk N' sc cl Hl.objs.size s2 H2 fp).Ok:=by
  refine⟨I2.ok.mod,hk,I2.ok.glob,I2.ok.blt,?_,λx y c h1 h2=>I2.ok.inj x y c (hsub x c h1) (hsub y c h2),λx hx=>?_,λx c z=>?_,I2.ok.hd,I2.ok.frames,.inl rfl,λb hb=>⟨?_,λx c z=>(f2 b hb).2.2.2.2.1 x c (hsub x c z)⟩,
   I2.bs,bP I2.ok.bsz I2.sz,λb o z hb=>?_,λb hb z=>?_,I2.stack,I2.stkFree⟩
  ·show s2.heap.objs.size<=Hl.objs.size;rw[hC];exact gx _
  ·have hx':(sc.names.map fun(n,k)=>if(k==c8&&X.env.scope.kind==.function&&X.env.kindOf n==Ya .cell)then(n,iA)else(n,k)).lookup x=Ya .cell\/
     (sc.names.map fun(n,k)=>if(k==c8&&X.env.scope.kind==.function&&X.env.kindOf n==Ya .cell)then(n,iA)else(n,k)).lookup x=Ya .free:=hx
   rw[GX.Ds]at hx';cases e:sc.names.lookup x with
   |none=>
    rw[e]at hx';simp at hx'
   |some k=>
    rw[e]at hx';by_cases hf:k=.free
    ·subst hf;exact hhas x (c6 e)
    ·have hb:(k==c8)=false:=by simpa using hf
     have e2:((Ya k).map λk=>if(k==c8&&X.env.scope.kind==.function&&X.env.kindOf x==Ya .cell)then iA else k)=Ya k:=by
      show Ya (if(k==c8&&X.env.scope.kind==.function&&X.env.kindOf x==Ya .cell)=true then iA else k)=Ya k;rw[hb,om,om];rfl
     rw[e2]at hx';rcases hx' with z|z
     ·exact absurd (YK z) (b1 _ (c6 e))
     ·exact absurd (YK z) hf
  ·cases z
  ·obtain⟨o,z,_⟩:=T.obj 0 _ st2 b hb;exact below z
  ·rcases(f2 b hb).2.2.2.1 with f3|f3
   ·exact I2.ok.noex b o z f3
   ·have l1:=Yu z;have l2:=I2.ok.bsz;exact absurd (YM l1 (bP l2 f3)) (Y2 _)
  ·rcases Yz.mp (I2.stkSub b z)with z|z
   ·exact(f2 b hb).2.1 z
   ·exact(f2 b hb).2.2.1 z
 have IY:bH ?BC [] (aaG src σ) (upd H2 s2.heap.objs.size (.lst [])) {s2 with heap:=h₁,toks:=s2.toks+ ([]:List (Ym×Ye)).length}:=by
  refine⟨ok,rfl,I2.bare,Un.laid old ?BU fD,⟨_,ns₁,λi x v e1 e2 _=>?_⟩,λx c z=>?_,?_,λx c z=>?_,λp hp=>?_,I2.hok.laid old ?BU ⟨YX _,[],0,.nil,hD1⟩,?_⟩
  ·have e1':N'[i]?=Ya x:=e1;unfold aaG at e2;rw[Yw]at e2;cases es:src[i]? with
   |none=>rw[es]at e2;cases e2
   |some o=>
    rw[es]at e2;cases o with
    |none=>cases e2
    |some j=>
     have e3:(σ[j]?).bind (λv=>v)=Ya v:=YK e2;have e4:σ[j]?=Ya (Ya v):=by
      cases q:σ[j]? with
      |none=>rw[q]at e3;cases e3
      |some w=>rw[q]at e3;exact congrArg Ya e3
     have hz:(x,Ya j)∈N'.zip src:=YW (i:=i) (by rw[kX];exact⟨e1',es⟩);have hcap:=b6 _ hz;have hcap':(decide (X.N[j]?=Ya x)&&decide (sc.names.lookup x=Ya .free))=true:=hcap;rw[aw]at hcap';have c1:X.N[j]?=Ya x:=of_decide_eq_true hcap'.1;have c2:sc.names.lookup x=Ya .free:=of_decide_eq_true hcap'.2;have hfree:=c6 c2;have vis:=b3 _ hfree rfl;obtain⟨m,hn,hl⟩:=I2.loc;obtain⟨u,ru,lk⟩:=hl j x v c1 e4 (.inr vis);rcases lk with⟨k1,_⟩|⟨_,c,k2,z⟩
     ·have k1':X.env.scope.names.lookup x=Ya .local:=k1;rcases vis with v|v<;>(rw[k1']at v;cases v)
     ·obtain⟨c',k3⟩:=hhas x hfree;have k4:=hsub x c' k3;rw[k2]at k4;cases k4;refine⟨u,ru,.inr ⟨?_,c,k3,z.keeps old⟩⟩;show(sc.names.map fun(n,k)=>if(k==c8&&X.env.scope.kind==.function&&X.env.kindOf n==Ya .cell)then(n,iA)else(n,k)).lookup x=Ya .cell\/
       (sc.names.map fun(n,k)=>if(k==c8&&X.env.scope.kind==.function&&X.env.kindOf n==Ya .cell)then(n,iA)else(n,k)).lookup x=Ya .free
      rw[GX.Ds,c2];show Ya (if _ then iA else c8)=_\/Ya (if _ then iA else c8)=_;split
      ·exact .inl rfl
      ·exact .inr rfl
  ·obtain⟨v,q⟩:=I2.cell x c (hsub x c z);exact⟨v,q.keeps old⟩
  ·show upd H2 s2.heap.objs.size (.lst []) Hl.objs.size=Yb;rw[aQ (Ne.symm nDC)];exact fC
  ·obtain⟨v,q⟩:=I2.cell x c (hsub x c z);rw[aQ (YF q.lt)];exact I2.freeC x c (hsub x c z)
  ·exact absurd ?GX ?N
  ·show(src.map _).length=N'.length;rw[Yk];exact b5
 have stat:∀{H':Hp},(∀b∈fp,H' b=Yb)->∀b∈fp,JD ?BC [] H' b:=λhn b hb=>
  ⟨hn b hb,(ok.exf b hb).1,ok.exfs b hb,.inl hb,(ok.exf b hb).2,λp hp=>absurd ?GX ?N⟩
 have loop:c5 ?M X.A (.compLoop (.ListComp elt ?GI sc pos) 0 (.ref it) (.ref s2.heap.objs.size) (compEnvC sc cl Hl.objs.size X.env))
   (RR (.ref s2.heap.objs.size) Hl.objs.size) {s2 with heap:=h₁,toks:=s2.toks+ ([]:List (Ym×Ye)).length}:=by
  refine GX.Xd (λn s'=>∃i σ' H',bH ?BC [] σ' H' s'/\tn i s'.heap/\(∀b∈fp,H' b=Yb)/\W i n σ' H') ?_ m0
   ⟨0,_,_,IY,T.keep 0 _ _ st2 (λb _ o z=>old b o z),λb hb=>?_,w0⟩
  ·rintro n s3 ⟨i,σ3,H3,I3,st3,fr3,w3⟩;rcases turn i n σ3 H3 w3 with⟨stop,qn⟩|⟨go,N,hN,step⟩
   ·refine Yg (eZ (T.done ?BC rfl rfl rfl hc i [] s3 σ3 H3 ?CR I3 (stat fr3) st3 stop) λr s4 zz=>?_);obtain⟨hr,I4⟩:=zz;subst hr;exact Yp<|fin _ s4 σ3 H3 (by rw[hC];exact gx _) I4 qn
   ·refine Yg (eZ (T.item ?BC rfl rfl rfl hc i [] s3 σ3 H3 ?CR I3 (stat fr3) st3 go) λr s4 zz=>?_);obtain⟨u,hr,h4⟩:=zz;subst hr;refine Yg (eZ h4 λ_ s5 zz=>?_);obtain⟨x,H5,I5,r5,y5,st5,fr5⟩:=zz;have I5':=I5.pinned (stat fr5) (T.obj _ _ st5);have again:∀{σ7:St} {H7:Hp} {s7:Yl},bH ?BC ([]++Mz fp s5.heap) σ7 H7 s7->N σ7 H7->
      ∃m,m<n/\∃i σ' H',bH ?BC [] σ' H' s7/\tn i s7.heap/\(∀b∈fp,H' b=Yb)/\W i m σ' H':=fun{σ7 H7 s7} I7 n7=>by
     obtain⟨m',hm,w7⟩:=hN σ7 H7 n7;refine⟨m',hm,i+ 1,σ7,H7,I7.unpinned,T.keep _ _ _ st5 λb hb o z=>(I7.pin (b,o) (Y1 _ (Y1 _ (qg hb z)))).1,λb hb=>?_,w7⟩;obtain⟨o,z,_⟩:=T.obj _ _ st5 b hb;exact(I7.pin (b,o) (Y1 _ (Y1 _ (qg hb z)))).2.1
    refine Yg (eZ (hg cl Hl.objs.size s2 H2 fp b4 _ s5 σ3 H5 x u _ I5' r5 (step x H5 y5)) λ_ s6 zz=>?_);obtain⟨σ6,H6,I6,q6⟩:=zz;refine Yg (eZ (ht cl Hl.objs.size s2 H2 fp _ s6 σ6 H6 _ I6 q6) λok s7 zz=>?_);obtain⟨H7,I7,q7⟩:=zz;cases ok with
    |true=>
     rw[if_pos rfl]at q7⊢;refine Yg (eZ (he cl Hl.objs.size s2 H2 fp _ s7 σ6 H7 _ I7 q7) λyv s8 zz=>?_);obtain⟨y,H8,I8,r8,ys,hD,hz,n8⟩:=zz;exact Yg<|eZ (Lq (X:=X.blk N' sc cl Hl.objs.size s2 H2 fp) _ s8 σ6 H8 (.ref s2.heap.objs.size) [y] (.ref s2.heap.objs.size) [yv] (λ_ H'=>N σ6 H') I8 rfl (.cons r8 .nil) ⟨_,ys,y,rfl,rfl,hD,hz,n8⟩)
      λ_ s9 ⟨_,H9,I9,_,n9⟩=>Yp (again I9 n9)
    |false=>
     rw[if_neg YN]at q7⊢;exact Yp (again I7 q7)
  ·obtain⟨o,z,_⟩:=T.obj 0 _ st2 b hb;rw[aQ (YF (Yu z))];exact(f2 b hb).1
 exact codeAny_compStart_list loop (T.self X.A 0 _ _ _ (T.keep 0 _ _ st2 (λb _ o z=>old b o z)) loop)
theorem cP(N':List Ym)(src:List (Option Nat))(hc:X.calm=true)(hk:sc.kind=.function)(hB:decide (agi X.N N' src X.env.scope sc)=true)(hi:PI X tg iter wi)(hg:∀cl C s2 H2 fp,N'.Nodup->PG ?BB tg g)(ht:∀cl C s2 H2 fp,PIf ?BB ifs tt)(he:∀cl C s2 H2 fp,PE ?BB elt te)(hs:∀x,xB iter X.env x=pure x:=by intro _;rfl):
  PE X (.ListComp elt ?GI sc pos) (agj src wi g tt te):=by
 intro pins s σ H Q I h;have B:=of_decide_eq_true hB;obtain⟨cl,hclos,hsub,hhas⟩:=GX.Rb (env:=X.env) (sc:=sc) λy hy hf=>I.ok.has y.1 (B.2.2.1 y hy hf);rw[eval_ListComp];refine zi (use:=Yb) rfl hs hclos hk B.2.1 (eZ (hi pins s σ H _ I h) λv s1 h1=>eZ h1 λitv s2 h2=>?_);obtain⟨it,fp,tn,J,H2,e,I2,T,st2,f2,q⟩:=h2;subst e;obtain⟨W,⟨m0,w0⟩,turn⟩:=q s2.heap.objs.size (I2.hok.fresh ?BU);refine Us (RR:=λacc C=>compPost ?M X.A X.xe Yb ?BT acc C) (Qe:=λH'=>Q (.ref s2.heap.objs.size) H') hc hk B hsub hhas hg ht he I2 T st2 f2 w0 turn λC s4 σ3 H3 hC I4 qn=>?_;obtain⟨m,hn,_⟩:=I4.loc;refine⟨m,hn,λh' sb=>⟨.ref s2.heap.objs.size,H3,?_,rfl,qn⟩⟩;exact I2.call' (s':={s4 with heap:=h'}) (ch:=fp) I4.os (I4.base.but sb (B0 hC)) (I4.hok.but sb I4.free) I4.bare λb hb=>⟨(f2 b hb).2.2.2.1,(f2 b hb).2.1,(f2 b hb).2.2.2.2.1,(f2 b hb).2.2.2.2.2⟩
theorem Gh{py spos:iL}{y:Ym}{i:Nat}(N':List Ym)(src:List (Option Nat))(hN:X.N.Nodup)(hy:X.N[i]?=Ya y)(hl:Loc X.env.scope y)(hc:X.calm=true)(hk:sc.kind=.function)(hB:decide (agi X.N N' src X.env.scope sc)=true)(hi:PI X tg iter wi)(hg:∀cl C s2 H2 fp,N'.Nodup->PG ?BB tg g)(ht:∀cl C s2 H2 fp,PIf ?BB ifs tt)(he:∀cl C s2 H2 fp,PE ?BB elt te)(hsw:w8 (.ListComp elt ?GI sc pos) (Ya (.Name y py)) spos.line X.env=pure true:=by rfl)(hs:∀x,xB iter X.env x=pure x:=by intro _;rfl)(hf:X.fn y=true\/X.env.scope.names.lookup y=Ya .local:=by first|exact .inl rfl|exact .inr rfl):
  PS X (.Assign [.Name y py] (.ListComp elt ?GI sc pos) spos) (ahB (agj src wi g tt te) (Ur i)):=by
 intro pins s σ H D I h;have B:=of_decide_eq_true hB;obtain⟨cl,hclos,hsub,hhas⟩:=GX.Rb (env:=X.env) (sc:=sc) λy hy hf=>I.ok.has y.1 (B.2.2.1 y hy hf);rw[exec_Assign_Name_used _ _ _ _ hsw];refine Yg (xi (Yg ?_));show Yn _ X.A (do let _<-comprehension (.ListComp elt ?GI sc pos) sc X.env _ (EC []) false (ay iter X.env) (Ya (y3 (.Name y py) X.env))) _ _ s;refine Yg (ai (zi (use:=Ya (y3 (.Name y py) X.env)) (Q:=λ_ s'=>SP X pins D .next s') rfl hs hclos hk B.2.1
  (eZ (hi pins s σ H _ I h) λv s1 h1=>eZ h1 λitv s2 h2=>?_)) (λ_ s' hq=>Yp (Yp hq)) λ_ _ e=>e)
 obtain⟨it,fp,tn,J,H2,e,I2,T,st2,f2,q⟩:=h2;subst e;obtain⟨W,⟨m0,w0⟩,turn⟩:=q s2.heap.objs.size (I2.hok.fresh ?BU);refine Us (RR:=λacc C=>compPost ?M X.A X.xe (Ya (y3 (.Name y py) X.env)) (λ_ s'=>SP X pins D .next s') acc C) (Qe:=λH'=>D.nx (σ.set i (Ya (.ref s2.heap.objs.size))) H') hc hk B hsub hhas hg ht he I2 T st2 f2 w0 turn
  λC s4 σ3 H3 hC I4 qn=>?_
 have IX:bH X pins σ H3 s4:=I2.call' (ch:=fp) I4.os I4.base I4.hok I4.bare λb hb=>⟨(f2 b hb).2.2.2.1,(f2 b hb).2.1,(f2 b hb).2.2.2.2.1,(f2 b hb).2.2.2.2.2⟩;have nC:∀{b:Yc} {o:Y6},s2.heap.get? b=Ya o->C≠b:=fun{b o} z=>kf (YM (Yu z) hC);have nL:C≠X.env.locals:=kf (YM I2.lt hC);have nK:∀x c,X.env.cells.lookup x=Ya c->c≠C:=λx c z=>by
  obtain⟨v,o,ho,_⟩:=I2.cell x c z;exact Ne.symm (nC ho)
 obtain⟨m,hn,_⟩:=I4.loc;show Yn _ X.A (y3 (.Name y py) X.env (.ref s2.heap.objs.size)) _ _ s4;refine EG (Uz IX hN hy hl (v:=.ref s2.heap.objs.size) rfl (λs5 I5 h5=>?_) hf);obtain⟨a,sb,ha⟩:=h5;have na:C≠a:=by
  rcases ha with z|z
  ·rw[z];exact nL
  ·exact Ne.symm (nK _ _ z)
 refine⟨m,hn.sameBut sb na,λh' sb'=>⟨_,H3,?_,qn⟩⟩;exact I5.turned (it:=C) (t':=s5.toks) (λb o hb z=>(sb'.2 b hb).trans z) I4.free nL (.inr (bP I2.sz hC)) nK λp hp=>Ne.symm (nC (I2.pin p hp).1)
theorem Iz{lo:Int}{n:Nat}(Pv:Nat->St->Hp->Prop)(h0:Pv 0 σ H)(hs:∀i σ H,i<n->Pv i σ H->pL g tt te D (Pv ?DP) (.int (lo+ i)) σ H)(hd:∀σ H,Pv n σ H->Qe H):
  ∃W:Nat->Nat->St->Hp->Prop,?ES/\∀i m σ' H',W i m σ' H'->((Itr lo n).stop i H'/\Qe H')\/((Itr lo n).go i H'/\∃N:St->Hp->Prop,?V/\
   ∀x H'',(Itr lo n).yld i H' x H''->pL g tt te D N x σ' H''):=by
 refine⟨λi m σ H=>m=n-i/\i<=n/\Pv i σ H,⟨n,by simp,YX _,h0⟩,?_⟩;rintro i m σ H ⟨rfl,hi,p⟩;by_cases hlt:i<n
 ·refine .inr ⟨hlt,Pv ?DP,λσ' H' p'=>⟨n-(i+ 1),by omega,rfl,hlt,p'⟩,λx H' y=>?_⟩;obtain⟨e,y⟩:=y;subst e y;exact hs i σ _ hlt p
 ·have e:i=n:=by omega
  subst e;exact .inl ⟨Yo _,hd σ H p⟩
theorem cO{K:Yd}{a:Yc}{xs:List V}(Pv:Nat->St->Hp->Prop)(h0:Pv 0 σ H)(hl:∀i σ H,i<=xs.length->Pv i σ H->bK K H a xs)(hs:∀i x σ H,xs[i]?=Ya x->Pv i σ H->pL g tt te D (Pv ?DP) x σ H)(hd:∀σ H,Pv xs.length σ H->Qe H):
  ∃W:Nat->Nat->St->Hp->Prop,?ES/\∀i m σ' H',W i m σ' H'->((Itl K a).stop i H'/\Qe H')\/((Itl K a).go i H'/\∃N:St->Hp->Prop,?V/\
   ∀x H'',(Itl K a).yld i H' x H''->pL g tt te D N x σ' H''):=by
 refine⟨λi m σ H=>m=xs.length-i/\i<=xs.length/\Pv i σ H,⟨xs.length,by simp,YX _,h0⟩,?_⟩;rintro i m σ H ⟨rfl,hi,p⟩;have q:=hl i σ H hi p;by_cases hlt:i<xs.length
 ·refine .inr ⟨⟨xs,xs[i],q,by simp[hlt]⟩,Pv ?DP,λσ' H' p'=>⟨xs.length-(i+ 1),by omega,rfl,hlt,p'⟩,λx H' y=>?_⟩;obtain⟨e,y⟩:=y;subst e;exact hs i x σ _ (y xs q) p
 ·have e:i=xs.length:=by omega
  subst e;exact .inl ⟨⟨xs,q,Yo _⟩,hd σ H p⟩
section
theorem XX:jQ X (.builtin "isinstance") (λxs H Q=>∃(x:V) (t:Ye) (T:String) (b:Bool),xs=[x,.ty T]/\Ko X.K H x t/\BE X.K t (.type T)=Ya b/\Q (.bl b) H):=by
 intro pins s σ H xs us Q I r h;obtain⟨x,t,T,b,rfl,ty,e,q⟩:=h;obtain⟨u,w',rfl,r1,r2⟩:=aaq r;obtain rfl:w'=j1 T:=r2;exact aeC I r1 ty e λtk=>⟨.bl b,H,I.tok tk,rfl,q⟩
theorem afk:MtR X "int.bit_length" (λx vs H Q=>∃i,x=.int i/\vs=[]/\Q (.int (eI i)) H):=by
 intro pins s σ H x xs v us Q I rx rv h;obtain⟨i,rfl,rfl,q⟩:=h;obtain⟨t,rfl⟩:=rx;cases rv;exact call_int_bit_length ⟨.int (eI i),H,I.tok _,⟨_,rfl⟩,q⟩
def ahp(X:Cx)(id:String)(ks:List Ym)(r:List V->List V->Hp->VK->Prop):Prop:=
 ∀(pins:List ?AQ) (s:Yl) (σ:St) (H:Hp) (xs zs:List V) (us ws:List Ye) (Q:VK),bH X pins σ H s->Vals xs us->Vals zs ws->r xs zs H Q->
  Yn ?M X.A (call (.builtin id) us (ks.zip ws)) ?BT X.xe s
def anU(r:List V->List V->Hp->VK->Prop)(t tk:TA):TE:=λσ H Q=>t σ H λvs H1=>tk σ H1 λzs H2=>r vs zs H2 Q
theorem aet{ks:List Ym}{tk:TA}{id:String}{r:List V->List V->Hp->VK->Prop}(hc:ahp X id ks r)(hg:Gl X x)(hm:X.mg x=Yb)(hv:i0 x=Ya (.builtin id))(ha:PA X (e::es) t)(hk:PK X kws tk)(hks:(kK pos (gm kws X.env)).filterMap (·.1)=ks:=by rfl)(hn:x≠"__name__":=by decide)(hdb:(x==("__debug__":Ym))=false:=by decide)(he:dk pos (YR (e::es) X.env)=?A8::dk pos ?CY:=by rfl)(hplain:(dk pos ?IX).any (·.1)=false:=by rfl)(hall:(kK pos (gm kws X.env)).all (·.1.isSome)=true:=by rfl)(hkw:(kK pos (gm kws X.env)).any (·.1.isNone)=false:=by rfl):PE X (.Call (.Name x p) (e::es) kws pos) (anU r t tk):=by
 intro pins s σ H Q I h;refine ff (Ar I hg hm hv ?_ hn hdb);refine pe (eZ ?DN λus s1 zz=>?_) he hplain hall hkw;obtain⟨vs,H1,I1,r1,q1⟩:=zz;refine eZ (hk pos pins s1 σ H1 _ I1 q1) λws s2 zz=>?_;obtain⟨zs,H2,I2,r2,q2⟩:=zz;rw[hks];exact hc pins s2 σ H2 vs zs us ws Q I2 r1 r2 q2
theorem Mv(a v:Ye):km "min" ⟨[a],[(YL "default",v)]⟩:=by unfold km;kernel_rfl
theorem aeI(hc:X.calm=true):ahp X "min" [YL "default"] (λxs zs H Q=>∃(p:Yc) (ns:List Int) (d:V),xs=?CD/\zs=[d]/\bK X.K H p ?A1/\(ns=[]->Q d H)/\∀b,b∈ns->(∀z∈ns,b<=z)->Q (.int b) H):=by
 intro pins s σ H xs zs us ws Q I r rz h;obtain⟨p,ns,d,rfl,rfl,hq,h0,h1⟩:=h;obtain⟨u,rfl,rx⟩:=lQ r;cases rx;obtain⟨dv,rfl,rd⟩:=lQ rz;obtain⟨its,rv,pl,hz⟩:=I.list hq;have hl:its.length=ns.length:=by rw[<-rv.length,Yk]
 have tell:∀(i:Nat) v,its[i]?=Ya v->∃n t,ns[i]?=Ya n/\v=.int n t:=λi v e=>by
  have b:i<ns.length:=hl▸(Ys.mp e).1;obtain⟨u,hu,t,rfl⟩:=rv.get (i:=i) (x:=V.int ns[i]) (by simp[b]);exact⟨ns[i],t,by simp[b],YK (e.symm.trans hu)⟩
 refine GX.RC GX.UL GX.abe Bi Bn (ko:=Yb) (d:=Ya dv) ?BK rfl (Mv _ _) pl.isList
  (λi j=>decide (ns.getD i 0<ns.getD j 0)) (λi=>by simp) (λi j h=>by simp at h⊢;omega) (λa b c h h2=>by simp at h h2⊢;omega) (λi v=>∃t,v=.int (ns.getD i 0) t) ?_ ?_ ?_ ?_
 ·intro j v h tk hv G;obtain⟨n,t,hn,rfl⟩:=tell j v hv;exact And.intro ⟨t,by rw[YO,hn];rfl⟩ ⟨tk,rfl⟩
 ·exact λi j k k' h tk hk hk' G Q q=>CmpOf.ints_lt (P:=λi v=>∃t,v=.int (ns.getD i 0) t) ?GJ (λ_ _ z=>z) j i _ _ _ _ _ hk hk' q
 ·exact λe=>⟨dv,rfl,λh tk G=>⟨d,H,I.kept (t':=tk) G,rd,h0 (df (by rw[<-hl,e];rfl))⟩⟩
 ·intro i v h tk hv ft G;obtain⟨n,t,hn,rfl⟩:=tell i v hv;refine⟨.int n,H,I.kept (t':=tk) G,⟨t,rfl⟩,h1 n (YW hn) λz hz=>?_⟩;obtain⟨j,hj,rfl⟩:=qr hz;have:=(ft j (hl▸hj)).1;simpa [YO,hn,hj]using this
end
structure iU(K:Yd)(mg:Ym->Option Ye)(x:Ym)(f:Yc)(fd:Yt)(ps:List Ym):Prop where
 mg:mg x=Ya (.ref f)
 kp:mf K (.ref f)=true
 bd:Binds K fd ps []
theorem bw{k:Nat}{f:Yc}{fd:Yt}{ps:List Ym}{sp:Sp}(F:aG X.prog X.w X.K X.mg X.base bJ k f fd ps sp)(c:iU X.K X.mg x f fd ps)(hr:gJ k X.A)(ha:PA X (e::es) t)(hg:Gl X x:=by rfl)(hdb:(x==("__debug__":Ym))=false:=by decide)(he:YR (e::es) X.env=?A8::YR es X.env:=by rfl)(hpl:(dk pos ?CY).any (·.1)=false:=by rfl):
  PE X (.Call (.Name x p) (e::es) [] pos) (ade sp [] E0 t):=ai6 F hr hg c.mg c.kp c.bd .nil fc ha hdb he hpl
theorem JM{T:String}(hm:X.mg x=Yb)(hv:i0 x=Ya (.type T))(hg:Gl X x:=by rfl)(hn:x≠"__name__":=by decide)(hdb:(x==("__debug__":Ym))=false:=by decide):PE X (.Name x pos) (tC (.ty T)):=
 aji hg hm hv rfl hn hdb
def aly(K:Yd)(t:TE):TT:=λσ H Q=>t σ H λx H'=>∃k,ah8 K x H' k/\Q k H'
theorem du(K:Yd){f:YZ}{t:TE}(hK:X.K=K)(h:PE X (.Call f es kws pos) t):PT X (.Call f es kws pos) (aly K t):=by
 subst hK;exact XN h λ_=>rfl
section
theorem afY{x y:Int}(hx:0<=x)(hy:0<=y):YQ x y=((x.toNat ||| y.toNat:Nat):Int):=by
 have nn:∀z:Int,YC (YC z)=z:=λz=>by unfold YC;omega
 have ng:∀z:Int,0<=z->¬ 0<=YC z:=λz hz=>by unfold YC;omega
 unfold YQ;rw[bitAnd_nn (ng x hx) (ng y hy),nn,nn,nn]
end
end L2
namespace GX
open PySem
variable{prog:YI}{w:YV}{A:Y7}{E Q:Ye->Yl->Prop}{s:Yl}{l:Yc}{n:Nat}{T:String}{R:pV->Yl->Prop}
theorem aeZ:Cs (.type "list") (YL "keys")=pure none:=am_miss_of_fast ?J
section
variable{items:Array Ye}{Q:Option Ye->Yl->Prop}
theorem agF{id:String}{nm:Ym}{B:bS}{x:Ye}{S:KI}(slot:IQ T nm id)(en:oa wq id=Ya B)(hT:s.TypeIs (.ref l) T)(ar:km id ⟨[.ref l,x],[]⟩)(m:pk (B ⟨[.ref l,x],[]⟩) S)(h:S A R s):
  c5 ?I A (.call (.builtin id) ⟨[.ref l,x],[]⟩) R s:=lj slot.plain en (slot.check _ _ _ _ _ _ _ _ hT ar (m prog w A R s h))
theorem ajr{id:String}{nm:Ym}{o:Y6}(slot:IQ T "__getattribute__" id)(ga:Cs (.type T) "__getattr__"=pure Yb)(en:oa wq id=Ya bS.«object.__getattribute__»)(ar:∀a b,km id ⟨[a,b],[]⟩)(hl:s.heap.get? l=Ya o)(hc:o.cls=.type T)(m:∀u,pk (bS.«object.__getattribute__» ⟨[.ref l,.str nm u],[]⟩) (λA R s=>s.heap.get? l=Ya o/\raisesAttr (.ref l) nm A R s))(hA:A.handled=Yb)(h:∀h' tk,Lg s.heap h'->Q Yb ?AG):Yn ?I A (Fs (.ref l) nm) Q E s:=by
 obtain⟨c,dd,dt,sl⟩:=o;cases hc;obtain⟨hp,g,d,tk,os⟩:=s;have hT:∀tk,cg ⟨hp,g,d,tk,os⟩ (.ref l) T:=λ_=>⟨_,hl,rfl⟩;have:=slot.lookup;have:=slot.bind (.ref l);have:=sub_AttributeError;unfold Fs getAttrBy? getAttrBy
 repeat' first|assumption|exact hT _|wp_step
 refine agF slot en (hT _) (ar _ _) (m _) ⟨hl,hA,λh' tk' e x=>?_⟩;obtain⟨t',u',_⟩:=x.there;have q:=h h' tk' x.keeps;unfold getattributeRaised
 repeat' first|assumption|wp_step
theorem adA(hA:A.handled=Yb)(hl:s.heap.get? l=Ya (PL items n))(h:∀h' tk,Lg s.heap h'->Q Yb ?AG):Yn ?I A (Fs (.ref l) (YL "keys")) Q E s:=
 ajr F.slot_list_getattribute am_list_getattr_none am_entry_list_getattribute F.args_list_getattribute_2 hl rfl (λu=>meets_getattribute_miss_list l items n _ _ u aeZ ?B) hA h
end
theorem Fj:oa wq "dict.update.loop"=Ya bS.«dict.update.loop»:=Fu ?J
theorem ph:BI "dict.update.loop"=true:=by decide +kernel
section
variable{I d:Yc}{fp wr:List Yc}{P:Nat->Ye->Prop}{St:Nat->YT->Prop}{K:Type}[DecidableEq K]{knd:rV prog w K}
theorem abD(kx:List (K×Ye)):(y8 [] kx).length<=kx.length:=by
 have:=merged_length_le [] kx;simpa using this
theorem Xg(I d:Yc)(i:Int)(t:ml):GW prog w (bS.«dict.update.loop» ⟨?ID,[]⟩) λA R s=>Yn ?I A.in1 (fF (.ref I)) (λr s=>match r with
  |none=>R (.ok (.ret .none)) s
  |some v=>∃a o k x c,v=.ref a/\s.heap.get? a=Ya o/\o.cls=.type "tuple"/\o.data=.seq #[k,x] c/\
   Yn ?I A.in1 (dictSet d k x) (λ_ s=>c5 ?I A (.builtin "dict.update.loop" ⟨[.ref d,.ref I,.int ?DP 0,.none],[]⟩) R s) ?CR s) ?CR s:=by
 intro A R s nx;show Yn _ _ (fF (.ref I) >>= _) _ _ s;apply Yg;refine ai nx (λr s1 h=>?_) λ_ _ z=>z.elim;rcases r with _|v
 ·wp_walk
  exact h
 ·obtain⟨a,o,k,x,c,rfl,ha,hc,hd,q⟩:=h;have ty:s1.TypeIs (.ref a) "tuple":=⟨o,ha,hc⟩;apply Yg;apply cE;apply Yg;apply ox
  wp_walk using rL ha hd,ai q
  ·exact λ_ _ e=>Yp ⟨eT ph _,e⟩
  ·exact λ_ _ z=>z.elim
theorem agV{D:Nat->YT->Prop}(W:yy prog w A.in1 I fp wr n P St)(nd:d∉fp)(calm:∀i h h',D i h->(∀b o,b∉wr->h.get? b=Ya o->h'.get? b=Ya o)->D i h')
  (turn:∀i v s,P i v->D i s.heap->∃a o k x c,v=.ref a/\s.heap.get? a=Ya o/\o.cls=.type "tuple"/\o.data=.seq #[k,x] c/\
   ∀Q:Unit->Yl->Prop,(∀h,D ?DP h->(∀b,b≠d->h.get? b=s.heap.get? b)->∀tk,Q () ?A9)->Yn ?I A.in1 (dictSet d k x) Q ?CR s):
  ∀(k i:Nat) (s:Yl) (t:ml),n=i+ k->St i s.heap->D i s.heap->(∀h tk,D n h->R (.ok (.ret .none)) ?A9)->
   c5 ?I A (.builtin "dict.update.loop" ⟨?ID,[]⟩) R s:=by
 intro k
 induction k with
 |zero=>
  intro i s t e st di fin;obtain rfl:n=i:=e;exact enter Fj ph (Xg I d _ t) (W.done s _ _ st λh tk q=>fin h tk (calm _ _ _ di q))
 |succ k ih=>
  intro i s t e st di fin;refine enter Fj ph (Xg I d _ t) (W.item i s _ _ ?D st λv h tk pv st1 q=>?_);obtain⟨a,o,y,x,c,e1,e2,e3,e4,set⟩:=turn i v ?A9 pv (calm _ _ _ di q);refine⟨a,o,y,x,c,e1,e2,e3,e4,set _ λh2 d2 sb tk=>?_⟩;exact ih ?DP {s with heap:=h2,toks:=tk} 0 ?D (W.frame _ _ _ st1 λb hb o e=>(sb b λz=>nd (z▸hb)).trans e) d2 fin
theorem af5(W:yy prog w A.in1 I fp wr n P St)(nd:d∉fp)(h₀:YT)(kx:List (K×Ye))(hn:kx.length=n)(hz:n<=YB)
  (hP:∀i v,P i v->∃a key k x o c,v=.ref a/\kx[i]?=Ya (k,x)/\knd.is k key=true/\h₀.get? a=Ya o/\o.cls=.type "tuple"/\o.data=.seq #[key,x] c/\a≠d/\a∉wr):
  ∀(k i:Nat) (s:Yl) (t:ml),n=i+ k->St i s.heap->(∀b o,b∉wr->b≠d->h₀.get? b=Ya o->s.heap.get? b=Ya o)->s.heap.DictOf knd d (y8 [] (kx.take i))->
  (∀h' tk,(∀b o,b∉wr->b≠d->h₀.get? b=Ya o->h'.get? b=Ya o)->h'.DictOf knd d (y8 [] kx)->R (.ok (.ret .none)) ?AG)->
  c5 ?I A (.builtin "dict.update.loop" ⟨?ID,[]⟩) R s:=by
 have nw:d∉wr:=λz=>nd (W.sub _ z);intro k i s t en st kp dd fin;refine agV (D:=λi h=>(∀b o,b∉wr->b≠d->h₀.get? b=Ya o->h.get? b=Ya o)/\h.DictOf knd d (y8 [] (kx.take i))) W nd ?_ ?_ k i s t en st ⟨kp,dd⟩ λh tk q=>fin h tk q.1 ?_
 ·rintro i h h' ⟨kp,od,es,ep,ho,r⟩ q;exact⟨λb o nb nb' e=>q b o nb (kp b o nb nb' e),od,es,ep,q d od nw ho,r⟩
 ·rintro i v s pv ⟨kp,dd⟩;obtain⟨a,key,k,x,o,c,rfl,hx,hk,ha,hc,hd,na,naw⟩:=hP i v pv;refine⟨a,o,key,x,c,rfl,kp a o naw na ha,hc,hd,λQ q=>wpAny_dictSet_pairs hk dd (λh2 d2 sb=>q h2 ⟨λb o nb nb' e=>(sb.2 b nb').trans (kp b o nb nb' e),?_⟩ sb.2 _) (bP (abD _) (by rw[eA];omega))⟩;rw[merged_take_succ [] kx i (k,x) hx];exact d2
 ·have z:=q.2;rwa [<-hn,cx]at z
end
section
variable{K:Type}[DecidableEq K]{knd:rV prog w K}
noncomputable abbrev aeo(h:YT):YT:=h.push {cls:=.type "dict",data:=.dict #[]}
theorem Qt(ty:cg {s with heap:=aeo s.heap} (.ref l) T)(nT:(j1 T !=.type "dict")=true)(h:Yn ?I A.in1.in1 (Fs (.ref l) (YL "keys")) (λr s1=>r=Yb/\Yn ?I A.in1.in1 (uj (.ref l))
   (λit s2=>c5 ?I A.in1 (.builtin "dict.update.loop" ⟨[.ref s.heap.objs.size,it,.int 0 0,.none],[]⟩) (IJ (λr s3=>r=.none/\Q (.ref s.heap.objs.size) s3) E) s2) E s1) E {s with heap:=aeo s.heap}):
  Yn ?I A (call (.type "dict") [.ref l]) Q E s:=by
 apply callType_codes F.kt_called_dict (F.kt_typeCall_dict_1 _) F.entry_dict_init (kt_code_dict_new (Q₁:=λv s1=>v=.ref s.heap.objs.size/\s1={s with heap:=aeo s.heap}) _ ⟨rfl,rfl⟩);rintro _ _ ⟨rfl,rfl⟩;have td:cg {s with heap:=aeo s.heap} (.ref s.heap.objs.size) "dict":=⟨_,Yq _ rfl,rfl⟩;refine⟨td,F.args_dict_init_2 _ _,?_⟩;show Yn _ _ (Builtin.Dict.selfAndRest _ _ >>= _) _ _ _
 wp_walk using wpAny_notOrdered_dict td,BH nT,ai h
 ·rintro _ s1 ⟨rfl,q⟩
  wp_walk using ai q
  ·exact λ_ _ e=>Yp ⟨eT ph _,e⟩
  ·exact λ_ _ e=>e
 ·exact λ_ _ e=>e
theorem JZ{vs:List Ye}{kx:List (K×Ye)}(hA:A.handled=Yb)(hl:s.heap.get? l=Ya {cls:=.type "list",dict:=Yb,data:=.seq vs.toArray n,slots:=#[]})(hz:vs.length<=YB)(hlen:kx.length=vs.length)(hP:∀(i:Nat) v,vs[i]?=Ya v->∃a key k x o c,v=.ref a/\kx[i]?=Ya (k,x)/\knd.is k key=true/\s.heap.get? a=Ya o/\o.cls=.type "tuple"/\o.data=.seq #[key,x] c)(h:∀h' tk,?A2->h'.DictOf knd s.heap.objs.size (y8 [] kx)->Q (.ref s.heap.objs.size) ?AG):
  Yn ?I A (call (.type "dict") [.ref l]) Q E s:=by
 have hl':(aeo s.heap).get? l=Ya {cls:=.type "list",dict:=Yb,data:=.seq vs.toArray n,slots:=#[]}:=Yi _ hl;refine Qt (T:="list") ⟨_,hl',rfl⟩ ?B (adA hA hl' λh1 tk1 k1=>⟨rfl,?_⟩);have hl1:=k1 l _ hl';have lt1:l<h1.objs.size:=Yu hl1;have ld:l<s.heap.objs.size:=Yu hl;have il:h1.IsList l vs.toArray:=⟨_,hl1,rfl,n,rfl⟩;have d1:h1.DictOf knd s.heap.objs.size []:=by
  obtain⟨od,es,ep,ho,r⟩:=Heap.DictOf.new (knd:=knd) s.heap;exact⟨od,es,ep,k1 _ _ ho,r⟩
 have dlt:s.heap.objs.size<h1.objs.size:=by
  obtain⟨od,es,ep,ho,r⟩:=d1;exact Yu ho
 have hI:∀{b:Yc},b<h1.objs.size->b≠h1.objs.size:=λz=>YF z;refine fy (s:={s with heap:=h1,toks:=tk1}) il ?_;have W:=uS (prog:=prog) (w:=w) (A:=A.in1.in1) hA h1.objs.size l (hI lt1) vs.toArray;refine af5 (A:=A.in1) (knd:=knd) W (d:=s.heap.objs.size) ?_ s.heap kx (by rw[hlen,Yx]) (by rw[Yx];exact hz) (λi v hv=>?_) vs.toArray.size 0 _ 0 ?D
  ⟨⟨_,Yq _ rfl,rfl,rfl⟩,il.push _⟩ (λb o _ nb e=>Yi _ (k1 b o (Yi _ e))) ?_ λh2 tk2 k2 d2=>?_
 ·intro z;have z':s.heap.objs.size=h1.objs.size\/s.heap.objs.size=l:=by simpa using z
  rcases z' with z'|z'
  ·exact absurd dlt ?CP
  ·exact absurd ld ?CP
 ·obtain⟨a,key,k,x,o,c,e1,e2,e3,e4,e5,e6⟩:=hP i v (by simpa using hv);refine⟨a,key,k,x,o,c,e1,e2,e3,e4,e5,e6,YF (Yu e4),λz=>?_⟩;have z':a=h1.objs.size:=by simpa using z
  exact absurd (y7 (Yu e4) dlt) ?CP
 ·exact d1.push _
 ·exact⟨rfl,h h2 tk2 (λb o e=>k2 b o (λz=>by
   have z':b=h1.objs.size:=by simpa using z
   exact absurd (y7 (Yu e) dlt) ?CP) (YF (Yu e)) e) d2⟩
end
end GX
namespace GX
open PySem PyProof.Rows
section
variable{prog:YI}{w:YV}{A:Y7}{E:Ye->Yl->Prop}{s:Yl}
theorem Gb{x:Ye}{kw:List (Ym×Ye)}{Q:Ye->Yl->Prop}(ok:km "sorted" ⟨[x],kw⟩)
  (h:Yn ?I A.in1 (Kt x) (λvs s1=>Yn ?I A.in1 (EC vs >>= λl=>ny [l] (call (.builtin "list.sort") [l] kw) >>= λ_=>ret l) (λf s2=>∃v,f=.done (.ret v)/\Q v s2) E s1) E s):
  Yn ?I A (call (.builtin "sorted") [x] kw) Q E s:=
 call_function_entry_kw kind_sorted plain_sorted entry_sorted ok (Yg (m:=checkCount _ _ _ _) (Yp (Yg (ai h (λ_ _ q=>q) λ_ _ e=>e))))
end
end GX
namespace L2
open PySem PySem.Spec PyProof.Rows
variable{X:Cx}{P:YI}{w:YV}{A:Y7}{s:Yl}{ns:List Int}{pins:List ?AQ}{σ:St}{H:Hp}{h':YT}{a it:Yc}{kvs:List ?DG}{vs:List (d9×Ye)}{elts:List YZ}{x1:Nat}{tp:iL}
noncomputable def dI(m:List ?S):List ?DG:=m.map λp=>(YY p.1,V.int p.2)
theorem Rm(m:List ?S):(dI m).length=m.length:=Yk ..
noncomputable def lkI:List ?S->Int->Option Int
 |[],_=>Yb
 |p::m,k=>if p.1=k then Ya p.2 else lkI m k
theorem agW:∀(m:List ?S) (k:Int),JK (dI m) (YY k:d9)=(lkI m k).map V.int
 |[],_=>rfl
 |p::m,k=>by
  show JK ((YY p.1,V.int p.2)::dI m) (YY k)=_;unfold lkI;by_cases e:p.1=k
  ·rw[if_pos e,CV (by rw[e])];rfl
  ·rw[if_neg e,CP (λz=>e (md z)),agW m k]
noncomputable def aeM:List ?S->Int->Int->List ?S
 |[],k,v=>[(k,v)]
 |p::m,k,v=>if p.1=k then(p.1,v)::m else p::aeM m k v
theorem ahi(k:Int):∀m:List ?S,((dI m).any λkv=>decide (kv.1=(YY k:d9)))=m.any λp=>decide (p.1=k)
 |[]=>rfl
 |p::m=>by
  show(decide ((YY p.1:d9)=YY k)||(dI m).any _)=(decide (p.1=k)||m.any _);rw[ahi k m];congr 1;rw[decide_eq_decide];exact⟨λh=>md h,λh=>congrArg _ h⟩
theorem Wk:∀(m:List ?S) (k v:Int),(m.any λp=>decide (p.1=k))=false->aeM m k v=m++[(k,v)]
 |[],_,_,_=>rfl
 |p::m,k,v,h=>by
  rw[kL,CC]at h;show(if p.1=k then(p.1,v)::m else p::aeM m k v)=_;rw[if_neg (of_decide_eq_false h.1),Wk m k v h.2];rfl
theorem adZ:∀(m:List ?S) (k v:Int),(m.map (·.1)).Nodup->(m.any λp=>decide (p.1=k))=true->aeM m k v=m.map λp=>if p.1=k then(p.1,v)else p
 |[],_,_,_,h=>by cases h
 |p::m,k,v,nd,h=>by
  rw[YS,d5]at nd;show(if p.1=k then(p.1,v)::m else p::aeM m k v)=(if p.1=k then(p.1,v)else p)::m.map _;by_cases e:p.1=k
  ·rw[if_pos e,if_pos e];congr 1;have:m.map (λp=>if p.1=k then(p.1,v)else p)=m.map id:=jv λq hq=>by
    rw[if_neg (λz=>nd.1 (by rw[e,<-z];exact eJ hq))];rfl
   rw[this,EX]
  ·rw[if_neg e,if_neg e,adZ m k v nd.2 (by
    rw[kL,decide_eq_false e,gy]at h;exact h)]
theorem alM(m:List ?S)(k v:Int)(nd:(m.map (·.1)).Nodup):tR (dI m) (YY k:d9) (V.int v)=dI (aeM m k v):=by
 unfold tR;rw[ahi];cases e:m.any λp=>decide (p.1=k)with
 |false=>
  rw[Wk m k v e];unfold dI;rw[YG];rfl
 |true=>
  rw[adZ m k v nd e];unfold dI;rw[cw,if_pos rfl,cw];apply jv;intro p _;show(if(YY p.1:d9)=YY k then((YY p.1:d9),V.int v)else(YY p.1,V.int p.2))=((YY (if p.1=k then(p.1,v)else p).1:d9),V.int (if p.1=k then(p.1,v)else p).2);by_cases z:p.1=k
  ·rw[if_pos (congrArg _ z),if_pos z]
  ·rw[if_neg (λq=>z (md q)),if_neg z]
section
theorem MK{P:YI}{w:YV}:∀{m:List ?S} {vs:List (d9×Ye)} {us:List Ye},KV (dI m) vs->us.length=vs.length->(∀(j:Nat) v,us[j]?=Ya v->∃k x,vs[j]?=Ya (k,x)/\(bT P w).is k v=true)->aT us ?IR
 |[],_,us,r,hl,h=>by
  have r':KV [] _:=r;cases r';cases us with
  |nil=>exact .nil
  |cons _ _=>cases hl
 |p::m,vs,us,r,hl,h=>by
  have r':KV ((YY p.1,V.int p.2)::dI m) vs:=r;cases r' with
  |cons r1 r2=>
   rename_i q qs;cases us with
   |nil=>cases hl
   |cons u us=>
    obtain⟨k,x,e1,e2⟩:=h 0 u rfl;have e1':q=(k,x):=YK e1;subst e1';have ek:(YY p.1:d9)=k:=r1.1;subst ek;rcases eG (show Ju (YY p.1) u=true from e2)with⟨i,t,z1,z2⟩|⟨_,_,z,_⟩
    ·have z1':p.1=i:=md z1;rw[z2,<-z1'];exact .cons _ t (MK (P:=P) (w:=w) r2 (zk hl) λj v e=>h (j+ 1) v e)
    ·cases z
theorem Ms{E:Ye->Yl->Prop}{prog:YI}{vs:List Ye}{Q:Ye->Yl->Prop}(hi:aT vs ns)(h64:vs.length<64)(hz:vs.length<=YB)(h:∀h' out ns' e,?A2->h'.get? s.heap.objs.size=Ya (seqObj "list" out e)->aT out.toList ns'->ns'.Perm ns->ns'.Pairwise (·<=·)->Q (.ref s.heap.objs.size) ?AM):
  Yn ?I A (do let l<-EC vs;let _<-ny [l] (call (.builtin "list.sort") [l] []);ret l) (λfin s'=>∃v,fin=.done (.ret v)/\Q v s') E s:=by
 refine Yg (CO ?_ hz);have ho:(s.heap.push (seqObj "list" vs.toArray 0)).get? s.heap.objs.size=Ya (seqObj "list" vs.toArray 0):=Yq _ rfl;refine Yg (cE (iF GY ⟨_,ho,rfl⟩ F7 (list_sort_tree ho hi h64 λout ns' a1 a2 a3=>⟨_,rfl,?_⟩) (args_list_sort _)));obtain⟨e,he⟩:=sortedHeap_at (out:=out) ho;refine Yp ⟨_,rfl,h _ out ns' e (λb o q=>?_) he a1 a2 a3⟩;have l:=Yu q;rw[sortedHeap_old (YF l) (by rw[size_push'];exact kP l)];exact Yi _ q
theorem bH.lay_ints{out:Array Ye}{e tk:Nat}(I:bH X pins σ H s)(k:∀b o,s.heap.get? b=Ya o->h'.get? b=Ya o)(he:h'.get? s.heap.objs.size=Ya (seqObj "list" out e))(hi:aT out.toList ns)(hz:ns.length<=YB):
  bH X pins σ (upd H s.heap.objs.size (.lst ?A1)) ?AG:=
 I.laid k ?BU ⟨by rw[Yk];exact hz,out.toList,e,Ga hi,he⟩
theorem Wr(hc:X.calm=true):jQ X (.builtin "sorted") (λxs H Q=>∃(d:Yc) (m:List ?S),xs=[.ref d]/\Rd H d (.dK (dI m))/\m.length<64/\∀(l:Yc) (ns:List Int),H l=Yb->ns.Perm ?IR->ns.Pairwise (·<=·)->Q (.ref l) (upd H l (.lst ?A1))):=by
 intro pins s σ H xs us Q I r h;obtain⟨d,m,rfl,hd,hlen,q⟩:=h;obtain⟨u,rfl,rx⟩:=lQ r;cases rx;obtain⟨z,hS,vs,rel,dd⟩:=Di I.hok hd;obtain⟨ep,hat⟩:=dd.dictAt;have hl:vs.length=m.length:=by rw[<-rel.length,Rm]
 refine GX.Gb (DS _) (C0 (A:=X.A.in1) ?CS ?BK hat ?EN λh' tk acc hk hacc=>?_);have hi:aT acc.toList ?IR:=MK (P:=X.prog) (w:=X.w) rel (by rw[aE];exact hacc.1) λj v e=>hacc.2 j v (by rw[<-Y4];exact e);have ha:acc.toList.length=m.length:=by rw[hi.length,Yk]
 have I1:bH X pins σ H ?AG:=I.kept hk;refine Ms hi (by rw[ha];exact hlen) (by rw[ha];exact Y5 (bx ?D)) λh2 out ns' e k2 he a1 a2 a3=>?_;have ln:ns'.length<=YB:=by rw[a2.length_eq,Yk];exact Y5 (bx ?D)
 exact⟨.ref h'.objs.size,_,I1.lay_ints (tk:=tk) k2 he a1 ln,rfl,q _ ns' ?D9 a2 a3⟩
def Pr(H:Hp)(x:V)(p:Int×Int):Prop:=∃a,x=.ref a/\H a=Ya (.tup [.int p.1,.int p.2])
abbrev Prs(H:Hp):List V->List ?S->Prop:=dQ (Pr H)
end
section
theorem adb{A:Y7}{s:Yl}{n:List ?S}{ws:List (d9×Ye)}(rn:KV (dI n) ws):∀{m:List ?S} {vs:List (d9×Ye)},KV (dI m) vs->(∀p∈m,lkI n p.1=Ya p.2)->PySem.W.KeqHits A s ws vs true
 |[],_,r,_=>by
  have r':KV [] _:=r;cases r';exact .nil
 |p::m,vs,r,h=>by
  have r':KV ((YY p.1,V.int p.2)::dI m) vs:=r;cases r' with
  |cons r1 r2=>
   rename_i q qs;obtain⟨k,v⟩:=q;have ek:(YY p.1:d9)=k:=r1.1;subst ek;obtain⟨t,ev⟩:=(show∃t,v=kc p.2 t from r1.2);subst ev;have z:=rn.val (YY p.1);rw[agW,h p Yf]at z;obtain⟨y,hy,ry⟩:=Er.some_of z;obtain⟨t',ey⟩:=(show∃t,y=kc p.2 t from ry);subst ey;have e:=SeqAt.EqAt.int_int (A:=A) (s:=s) p.2 t p.2 t';have rest:=adb (A:=A) (s:=s) rn r2 λq hq=>h q (Yh _ hq);have:=PySem.W.KeqHits.hit hy e rest;rw[beq_self_eq_true,CS]at this;exact this
theorem aa2:∀(ps acc:List ?S),((acc++ps).map (·.1)).Nodup->oK (dI acc) (dI ps)=dI (acc++ps)
 |[],acc,_=>by rw[dA];rfl
 |p::ps,acc,h=>by
  show oK (tR (dI acc) (YY p.1) (V.int p.2)) (dI ps)=_;have h1:(acc.map (·.1)).Nodup:=by
   rw[YG]at h;exact(i9.mp h).1
  have h2:(acc.any λq=>decide (q.1=p.1))=false:=by
   rw[xC];intro q hq z;have z':=of_decide_eq_true z;rw[YG,YS]at h;exact(i9.mp h).2.2 q.1 (eJ (f:=(·.1)) hq) p.1 Yf z'
  rw[alM acc p.1 p.2 h1,Wk acc p.1 p.2 h2,aa2 ps (acc++[(p.1,p.2)]) (by rw[kN];exact h),kN];rfl
theorem afJ(I:bH X pins σ H s):∀{xs:List V} {us:List Ye} {ps:List ?S},Prs H xs ps->Vals xs us->
  ∃kx:List (d9×Ye),KV (dI ps) kx/\kx.length=us.length/\∀(i:Nat) v,us[i]?=Ya v->∃a key k x o c,v=.ref a/\kx[i]?=Ya (k,x)/\(bT X.prog X.w).is k key=true/\s.heap.get? a=Ya o/\o.cls=.type "tuple"/\o.data=.seq #[key,x] c:=by
 intro xs us ps w
 induction w generalizing us with
 |nil=>
  intro w;cases w;exact⟨[],.nil,rfl,λi v e=>by simp at e⟩
 |@cons x p xs ps h t ih=>
  intro w;cases w with|cons r q=>
  rename_i u us;obtain⟨kx,k1,k2,k3⟩:=ih q;obtain⟨a,rfl,ha⟩:=h;obtain rfl:u=Y0 a:=r;obtain⟨_,its,rv,o,ho,hc,n,hd,_⟩:[V.int p.1,V.int p.2].length<=YB/\∃its:List Ye,Vals [V.int p.1,V.int p.2] its/\xg s.heap a its.toArray:=I.hok a _ ha;obtain⟨u1,u2,rfl,r1,r2⟩:=aaq rv;obtain⟨t1,rfl⟩:=r1;refine⟨(YY p.1,u2)::kx,.cons ⟨rfl,r2⟩ k1,congrArg (·+ 1) k2,λi v e=>?_⟩;cases i with
  |zero=>
   have e':Y0 a=v:=YK e;subst e';exact⟨a,_,_,u2,o,n,rfl,rfl,Dq X.prog X.w p.1 t1,ho,hc,hd⟩
  |succ i=>exact k3 i v e
theorem abK(hc:X.calm=true):jQ X (.type "dict") (λxs H Q=>∃(a:Yc) (ys:List V) (ps:List ?S),xs=?BV/\H a=Ya (.lst ys)/\Prs H ys ps/\(ps.map (·.1)).Nodup/\ps.length<=1000/\∀p,H p=Yb->Q (.ref p) (upd H p (.dK (dI ps)))):=by
 intro pins s σ H xs us Q I r h;obtain⟨a,ys,ps,rfl,ha,hp,nd,hl,q⟩:=h;obtain⟨u,rfl,rx⟩:=lQ r;cases rx;obtain⟨z,its,n,rv,hlen,e⟩:=I.lstM ha;obtain⟨kx,k1,k2,k3⟩:=afJ I hp rv;refine GX.JZ (knd:=bT X.prog X.w) ?BK e (by rw[<-hlen];exact z) k2 k3 λh' tk kp dd=>?_;have rel:KV (dI ps) (y8 [] kx):=by
  have:=KV.merge k1 (show KV (dI []) []from .nil);rw[aa2 ps [] (by simpa using nd)]at this;exact this
 refine⟨.ref s.heap.objs.size,_,I.laid (t':=tk) kp ?BU (Wf ?_ (beq_eq_false_iff_ne.mpr (Ne.symm (YF I.big))) rel dd),rfl,q _ ?AL⟩;rw[Rm];exact Y5 (bx hl)
def aoI(K:Yd)(tl:TE):TI:=λσ H R=>tl σ H λx H1=>∃a,x=.ref a/\(((∃xs,bK K H1 a xs)/\R (Itl K a) H1)\/((∃xs,dC K H1 a xs)/\R (Itt K a) H1))
theorem amP{tg l:YZ}{tl:TE}(hl:PE X l tl):PI X tg l (aoI X.K tl):=by
 intro pins s σ H R I h;refine eZ (hl pins s σ H _ I h) λv s1 zz=>?_;obtain⟨x,H1,I1,r1,q1⟩:=zz;obtain⟨a,e,q1⟩:=q1;subst e;cases r1;have fp:∀b∈[s1.heap.objs.size],JD X pins H1 b:=λb hb=>by
  have e:b=s1.heap.objs.size:=by simpa using hb
  subst e;exact I1.fpOk ?BU ?D9
 rcases q1 with⟨⟨xs,hq⟩,q⟩|⟨⟨xs,hq⟩,q⟩
 ·obtain⟨its,rv,p,hz⟩:=I1.list hq;refine fy p.isList ?_;exact⟨s1.heap.objs.size,[s1.heap.objs.size],_,_,H1,rfl,I1.kept (t':=s1.toks) λb o e=>Yi _ e,Ui a _,⟨_,Yq _ rfl,rfl,rfl⟩,fp,q⟩
 ·obtain⟨its,rv,p,hz⟩:=I1.tuple hq;refine DE (show s1.heap.IsTuple a its.toArray from p) ?_;exact⟨s1.heap.objs.size,[s1.heap.objs.size],_,_,H1,rfl,I1.kept (t':=s1.toks) λb o e=>Yi _ e,QV a _,⟨_,Yq _ rfl,rfl,rfl⟩,fp,q⟩
end
theorem KJ{K:Yd}{xs:List V}{g:TG}{tt:TT}{te:TE}{D:Yc}{Qe:Hp->Prop}(Pv:Nat->St->Hp->Prop)(h0:Pv 0 σ H)(hl:∀i σ H,i<=xs.length->Pv i σ H->dC K H a xs)(hs:∀i x σ H,xs[i]?=Ya x->Pv i σ H->pL g tt te D (Pv ?DP) x σ H)(hd:∀σ H,Pv xs.length σ H->Qe H):
  ∃W:Nat->Nat->St->Hp->Prop,?ES/\∀i m σ' H',W i m σ' H'->((Itt K a).stop i H'/\Qe H')\/((Itt K a).go i H'/\∃N:St->Hp->Prop,?V/\
   ∀x H'',(Itt K a).yld i H' x H''->pL g tt te D N x σ' H''):=by
 refine⟨λi m σ H=>m=xs.length-i/\i<=xs.length/\Pv i σ H,⟨xs.length,by simp,YX _,h0⟩,?_⟩;rintro i m σ H ⟨rfl,hi,p⟩;have q:=hl i σ H hi p;by_cases hlt:i<xs.length
 ·refine .inr ⟨⟨xs,xs[i],q,by simp[hlt]⟩,Pv ?DP,λσ' H' p'=>⟨xs.length-(i+ 1),by omega,rfl,hlt,p'⟩,λx H' y=>?_⟩;obtain⟨e,y⟩:=y;subst e;exact hs i x σ _ (y xs q) p
 ·have e:i=xs.length:=by omega
  subst e;exact .inl ⟨⟨xs,q,Yo _⟩,hd σ H p⟩
noncomputable def Itm(d:Yc)(o:Y6)(kvs:List ?DG):It:=
 ⟨λi H=>i<kvs.length/\H d=Ya (.frz o (.dK kvs)),λi H x H'=>∃k v a,kvs[i]?=Ya (k,v)/\H a=Yb/\x=.ref a/\H'=upd H a (.tup [kV k,v]),λi H=>kvs.length<=i/\H d=Ya (.frz o (.dK kvs))⟩
theorem aiR{k:d9}{u:Ye}(h:(bT P w).is k u=true):RelV (kV k) u:=by
 rcases eG (show Ju k u=true from h)with⟨i,t,rfl,rfl⟩|⟨x,t,rfl,rfl⟩
 ·exact⟨t,rfl⟩
 ·exact⟨t,rfl⟩
theorem KV.get:∀{i:Nat} {k:d9} {v:V},KV kvs vs->kvs[i]?=Ya (k,v)->∃u,vs[i]?=Ya (k,u)/\RelV v u:=by
 intro i k v r
 induction r generalizing i with
 |nil=>intro e;simp at e
 |cons r1 r2 ih=>
  rename_i p q _ _;intro e;cases i with
  |zero=>
   have e':p=(k,v):=YK e;subst e';obtain⟨k',u⟩:=q;have ek:k=k':=r1.1;subst ek;exact⟨u,rfl,r1.2⟩
  |succ i=>exact ih e
theorem bH.turnLay{o:HO}(I:bH X pins σ H s)(k:∀b o,b≠it->s.heap.get? b=Ya o->h'.get? b=Ya o)(hf:JD X pins H it)(hio:∃o,h'.get? it=Ya o)(ha:s.heap.objs.size<=a)(hai:a≠it)(new:gQ X.prog X.w (upd H a o) h' a o):bH X pins σ (upd H a o) ?AM:=by
 obtain⟨f0,f1,f2,f3,f4,f5⟩:=hf;have hn:H a=none:=I.hok.fresh ha;have nea:∀b ob,s.heap.get? b=Ya ob->b≠a:=λb ob e z=>by
  have:=Yu e;rw[z]at this;exact absurd (YM this ha) (Y2 _)
 have nit:∀b u,H b=Ya u->b≠it:=λb u e z=>by rw[z,f0]at e;cases e
 refine I.step (g':=s.gens) (d':=s.drawn) (t':=s.toks) (ch:=[it]) (λb hb=>?_) (λb o _ _ hc e _=>k b o ?BX e) ?GW (λb ob _ e n=>by rw[aQ (nea b ob e)];exact n)
  (λb o hc e=>⟨o,k b o ?BX e⟩) (λb xs e=>by rw[aQ (bB e hn)];exact e) (λb o u e=>by rw[aQ (bB e hn)];exact e) (λb ps e=>⟨#[],by rw[aQ (bB e hn),e];simp⟩) (λm hm=>?_) (λb u e=>?_) I.bare
 ·have e:b=it:=by simpa using hb
  subst e;exact⟨f3,f1,f4,f5⟩
 ·obtain⟨ob,es,ep,ho,r⟩:=hm;exact⟨ob,es,ep,k _ ob (Ne.symm f1) ho,r⟩
 ·by_cases hb:b=a
  ·subst hb;rw[aA]at e;cases e;exact new
  ·rw[aQ hb]at e;refine(I.hok b u e).stay (λc v hc q=>k c v ?_ q) (λc q=>by rw[aQ (bB q hn)];exact q) λc xs q=>by rw[aQ (bB q hn)];exact q
   rcases hc with z|z
   ·rw[z];exact nit b u e
   ·exact nit c _ z
theorem aci{K:Yd}{d:Yc}{o:Y6}{ep:Nat}(rel:KV kvs vs)(fz:∀h:YT,h.get? d=Ya o->h.DictAt (bT P w) d vs ep):
  Turn P w K (.Tuple elts x1 tp) (Itm d o kvs) [it] it (λi h=>∃ok ov,IsItemIter h it d i vs.length ep ok ov) where
 mem:=by simp
 obj:=λi h st b hb=>by
  have e:b=it:=by simpa using hb
  subst e;obtain⟨ok,ov,e⟩:=st;exact⟨_,e,λv z=>by
   have z':Data.fields _=Data.cell v:=z;cases z'⟩
 keep:=λi h h' st k=>let ⟨ok,ov,e⟩:=st;⟨ok,ov,k it ?N _ e⟩
 item:=by
  intro X hP hw hK hc i pins s σ H E I hf st hg;subst hP hw hK;obtain⟨ok,ov,hit⟩:=st;obtain⟨hi,hd⟩:=hg;have hdo:s.heap.get? d=Ya o:=(show s.heap.get? d=Ya o/\_ from I.hok d _ hd).1;have hx:kvs[i]?=Ya kvs[i]:=Yv hi;obtain⟨u,hu,ru⟩:=rel.get (k:=kvs[i].1) (v:=kvs[i].2) hx;refine wpAny_pyNext_items_item hit (fz _ hdo) hu λkey h' hkey hit' htup hsz kp=>?_;have hai:s.heap.objs.size≠it:=λz=>by
   have:=Yu hit;rw[<-z]at this;exact Y2 _ this
  have hfi:=hf it ?N;have I1:bH X pins σ (upd H s.heap.objs.size (.tup [kV kvs[i].1,kvs[i].2])) ?AM:=
   I.turnLay kp hfi ⟨_,hit'⟩ ?BU hai ⟨by show 2<=YB;decide,[key,u],.cons (aiR hkey) (.cons ru .nil),_,htup,rfl,0,rfl,rfl,rfl⟩
  refine⟨_,rfl,xc hit' λh2 hit2 sb=>?_⟩;obtain⟨f0,f1,f2,f3,f4,f5⟩:=hfi;have f0':(upd H s.heap.objs.size (.tup [kV kvs[i].1,kvs[i].2])) it=none:=by rw[aQ (Ne.symm hai)];exact f0
  refine⟨.ref s.heap.objs.size,_,I1.turned (t':=s.toks) ?DB f0' f1 f3 f4 f5,rfl,⟨_,_,_,hx,I.hok.fresh ?BU,rfl,rfl⟩,⟨key,u,hit2⟩,λb hb=>?_⟩;have e:b=it:=by simpa using hb
  rw[e];exact f0'
 done:=by
  intro X hP hw hK hc i pins s σ H E I hf st hg;subst hP hw hK;obtain⟨ok,ov,hit⟩:=st;obtain⟨hi,hd⟩:=hg;have hdo:s.heap.get? d=Ya o:=(show s.heap.get? d=Ya o/\_ from I.hok d _ hd).1;obtain⟨f0,f1,f2,f3,f4,f5⟩:=hf it ?N;have hlen:kvs.length=vs.length:=KV.length rel;exact wpAny_pyNext_items_end ?BK hit (fz _ hdo) (gc ?D) λh' eb=>⟨rfl,I.turned (t':=s.toks) ?D1 f0 f1 f3 f4 f5⟩
 self:=λ_ _ _ _ _ ⟨ok,ov,st⟩ h=>FA st h
section
def ahG(td:TE):TI:=λσ H R=>td σ H λx H1=>∃d kvs,x=.ref d/\H1 d=Ya (.dK kvs)/\∀o,R (Itm d o kvs) ?IL
theorem agB{e:YZ}{apos cpos:iL}{td:TE}(he:PE X e td)(hbase:kH e "items" X.env (ay e X.env)=ay e X.env:=by rfl)(hline:(apos.endLine==cpos.line)=true:=by rfl):
  PI X (.Tuple elts x1 tp) (.Call (.Attribute e "items" apos) [] [] cpos) (ahG td):=by
 intro pins s σ H R I h;refine nh hbase hline (eZ ?AY λv s1 zz=>?_);obtain⟨x,H1,I1,r1,d,kvs,ex,hd,q⟩:=zz;subst ex;obtain rfl:v=Y0 d:=r1;obtain⟨z,hS,vs,rel,dd⟩:=aaA I1.hok hd;obtain⟨h1,h2⟩:=Ln (T:="dict") I1 (x:=.ref d) rfl (.inr (.inr (.inl ⟨rfl,.inl ⟨kvs,hd⟩⟩)));refine⟨"dict","dict.items",gX,r6,AA,h1,h2,j3 rfl (qo ?_)⟩;refine DU r6 h1 PySem.F.entry_dict_items (PySem.F.args_dict_items_1 _) (meets_dict_items ?D3 d hS) ⟨⟨vs,dd⟩,?_⟩;have dd':(s1.heap.push {cls:=.type "dict_items",data:=.fields #[.ref d]}).DictOf ?D3 d vs:=dd.push _;obtain⟨o,es,ep,ho,rr⟩:=id dd';have fz:∀h:YT,h.get? d=Ya o->h.DictAt ?D3 d vs ep:=λh hh=>⟨o,es,hh,rr⟩;have I2:bH X pins σ H1 {s1 with heap:=s1.heap.push {cls:=.type "dict_items",data:=.fields #[.ref d]}}:=I1.kept (t':=s1.toks) λb ob e=>Yi _ e;have hv:(s1.heap.push {cls:=.type "dict_items",data:=.fields #[.ref d]}).IsItemsView s1.heap.objs.size d:=⟨_,Yq _ rfl,rfl,rfl⟩;show Yn _ _ (uj (.ref s1.heap.objs.size)) _ _ _;refine wpAny_pyIter_items hv (fz _ ho) ?_;have I3:bH X pins σ ?IL {s1 with heap:=s1.heap.push {cls:=.type "dict_items",data:=.fields #[.ref d]}}:=
  I2.write (t':=s1.toks) (x:=d) (e:=d) (by rw[hd];trivial) (.inl rfl) ?IQ ⟨o,ho⟩ ⟨ho,z,hS,vs,rel,dd'⟩
 refine⟨_,[_],_,Itm d o kvs,upd H1 d (.frz o (.dK kvs)),rfl,I3.kept (t':=s1.toks) λb ob e=>Yi _ e,aci rel fz,⟨.none,.none,Yq _ rfl⟩,λb hb=>?_,q o⟩;have eb:b=(s1.heap.push {cls:=.type "dict_items",data:=.fields #[.ref d]}).objs.size:=by simpa using hb
 subst eb;exact I3.fpOk ?BU (I3.hok.fresh ?BU)
end
end L2
namespace GX
open PySem PyProof.Rows
variable{xs:Array Nat}{i j sl p n ep c:Nat}{t t':vS}{h:YT}{b:Bool}{x first:Ye}{prog:YI}{w:YV}{A:Y7}{E Q1:Ye->Yl->Prop}{s:Yl}{a I tp:Yc}{S:Int->Bool}{es es':Array (Int×Ye)}{Q:Option Ye->Yl->Prop}{k:Int}{R:pV->Yl->Prop}{ns:List Int}{M:Model}{o:Y6}{ps:List Nat}
def Ris(xs:Array Nat):Prop:=xs.toList.Pairwise (·<·)
theorem Ris.at(h:Ris xs)(hi:i<j)(hj:j<xs.size):xs.getD i 0<xs.getD j 0:=by
 have:=List.pairwise_iff_getElem.mp h i j (by simp;omega) (by simpa using hj) hi;simp only[u7]at this;rw[ax,ax,YH ?D,YH hj];exact this
theorem aaz(h:i<xs.size)(a b:Nat):xs.getD i a=xs.getD i b:=by
 rw[ax,ax,YH h];rfl
theorem Rw{xs:Array Nat}(hr:Ris xs)(j:Nat):∀(fuel lo hi:Nat),lo<=hi->hi<=xs.size->hi-lo<=fuel->(∀i,i<lo->xs.getD i 0<j)->(∀i,hi<=i->i<xs.size->j<=xs.getD i 0)->
  ja xs j fuel lo hi<=xs.size/\(∀i,i<ja xs j fuel lo hi->xs.getD i 0<j)/\(∀i,ja xs j fuel lo hi<=i->i<xs.size->j<=xs.getD i 0)
 |0,lo,hi,h1,h2,h3,h4,h5=>by
  have e:lo=hi:=by omega
  subst e;unfold ja;exact⟨h2,h4,h5⟩
 |fuel+ 1,lo,hi,h1,h2,h3,h4,h5=>by
  unfold ja;by_cases h:lo<hi
  ·rw[if_pos h];have hm:(lo+ hi) / 2<xs.size:=by omega
   show(if xs.getD ((lo+ hi) / 2) j<j then ja xs j fuel ((lo+ hi) / 2+ 1) hi else ja xs j fuel lo ((lo+ hi) / 2))<=_/\_;by_cases hc:xs.getD ((lo+ hi) / 2) j<j
   ·simp only[if_pos hc];rw[aaz hm j 0]at hc;refine Rw hr j fuel _ hi ?D h2 ?D (λi hi'=>?_) h5;rcases oy i ((lo+ hi) / 2)with z|z
    ·have:=hr.at z hm;omega
    ·have:i=(lo+ hi) / 2:=by omega
     rw[this];exact hc
   ·simp only[if_neg hc];rw[aaz hm j 0]at hc;refine Rw hr j fuel lo _ ?D ?D ?D h4 (λi hi' hs=>?_);rcases oy ((lo+ hi) / 2) i with z|z
    ·have:=hr.at z hs;omega
    ·have:i=(lo+ hi) / 2:=by omega
     rw[this];omega
  ·rw[if_neg h];have e:lo=hi:=by omega
   subst e;exact⟨h2,h4,h5⟩
theorem La(hr:Ris xs)(j:Nat):bg xs j<=xs.size/\(∀i,i<bg xs j->xs.getD i 0<j)/\(∀i,bg xs j<=i->i<xs.size->j<=xs.getD i 0):=by
 unfold bg;exact Rw hr j _ 0 _ (YX _) ?BU ?D (λi h=>by omega) (λi h1 h2=>by omega)
theorem ab6(hr:Ris xs)(hi:i<xs.size):bg xs (xs.getD i 0+ 1)=i+ 1:=by
 obtain⟨h1,h2,h3⟩:=La hr (xs.getD i 0+ 1);rcases Nat.lt_trichotomy (bg xs (xs.getD i 0+ 1)) (i+ 1)with z|z|z
 ·have:=h3 i ?D hi;omega
 ·exact z
 ·have q:=h2 ?DP z;have:=hr.at (i:=i) (j:=i+ 1) ?D ?D;omega
theorem ace(hr:Ris xs):bg xs 0=0:=by
 obtain⟨h1,h2,h3⟩:=La hr 0;rcases Nat.eq_zero_or_pos (bg xs 0)with z|z
 ·exact z
 ·have:=h2 0 z;omega
def Off(xs:Array Nat)(d:Nat):Prop:=xs[bg xs d]?≠Ya d
theorem Off.no(hr:Ris xs){d:Nat}(h:Off xs d):∀i,i<xs.size->xs.getD i 0≠d:=by
 intro i hi e;obtain⟨h1,h2,h3⟩:=La hr d;have b1:bg xs d<=i:=by
  rcases oy i (bg xs d)with z|z
  ·have:=h2 i z;omega
  ·exact z
 have b2:bg xs d=i:=by
  rcases oy (bg xs d) i with z|z
  ·have:=hr.at z hi;have:=h3 (bg xs d) ?BU ?D;omega
  ·omega
 apply h;rw[b2,YH hi];rw[ax,YH hi]at e;exact congrArg Ya e
theorem X6(h:∀i,t.slot j≠.live i):Off t.place j:=by
 intro z;apply h (bg t.place j);unfold SetTable.slot;simp only[z,beq_self_eq_true,if_true]
theorem Tt(t:vS)(p:G0):(t.advance p).dummy=p.dummy:=by
 unfold SetTable.advance;split<;>rfl
theorem Mf{t:vS}{f:Nat->Int}{h:Int}:∀(fuel:Nat) (p:G0) (j:Nat) (dm:Option Nat),(∀d,p.dummy=Ya d->Off t.place d)->se t f h fuel p=Ya (.empty j dm)->Off t.place j/\∀d,dm=Ya d->Off t.place d
 |0,p,j,dm,hp,e=>by
  unfold se at e;cases e
 |fuel+ 1,p,j,dm,hp,e=>by
  unfold se at e;cases hs:t.slot p.j with
  |empty=>
   rw[hs]at e;dsimp only at e;cases e;exact⟨X6 (λi z=>by rw[hs]at z;cases z),hp⟩
  |dummy=>
   rw[hs]at e;dsimp only at e;refine Mf fuel _ j dm (λd hd=>?_) e;rw[Tt]at hd;cases hd;exact X6 (λi z=>by rw[hs]at z;cases z)
  |live i=>
   rw[hs]at e;dsimp only at e;split at e
   ·cases e
   ·exact Mf fuel _ j dm (λd hd=>hp d (by rw[Tt]at hd;exact hd)) e
theorem agk{h:Int}(e:t.freeSlot h=Ya (sl,b)):Off t.place sl:=by
 unfold SetTable.freeSlot SetTable.probe at e;generalize hg:se t (λ_=>h+ 1) h (10*SetTable.turns t.mask) (t.probeStart h)=g at e;cases g with
 |none=>cases e
 |some m=>
  cases m with
  |candidate j i n=>cases e
  |empty j dm=>
   obtain⟨h1,h2⟩:=Mf _ _ j dm (λd hd=>by cases hd) hg;dsimp only at e;have e':=YK e;cases dm with
   |none=>
    have:j=sl:=congrArg Prod.fst e';rw[<-this];exact h1
   |some d=>
    have:d=sl:=congrArg Prod.fst e';rw[<-this];exact h2 d rfl
theorem ahH{x:Nat}(h:x∈xs.toList.take p):∃i,i<p/\i<xs.size/\xs.getD i 0=x:=by
 obtain⟨i,hi,e⟩:=qr h;rw[eA,aE]at hi;refine⟨i,by omega,by omega,?_⟩;rw[List.getElem_take,u7]at e;rw[ax,YH ?D];exact e
theorem T6{x:Nat}(h:x∈xs.toList.drop p):∃i,p<=i/\i<xs.size/\xs.getD i 0=x:=by
 obtain⟨i,hi,e⟩:=qr h;rw[ti,aE]at hi;refine⟨p+ i,by omega,by omega,?_⟩;rw[List.getElem_drop,u7]at e;rw[ax,YH ?D];exact e
theorem aiq(hr:Ris t.place)(ho:Off t.place sl):Ris (t.put sl).1.place:=by
 obtain⟨h1,h2,h3⟩:=La hr sl;show(SetTable.insertAt t.place (bg t.place sl) sl).toList.Pairwise (·<·);rw[SetTable.toList_insertAt,va];refine⟨hr.sublist (r9 _ _),?_,?_⟩
 ·rw[xb];refine⟨λx hx=>?_,hr.sublist (List.drop_sublist _ _)⟩;obtain⟨i,a,b,c⟩:=T6 hx;have q1:=h3 i a b;have q2:=ho.no hr i b;omega
 ·intro x hx y hy;obtain⟨i,a,b,c⟩:=ahH hx;have q1:=h2 i a;rcases Yz.mp hy with z|z
  ·omega
  ·obtain⟨i',a',b',c'⟩:=T6 z;have q2:=h3 i' a' b';omega
theorem Gn(t:vS)(n:Nat):Ris (t.standIn n).place:=by
 show(Array.range n).toList.Pairwise (·<·);rw[Array.toList_range];exact ka
def Tb(b:Bool)(t:vS):Prop:=Ris t.place/\t.led=b
theorem ak4(h:Tb b t)(es:Array (Int×Ye))(k:Int)(x:Ye):Tb b (layNew t es k x).2.1:=by
 unfold layNew;split
 ·rename_i sl wd e;dsimp only;unfold SetTable.orStandIn;split
  ·exact⟨aiq h.1 (agk e),h.2⟩
  ·exact⟨Gn _ _,h.2⟩
 ·exact⟨Gn _ _,h.2⟩
theorem afc{hs:Array Int}{o:Array Nat}(h:Tb b t)(e:t.relaid hs n=Ya (t',o)):Tb b t':=by
 unfold SetTable.relaid SetTable.laid at e;cases hc:SetTable.layClean (SetTable.sizeAbove n-1) hs with
 |none=>rw[hc]at e;cases e
 |some ow=>
  rw[hc]at e;have e':=YK e;have e1:=congrArg Prod.fst e';dsimp only at e1;rw[<-e1];refine⟨?_,h.2⟩;show List.Pairwise _ (DD (List.toArray _));rw[List.toList_toArray,List.map_filterMap];refine JA (R:=(·<·)) _ (λx y hxy a ha c hc=>?_) ka;simp only[Option.map_map,Option.mem_def,af]at ha hc;obtain⟨_,_,rfl⟩:=ha;obtain⟨_,_,rfl⟩:=hc;exact hxy
theorem ahL(h:Tb b t)(es:Array (Int×Ye))(n:Nat):Tb b (FD t es n).2.1:=by
 unfold FD;split
 ·rename_i t' o e;dsimp only;split
  ·exact afc h e
  ·exact⟨Gn _ _,h.2⟩
 ·exact⟨Gn _ _,h.2⟩
noncomputable abbrev byT(w:YV):Bool:=w.params.followText "set-order"
section
def Jj(prog:YI)(w:YV)(h:YT)(a:Yc)(S:Int->Bool)(n:Nat):Prop:=
 ∃o es ep t,h.get? a=Ya o/\o.ExactSet/\o.data=.set es ep t/\Kx (hX prog w) es.toList/\(∀k,S k=true↔∃e∈es.toList,(hX prog w).is k e.2=true)/\es.size<pj/\t.fits es.size=true/\es.size=n/\Tb (!byT w) t
theorem Jj.at{h':YT}(x:Jj prog w h a S n)(k:∀o,h.get? a=Ya o->h'.get? a=Ya o):Jj prog w h' a S n:=by
 obtain⟨o,es,ep,t,ho,r⟩:=x;exact⟨o,es,ep,t,k o ho,r⟩
theorem Jj.congr{S':Int->Bool}{n':Nat}(x:Jj prog w h a S n)(e:∀k,S k=S' k)(en:n=n'):Jj prog w h a S' n':=by
 have z:S=S':=funext e;rw[<-z,<-en];exact x
def Ej(prog:YI)(w:YV)(es:Array (Int×Ye))(t:vS)(S:Int->Bool)(n:Nat):Prop:=
 Kx (hX prog w) es.toList/\(∀k,S k=true↔∃e∈es.toList,(hX prog w).is k e.2=true)/\es.size<pj/\t.fits es.size=true/\es.size=n/\Tb (!byT w) t
def abo(h:YT)(a:Yc)(es:Array (Int×Ye))(t:vS):Prop:=∃o ep,h.get? a=Ya o/\o.ExactSet/\o.data=.set es ep t
theorem abo.good(r:abo h a es t)(g:Ej prog w es t S n):Jj prog w h a S n:=by
 obtain⟨o,ep,r1,r2,r3⟩:=r;exact⟨o,es,ep,t,r1,r2,r3,g⟩
theorem abo.put{Q:Unit->Yl->Prop}(r:abo s.heap a es t)(hz:es'.size<pj)(h:∀h',fm a s.heap h'->abo h' a es' t'->Q () ?AM):
  Yn ?I A (storeSet a es' t') Q E s:=by
 obtain⟨⟨c,d,b,sl⟩,ep,ho,hx,hd⟩:=r;cases hd;exact wpAny_storeSet_of ho rfl (h _ (dE ..) ⟨_,ep+ 1,eW _ ho rfl,hx,rfl⟩) (xE hz)
theorem Ej.mix(g:Ej prog w es t S n)(p:KW es'.toList es.toList)(f:t'.fits es'.size=true)(b:Tb (!byT w) t'):Ej prog w es' t' S n:=by
 obtain⟨g1,g2,g3,_,g5,_⟩:=g;have z:es'.size=es.size:=by simpa using p.length_eq
 exact⟨g1.perm p,λk=>(g2 k).trans ⟨fun⟨e,u,v⟩=>⟨e,p.mem_iff.mpr u,v⟩,fun⟨e,u,v⟩=>⟨e,p.mem_iff.mp u,v⟩⟩,z▸g3,f,z.trans g5,b⟩
theorem Ej.relaid(g:Ej prog w es t S n)(m:Nat):Ej prog w (FD t es m).1 (FD t es m).2.1 S n:=
 g.mix (relayAll_perm t es m) (relayAll_fits t es m) (ahL g.2.2.2.2.2 es m)
theorem Ej.more(g:Ej prog w es t S n)(hk:(hX prog w).is k x=true)(hx:x.scannable=true)(room:n+ 1<pj):
  Ej prog w (layNew t es ?GV x).1 (layNew t es ?GV x).2.1 (λk'=>S k'||decide (k'=k)) (n+ 1):=by
 obtain⟨g1,g2,g3,_,g5,g6⟩:=g;have p:KW _ (es.push ((hX prog w).hash k,x)).toList:=layNew_perm t es ?GV x;rw[ES]at p;have z:(layNew t es ?GV x).1.size=n+ 1:=by simpa [g5]using p.length_eq
 exact⟨(g1.push hk hx).perm p,mem_push_iff hk g2 p,z▸room,layNew_fits t es _ x,z,ak4 g6 es _ x⟩
theorem abp{Q:Unit->Yl->Prop}(q:Q () s):Yn ?I A (match b with|true=>rule "set.scan.the-table-gave-way"|false=>pure ()) Q E s:=by
 cases b
 ·exact Yp q
 ·exact F8 q
theorem aja{u:ml}{Q:Bool->Yl->Prop}(x:Jj prog w s.heap a S n)(room:n+ 1<pj)(h:∀h' b,fm a s.heap h'->Jj prog w h' a (λk'=>S k'||decide (k'=k)) (if S k then n else n+ 1)->Q b ?AM):
  Yn ?I A (IT a (.int k u) ?GV) Q E s:=by
 obtain⟨o,es,ep,t,ho,hx,hd,g⟩:=x;have g0:Ej prog w es t S n:=g;obtain⟨he,hm,hb,hf,hn,tb⟩:=g;have hk:(hX prog w).is k (.int k u)=true:=intKind_is _ _ _ _;rw[IT,setAddHashedIn];apply cE;apply Yg;apply hU ho hd hf;dsimp only;rw[byScan_of rfl hb he,if_pos rfl]
 wp_walk using wpAny_setScan_of hk ho hd hf he
 cases hr:List.findIdx? (λe=>(hX prog w).is k e.2) es.toList with
 |some j=>
  obtain⟨lt,is,_⟩:=List.findIdx?_eq_some_iff_getElem.mp hr;have sk:S k=true:=(hm k).mpr ⟨_,tq lt,is⟩
  wp_walk
  refine h s.heap false (.refl a _) (abo.good ⟨o,ep,ho,hx,hd⟩ ?_);rw[if_pos sk,show(λk'=>S k'||decide (k'=k))=S from funext λk'=>?_]
  ·exact g0
  ·by_cases e:k'=k
   ·rw[e,sk];rfl
   ·rw[decide_eq_false e,ID]
 |none=>
  have sk:¬ S k=true:=λz=>by
   obtain⟨e,u,v⟩:=(hm k).mp z;exact absurd v (by simpa using List.findIdx?_eq_none_iff.mp hr e u)
  have g1:=g0.more hk rfl room;rw[if_neg sk]at h;dsimp only;generalize layNew t es ?GV (.int k u)=L at g1⊢;obtain⟨es1,t1,wd,gv⟩:=L;refine Yg (abp ?_);dsimp only;rw[hashByValue_scannable 8 (x:=.int k u) rfl];split
  all_goals
   refine Yg (Yp ?_);rw[if_pos ?AE];refine Yg (abo.put ⟨o,ep,ho,hx,hd⟩ g1.2.2.1 λh1 s1 r1=>?_);split
   ·have g2:=g1.relaid (SetTable.grown es1.size);refine Yg (abp (Yg (abo.put (s:={s with heap:=h1}) r1 g2.2.2.1 λh2 s2 r2=>?_)))
    wp_walk
    exact h h2 true (s1.trans s2) (r2.good g2)
   ·wp_walk
    exact h h1 true s1 (r1.good g1)
theorem aaW(S I:Yc):GW prog w (bS.«set.update.loop» ⟨[.ref S,.ref I],[]⟩) λA R s=>Yn ?I A.in1 (fF (.ref I)) (λr s=>match r with
  |none=>R (.ok (.ret .none)) s
  |some v=>Yn ?I A.in1 (setAdd S v) (λ_ s=>c5 ?I A (.builtin "set.update.loop" ⟨[.ref S,.ref I],[]⟩) R s) ?CR s) ?CR s:=by
 intro A R s nx;show Yn _ _ (fF (.ref I) >>= _) _ _ s;apply Yg;refine ai nx (λr s1 h=>?_) λ_ _ z=>z.elim;rcases r with _|v
 ·wp_walk
  exact h
 ·wp_walk using ai h
  ·exact λ_ _ e=>Yp ⟨eT kq _,e⟩
  ·exact λ_ _ z=>z.elim
theorem agZ{S:Yc}{fp wr:List Yc}{P:Nat->Ye->Prop}{St:Nat->YT->Prop}(W:yy prog w A.in1 I fp wr n P St)(nS:S∉fp)(val:Nat->Int)(hv:∀i v,P i v->∃t,v=.int (val i) t)(hb:n+ 1<pj):
  ∀(k i:Nat) (s:Yl),n=i+ k->St i s.heap->Jj prog w s.heap S (λk'=>(oi val i).any (·==k')) (oi val i).length->
   (∀h' tk,(∀b o,b∉wr->b≠S->s.heap.get? b=Ya o->h'.get? b=Ya o)->Jj prog w h' S (λk'=>(oi val n).any (·==k')) (oi val n).length->R (.ok (.ret .none)) ?AG)->
   c5 ?I A (.builtin "set.update.loop" ⟨[.ref S,.ref I],[]⟩) R s:=by
 have nW:S∉wr:=λz=>nS (W.sub _ z);intro k
 induction k with
 |zero=>
  intro i s en st x fin;obtain rfl:n=i:=en;exact enter rj kq (aaW S I) (W.done s _ _ st λh tk kp=>fin h tk (λb o nb _ e=>kp b o nb e) (x.at λo e=>kp S o nW e))
 |succ k ih=>
  intro i s en st x fin;refine enter rj kq (aaW S I) (W.item i s _ _ ?D st λv h tk pv st1 kp=>?_);obtain⟨t,rfl⟩:=hv i v pv;have len:=firstMet_length_le val i;show Yn _ _ (setAdd S (.int (val i) t)) _ _ _;unfold setAdd;refine cE (Yg ((hX prog w).pyHash (k:=val i) (intKind_is _ _ _ _) (aja (s:={s with heap:=h,toks:=tk+ 1}) (x.at λo e=>kp S o nW e) ?D λh2 b sb x2=>?_)));refine ih ?DP {s with heap:=h2,toks:=tk+ 1} ?D (W.frame _ _ _ st1 λb hb o e=>(sb.2 b λz=>nS (z▸hb)).trans e) (x2.congr (λk'=>?_) ?_) λh3 tk3 k3 x3=>fin h3 tk3 (λb o nb nb' e=>k3 b o nb nb' ((sb.2 b nb').trans (kp b o nb e))) x3
  ·rw[CU,step_any]
  ·rw[CU,step_length]
theorem ajX(a:Ye)(h:Q1 (.ref s.heap.objs.size) {s with heap:=s.heap.push {cls:=.type "set",dict:=Yb,data:=.set #[] 0 (.fresh 0 0 (!byT w))}}):
  c5 ?I A (.call (.builtin "set.__new__") ⟨[.type "set",a],[]⟩) (IJ Q1 E) s:=by
 refine lj PySem.F.plain_set_new PySem.F.entry_set_new (A0 (PySem.F.newCall_set_1 a) ?_);have sub:=sub_set_self;obtain⟨hp,g,d,tk,os⟩:=s
 wp_walk using mB
 exact h
theorem aak{T newId initId:String}{args:List Ye}{Q:Ye->Yl->Prop}(ft:TypeCalled T newId initId)(ct:checkTypeCall T ⟨args,[]⟩=pure ())(new:c5 ?I A.in1 (.call (.builtin newId) ⟨.type T::args,[]⟩) (IJ Q1 E) s)(init:∀v s1,Q1 v s1->s1.TypeIs v T/\c5 ?I A.in1 (.call (.builtin initId) ⟨v::args,[]⟩) (IJ (λr s2=>r=.none/\Q v s2) E) s1):Yn ?I A (call (.type T) args) Q E s:=by
 obtain⟨_,_,_⟩:=ft.mro;have:=ft.notType;have:=ft.canCreate;have:=ft.made;have:=ft.sub;refine Ck (codeAny_of_tree (Yp ⟨Code.quiet_builtin _ ?AV,AL PySem.F.entry_type_call ?_⟩));rw[Around.under_plain (weight_type_call_type T args []) rfl]
 repeat' first|assumption|wp_step
 refine codeAny_mono new λr s1 h=>?_
 match r,h with
 | .error _,h=>exact h
 | .ok (.ret v),h=>
  obtain⟨ty,c⟩:=init v s1 h;have:=ft.init.lookup;have:=ft.init.bind v
  repeat' first|assumption|wp_step
  refine codeAny_mono c λr s2 h=>?_
  match r,h with
  | .error _,h=>exact h
  | .ok (.ret _),h=>
   obtain⟨rfl,_⟩:=h
   repeat' first|assumption|wp_step
end
theorem fZ:IQ "set_iterator" "__next__" "set_iterator.__next__":=
 .of (owner:="set_iterator") (n:="__next__") (by rw[F9,BM];kernel_rfl) ?AV ?AV ?AV (by first|exact .inl ?AV|exact .inr ?AV) (by rw[rS];kernel_rfl)
theorem vR:oa wq "set_iterator.__next__"=Ya bS.«set_iterator.__next__»:=Fu ?J
theorem xu(a:Ye):km "set_iterator.__next__" ⟨[a],[]⟩:=by unfold km;kernel_rfl
theorem M7:IQ "set_iterator" "__iter__" "set_iterator.__iter__":=
 .of (owner:="set_iterator") (n:="__iter__") (by rw[F9,BM];kernel_rfl) ?AV ?AV ?AV (by first|exact .inl ?AV|exact .inr ?AV) (by rw[rS];kernel_rfl)
theorem aaP:oa wq "set_iterator.__iter__"=Ya bS.«dict_keyiterator.__iter__»:=He (id':="dict_keyiterator.__iter__") ?J rfl ?AV ?J
theorem XQ(a:Ye):km "set_iterator.__iter__" ⟨[a],[]⟩:=by unfold km;kernel_rfl
theorem Xn:oa wq "set.__iter__"=Ya bS.«frozenset.__iter__»:=He (id':="frozenset.__iter__") ?J rfl ?AV ?J
noncomputable abbrev newS(w:YV)(h:YT):YT:=h.push {cls:=.type "set",dict:=Yb,data:=.set #[] 0 (.fresh 0 0 (!byT w))}
section
theorem aaE{l:Yc}{items:Array Ye}{Q:Ye->Yl->Prop}(hh:A.handled=Yb)(hl:s.heap.IsList l items)(hi:aT items.toList ns)(hb:items.size+ 1<pj)(h:∀h' tk,Jj prog w h' s.heap.objs.size (λk'=>(oi ?GJ items.size).any (·==k')) (oi ?GJ items.size).length->(∀b o,s.heap.get? b=Ya o->h'.get? b=Ya o)->Q (.ref s.heap.objs.size) ?AG):
  Yn ?I A (call (.type "set") [.ref l]) Q E s:=by
 obtain⟨⟨oc,od,odt,osl⟩,hol,hcl,nl,hdl⟩:=id hl;cases hcl;cases hdl;have lS:l<s.heap.objs.size:=Yu hol;refine aak DV (PySem.F.typeCall_set_1 _) (ajX (.ref l) (Q1:=λv s1=>v=.ref s.heap.objs.size/\s1={s with heap:=newS w s.heap}) ⟨rfl,rfl⟩) ?_;rintro _ _ ⟨rfl,rfl⟩;have new:(newS w s.heap).get? s.heap.objs.size=Ya {cls:=.type "set",dict:=Yb,data:=.set #[] 0 (.fresh 0 0 (!byT w))}:=Yq _ rfl;have old:(newS w s.heap).get? l=Ya {cls:=.type "list",dict:=od,data:=.seq items nl,slots:=osl}:=Yi _ hol;have size:(newS w s.heap).objs.size=s.heap.objs.size+ 1:=fw ..;have ty:cg {s with heap:=newS w s.heap} (.ref s.heap.objs.size) "set":=⟨_,new,rfl⟩;refine⟨ty,lj DV.init.plain PySem.F.entry_set_init (check_set_init_1 ty ?_)⟩;have:=PySem.F.sub_list_set;have:=PySem.F.sub_list_frozenset;have nd:(j1 "list"==j1 "dict")=false:=by decide
 have grown:∀b o,s.heap.get? b=Ya o->(newS w s.heap).get? b=Ya o:=λb o e=>Yi _ e;generalize newS w s.heap=h1 at new old size ty grown⊢;have il:h1.IsList l items:=⟨_,old,rfl,nl,rfl⟩
 wp_walk using fy il
 have nf:s.heap.objs.size∉[h1.objs.size,l]:=by
  rw[size];intro z;rcases Yz.mp z with z|z
  ·exact absurd z (YF (jI _))
  ·exact kf lS (YU.mp z)
 refine agZ (uS (by simpa using hh) _ l (by rw[size];exact YF (kP lS)) items) nf ?GJ (λi v hv=>IntsAre.int_at hi i v (by rw[Y4];exact hv)) hb items.size 0 _ ?D
  ⟨⟨_,Yq _ rfl,rfl,rfl⟩,il.push _⟩ ⟨_,#[],0,_,Yi _ new,⟨rfl,rfl,rfl⟩,rfl,λe he=>by simp at he,λk=>by simp[firstMet_zero],by decide,by rfl,rfl,⟨EO,rfl⟩⟩ λh2 tk kp x=>?_
 wp_walk
 refine⟨rfl,h h2 tk x λb o e=>?_⟩;have lb:=Yu e;refine kp b o (λz=>?_) (YF lb) (Yi _ (grown b o e));rw[YU.mp z,size]at lb;exact absurd lb (KL.mpr (gx _))
end
section
theorem Jg{α:Type}:∀{xs:List α} {i:Nat} (h:i<xs.length),(xs[i]::xs.eraseIdx i).Perm xs
 |x::xs,0,_=>.refl _
 |x::xs,i+ 1,h=>(List.Perm.swap x (xs[i]'(Bz h)) _).trans ((Jg (xs:=xs) (i:=i) (Bz h)).cons x)
theorem aeJ{src:Source}{Q:Nat->Yl->Prop}(hn:n≠0)(h:∀i d,i<n->Q i {s with drawn:=d}):Yn M A (choose src n) Q E s:=fun Γ p _=>by
 unfold choose;rw[Sem.wp_choose];exact⟨hn,h _ _ (GA _ (Nat.pos_of_ne_zero hn))⟩
theorem acX{α:Type}{M:Model}:∀(n:Nat) (xs:List α) (s:Yl) (Q:List α->Yl->Prop),xs.length=n->(∀ys d,ys.Perm xs->Q ys {s with drawn:=d})->Yn M A (HM n xs) Q E s
 |0,xs,s,Q,hl,h=>by
  have e:xs=[]:=df hl;subst e;unfold HM;exact Yp (h [] s.drawn .nil)
 |n+ 1,[],s,Q,hl,h=>by cases hl
 |n+ 1,x::xs,s,Q,hl,h=>by
  unfold HM;refine Yg (aeJ ?N λi d hi=>?_);rw[Yv hi];dsimp only;refine Yg (acX n _ _ _ (by rw[xo hi,hl];rfl) λys d' pm=>?_);exact Yp (h _ d' ((pm.cons _).trans (Jg hi)))
theorem ad0{α:Type}(f:Nat->Nat):∀(n k:Nat) (xs:List α) (out:Array α),xs.length=n->(pickOrder.go f n k xs out).toList.Perm (out.toList++xs)
 |0,k,xs,out,hl=>by
  have e:xs=[]:=df hl;subst e;unfold pickOrder.go;rw[dA]
 |n+ 1,k,xs,out,hl=>by
  unfold pickOrder.go;have hi:f k%xs.length<xs.length:=GA _ ?D;rw[Yv hi];dsimp only;refine(ad0 f n (k+ 1) _ _ (by rw[xo hi,hl];rfl)).trans ?_;rw[ES,kN];exact List.Perm.append_left _ (Jg hi)
theorem ae1{α:Type}(f:Nat->Nat)(xs:Array α):(tN f xs).toList.Perm xs.toList:=by
 have:=ad0 f xs.size 0 xs.toList #[] ?N;simpa [tN]using this
end
section
noncomputable def Ov(first:Ye)(i:Nat)(a:Yc)(n ep:Nat):Y6:={cls:=.type "set_iterator",dict:=Yb,data:=.fields #[first,.int i 0,.ref a,.int n 0,.int ep 0],slots:=#[]}
theorem Ja(h:YT)(hI:h.get? I=Ya (Ov first i a n ep))(k:Nat)(x:Ye):(h.update I (sP (·.setIfInBounds k x))).get? I=Ya {cls:=.type "set_iterator",dict:=Yb,data:=.fields ((#[first,.int i 0,.ref a,.int n 0,.int ep 0]:Array Ye).setIfInBounds k x),slots:=#[]}:=
 eW _ hI rfl
theorem jV(hI:s.heap.get? I=Ya (Ov first i a es.size ep)):s.TypeIs (.ref I) "set_iterator":=⟨_,hI,rfl⟩
theorem Kf{sl:Int}{nx:Nat}(hI:s.heap.get? I=Ya ?G1)(ho:s.heap.get? a=Ya o)(hd:o.data=.set es ep t)(hf:t.fits es.size=true)(hn:∀(A:Y7) (E:Ye->Yl->Prop) (Q':Option (Ye×Nat)->Yl->Prop),Q' (Ya (x,nx)) s->Yn ?I A (vT a sl.toNat i ep) Q' E s)(h:∀h',h'.get? I=Ya (Ov (.int nx 0) ?DP a es.size ep)->fm I s.heap h'->Q (Ya x) ?AM):Yn ?I A (fF (.ref I)) Q E s:=by
 unfold fF;refine Yg (sQ (js (name:=YL "__next__") (jV hI) fZ (iF fZ (jV hI) vR ?_ (xu _))));unfold bS.«set_iterator.__next__»;refine Yg (Yp (Yg (wa hI rfl ?_)));show Yn _ _ (CD a >>= _) _ _ _;refine Yg (mT ho hd hf ?_);show Yn _ _ ?BP _ _ _;rw[if_neg ?N];show Yn _ _ (vT a sl.toNat ((i:Int)).toNat ((ep:Int)).toNat >>= _) _ _ _;rw[Yy,Yy];refine Yg (hn _ _ _ ?_);show Yn _ _ (CF (.ref I) 0 (rawInt nx) >>= _) _ _ _;refine Yg (oz hI rfl ?N ?_);have h1:=Ja s.heap hI 0 (rawInt nx);refine Yg (oz (s:={s with heap:=s.heap.update I (sP (·.setIfInBounds 0 (rawInt nx)))}) h1 rfl ?N ?_);refine Yp ⟨_,rfl,Yp (h _ ?_ ((dE ..).trans (dE ..)))⟩;exact eW _ h1 rfl
theorem W8{Q:vk->Yl->Prop}(hh:A.handled=Yb)(h:∀h' e,?A2->(∃o,h'.get? e=Ya o/\o.cls=.type "StopIteration")->E (.ref e) ?AM):
  Yn M A (newExc (.type "StopIteration") [] >>= λe=>FE e) Q E s:=by
 refine Yg ?_;simp only[newExc,newTuple];refine Yg (eL ?_ (by size_fits));refine Yg (m:=HE _ _) (A0 (a:=iS) (by first|rfl|(simp only[HE];rfl)) ?_);refine eL ?_ (by size_fits);refine wpAny_raiseNew_none hh (h _ _ (λb o e=>Yi _ (Yi _ e)) ⟨_,Yq _ rfl,rfl⟩)
theorem J7{sl:Int}(hh:A.handled=Yb)(hI:s.heap.get? I=Ya ?G1)(ho:s.heap.get? a=Ya o)(hd:o.data=.set es ep t)(hf:t.fits es.size=true)(hn:∀(A:Y7) (E:Ye->Yl->Prop) (Q':Option (Ye×Nat)->Yl->Prop),Q' Yb s->Yn ?I A (vT a sl.toNat i ep) Q' E s)(h:∀h',(∀b o,b≠I->s.heap.get? b=Ya o->h'.get? b=Ya o)->Q Yb ?AM):Yn ?I A (fF (.ref I)) Q E s:=by
 unfold fF;refine Yg (sQ (js (name:=YL "__next__") (jV hI) fZ (iF fZ (jV hI) vR ?_ (xu _))));unfold bS.«set_iterator.__next__»;refine Yg (Yp (Yg (wa hI rfl ?_)));show Yn _ _ (CD a >>= _) _ _ _;refine Yg (mT ho hd hf ?_);show Yn _ _ ?BP _ _ _;rw[if_neg ?N];show Yn _ _ (vT a sl.toNat ((i:Int)).toNat ((ep:Int)).toNat >>= _) _ _ _;rw[Yy,Yy];refine Yg (hn _ _ _ ?_);show Yn _ _ (CF (.ref I) 2 .none >>= _) _ _ _;refine Yg (oz hI rfl ?N ?_);refine W8 (A:=A.in1) hh λh' e kp zz=>?_;obtain⟨oe,q1,q2⟩:=zz;refine Yg (zo (T:="StopIteration") (b:=true) ⟨oe,q1,q2⟩ HG ?_);exact Yp (h h' λb ob nb e=>kp b ob ((bo _ _ (Ne.symm nb)).trans e))
theorem Wx{k:Nat}{hk:Int}(hI:s.heap.get? I=Ya (Ov (.ref tp) i a es.size ep))(ho:s.heap.get? a=Ya o)(hd:o.data=.set es ep t)(hf:t.fits es.size=true)(ht:s.heap.get? tp=Ya {cls:=.type "tuple",dict:=Yb,data:=.seq (ps.map fun(i:Nat)=>rawInt i).toArray c,slots:=#[]})(hp:ps[i]?=Ya k)(hx:es[k]?=Ya (hk,x))(h:∀h',h'.get? I=Ya (Ov (.ref tp) ?DP a es.size ep)->fm I s.heap h'->Q (Ya x) ?AM):Yn ?I A (fF (.ref I)) Q E s:=by
 unfold fF;refine Yg (sQ (js (name:=YL "__next__") (jV hI) fZ (iF fZ (jV hI) vR ?_ (xu _))));unfold bS.«set_iterator.__next__»;refine Yg (Yp (Yg (wa hI rfl ?_)));show Yn _ _ (CD a >>= _) _ _ _;refine Yg (mT ho hd hf ?_);show Yn _ _ ?BP _ _ _;rw[if_neg ?N];show Yn _ _ (AK (.ref tp) >>= _) _ _ _;refine Yg (rL ht rfl ?_);have e1:((ps.map fun(i:Nat)=>rawInt i).toArray)[((i:Nat):Int).toNat]?=Ya (.int k 0):=by
  rw[Yy,BN,Yw,hp];rfl
 dsimp only;rw[e1];show Yn _ _ (IU a ((k:Nat):Int).toNat ((ep:Nat):Int).toNat >>= _) _ _ _;rw[Yy,Yy];unfold IU;refine Yg (Yg (hU ho hd hf ?_));show Yn _ _ (if(ep !=ep)=true then _ else _) _ _ _;rw[if_neg ?N];refine Yg (Yp ?_);rw[hx];refine Yp ?_;show Yn _ _ (CF (.ref I) 1 (rawInt ((i:Int)+ 1)) >>= _) _ _ _;refine Yg (oz hI rfl ?N (Yp ⟨_,rfl,Yp (h _ ?_ (dE ..))⟩));exact Ja s.heap hI 1 (rawInt ((i:Int)+ 1))
theorem V8(hh:A.handled=Yb)(hI:s.heap.get? I=Ya (Ov (.ref tp) i a es.size ep))(ho:s.heap.get? a=Ya o)(hd:o.data=.set es ep t)(hf:t.fits es.size=true)(ht:s.heap.get? tp=Ya {cls:=.type "tuple",dict:=Yb,data:=.seq (ps.map fun(i:Nat)=>rawInt i).toArray c,slots:=#[]})(hp:ps[i]?=Yb)(h:∀h',(∀b o,b≠I->s.heap.get? b=Ya o->h'.get? b=Ya o)->Q Yb ?AM):Yn ?I A (fF (.ref I)) Q E s:=by
 unfold fF;refine Yg (sQ (js (name:=YL "__next__") (jV hI) fZ (iF fZ (jV hI) vR ?_ (xu _))));unfold bS.«set_iterator.__next__»;refine Yg (Yp (Yg (wa hI rfl ?_)));show Yn _ _ (CD a >>= _) _ _ _;refine Yg (mT ho hd hf ?_);show Yn _ _ ?BP _ _ _;rw[if_neg ?N];show Yn _ _ (AK (.ref tp) >>= _) _ _ _;refine Yg (rL ht rfl ?_);have e1:((ps.map fun(i:Nat)=>rawInt i).toArray)[((i:Nat):Int).toNat]?=none:=by
  rw[Yy,BN,Yw,hp];rfl
 dsimp only;rw[e1];show Yn _ _ (CF (.ref I) 0 (rawInt 0) >>= _) _ _ _;refine Yg (oz hI rfl ?N ?_);have h1:=Ja s.heap hI 0 (rawInt 0);refine Yg (oz (s:={s with heap:=s.heap.update I (sP (·.setIfInBounds 0 (rawInt 0)))}) h1 rfl ?N ?_);refine W8 (A:=A.in1) hh λh' e kp zz=>?_;obtain⟨oe,q1,q2⟩:=zz;refine Yg (zo (T:="StopIteration") (b:=true) ⟨oe,q1,q2⟩ HG ?_);exact Yp (h h' λb ob nb e=>kp b ob ((bo _ _ (Ne.symm nb)).trans ((bo _ _ (Ne.symm nb)).trans e)))
theorem Uq{Q:Option (Ye×Nat)->Yl->Prop}(b:byT w=true)(ho:s.heap.get? a=Ya o)(hd:o.data=.set es ep t)(hf:t.fits es.size=true)(h:Q (((tN ?EA es)[i]?).map λe=>(e.2,sl)) s):Yn ?I A (vT a sl i ep) Q E s:=by
 have hb:w.params.followText "set-order"=true:=b;unfold vT;refine Yg (hU ho hd hf (Yg (Yg (mB (Yp ?_)))));show Yn _ _ (if w.params.followText "set-order"=true then _ else _) _ _ _;rw[hb,if_pos rfl];show Yn _ _ (if(ep !=ep)=true then _ else _) _ _ _;rw[if_neg ?N];refine Yg ?_;unfold setWalk;refine Yg (hU ho hd hf (Yg (Yg (mB (Yp ?_)))));show Yn _ _ (if w.params.followText "set-order"=true then _ else _) _ _ _;rw[hb,if_pos rfl];exact Yg (mB (Yp (Yp h)))
theorem Xa{Q:Option (Ye×Nat)->Yl->Prop}(b:byT w=false)(d:(!t.plain&&decide (es.size>1))=false)(hl:t.led=true)(ho:s.heap.get? a=Ya o)(hd:o.data=.set es ep t)(hf:t.fits es.size=true)(h:Q (match es[bg t.place sl]?,t.place[bg t.place sl]? with|some (_,x),Ya j=>Ya (x,j+ 1)|_,_=>Yb) s):Yn ?I A (vT a sl i ep) Q E s:=by
 have hb:w.params.followText "set-order"=false:=b;unfold vT;refine Yg (hU ho hd hf (Yg (Yg (mB (Yp ?_)))));show Yn _ _ (if w.params.followText "set-order"=true then _ else _) _ _ _;rw[hb,if_neg YN];refine Yg (Yp ?_);show Yn _ _ (if(!t.plain&&decide (es.size>1))=true then _ else _) _ _ _;rw[d,if_neg YN];refine Yg ?_;show Yn _ _ (if(!t.led&& !es.isEmpty)=true then _ else _) _ _ _;rw[hl];show Yn _ _ (if(false&& !es.isEmpty)=true then _ else _) _ _ _;rw[om,if_neg YN];exact Yp (Yp h)
end
section
theorem Qw{Q:Ye->Yl->Prop}(hI:s.heap.get? I=Ya (Ov first i a es.size ep))(h:Q (.ref I) s):Yn ?I A (uj (.ref I)) Q E s:=by
 refine sf (jV hI) M7 (iF M7 (jV hI) aaP ?_ (XQ _));show Yn _ _ (ret (.ref I)) _ _ s;exact Yp ⟨_,rfl,"set_iterator",_,jV hI,fZ.lookup,h⟩
theorem afr(hh:A.handled=Yb)(b:byT w=true)(hd:o.data=.set es ep t)(hf:t.fits es.size=true)(ne:a≠I):
  yy prog w A I [I,a] [I] ((tN ?EA es).toList.map (·.2)).length (λi v=>((tN ?EA es).toList.map (·.2))[i]?=Ya v)
   (λi h=>(∃sl:Nat,h.get? I=Ya ?G1)/\h.get? a=Ya o) where
 sub:=λb hb=>YU.mp hb▸Yf
 frame:=λi h h' st hk=>⟨let ⟨sl,e⟩:=st.1;⟨sl,hk I ?N _ e⟩,hk a ?N _ st.2⟩
 item:=λi s _ _ hi st hQ=>by
  obtain⟨⟨sl,hI⟩,ho⟩:=st;have hi':i<(tN ?EA es).size:=by simpa using hi
  refine Kf (x:=((tN ?EA es)[i]).2) (nx:=sl) hI ho hd hf (λA E Q' q=>Uq b ho hd hf ?_) λh' e sb=>hQ _ h' s.toks ?_ ⟨⟨sl,e⟩,(sb.2 a ne).trans ho⟩ λc oc nc ec=>(sb.2 c ?E5).trans ec
  ·rw[YH hi'];exact q
  ·rw[Yw,Y4,YH hi'];rfl
 done:=λs Q E st hQ=>by
  obtain⟨⟨sl,hI⟩,ho⟩:=st;refine J7 hh hI ho hd hf (λA E Q' q=>Uq b ho hd hf ?_) λh' kp=>hQ h' s.toks λc oc nc ec=>kp c oc ?E5 ec;rw[eB ?N];exact q
 self:=λi s Q E st hQ=>let ⟨⟨_,hI⟩,_⟩:=st;Qw hI hQ
theorem agc(hh:A.handled=Yb)(b:byT w=false)(d:(!t.plain&&decide (es.size>1))=false)(tb:Tb (!byT w) t)(hd:o.data=.set es ep t)(hf:t.fits es.size=true)(ne:a≠I):
  yy prog w A I [I,a] [I] (es.toList.map (·.2)).length (λi v=>(es.toList.map (·.2))[i]?=Ya v)
   (λi h=>(∃sl:Nat,bg t.place sl=i/\h.get? I=Ya ?G1)/\h.get? a=Ya o) where
 sub:=λb hb=>YU.mp hb▸Yf
 frame:=λi h h' st hk=>⟨let ⟨sl,e1,e⟩:=st.1;⟨sl,e1,hk I ?N _ e⟩,hk a ?N _ st.2⟩
 item:=λi s _ _ hi st hQ=>by
  obtain⟨⟨sl,e1,hI⟩,ho⟩:=st;have hi':i<es.size:=by simpa using hi
  have hl:t.led=true:=by rw[tb.2,b];rfl
  have hp:t.place.size=es.size:=by
   simp only[SetTable.fits,aw,beq_iff_eq,decide_eq_true_eq]at hf;exact hf.1
  have hip:i<t.place.size:=by omega
  refine Kf (x:=(es[i]).2) (nx:=t.place.getD i 0+ 1) hI ho hd hf (λA E Q' q=>Xa b d hl ho hd hf ?_) λh' e sb=>hQ _ h' s.toks ?_ ⟨⟨t.place.getD i 0+ 1,ab6 tb.1 hip,e⟩,(sb.2 a ne).trans ho⟩ λc oc nc ec=>(sb.2 c ?E5).trans ec
  ·rw[Yy,e1,YH hi',YH hip];rw[ax,YH hip]at q;exact q
  ·rw[Yw,Y4,YH hi'];rfl
 done:=λs Q E st hQ=>by
  obtain⟨⟨sl,e1,hI⟩,ho⟩:=st;have hl:t.led=true:=by rw[tb.2,b];rfl
  refine J7 hh hI ho hd hf (λA E Q' q=>Xa b d hl ho hd hf ?_) λh' kp=>hQ h' s.toks λc oc nc ec=>kp c oc ?E5 ec;rw[Yy,e1,eB ?N];exact q
 self:=λi s Q E st hQ=>let ⟨⟨_,_,hI⟩,_⟩:=st;Qw hI hQ
theorem acd(hh:A.handled=Yb)(pm:ps.Perm (cq es.size))(hd:o.data=.set es ep t)(hf:t.fits es.size=true)(ne:a≠I)(nt:tp≠I):
  yy prog w A I [I,a,tp] [I] (ps.map λi=>(es.getD i (0,.none)).2).length (λi v=>(ps.map λi=>(es.getD i (0,.none)).2)[i]?=Ya v)
   (λi h=>h.get? I=Ya (Ov (.ref tp) i a es.size ep)/\h.get? a=Ya o/\h.get? tp=Ya {cls:=.type "tuple",dict:=Yb,data:=.seq (ps.map fun(i:Nat)=>rawInt i).toArray c,slots:=#[]}) where
 sub:=λb hb=>YU.mp hb▸Yf
 frame:=λi h h' st hk=>⟨hk I ?N _ st.1,hk a ?N _ st.2.1,hk tp ?N _ st.2.2⟩
 item:=λi s _ _ hi st hQ=>by
  obtain⟨hI,ho,ht⟩:=st;rw[Yk]at hi;have hm:ps[i]<es.size:=fv.mp (pm.mem_iff.mp (tq hi));refine Wx (x:=(es[ps[i]]).2) (hk:=(es[ps[i]]).1) hI ho hd hf ht (Yv hi) (YH hm) λh' e sb=>hQ _ h' s.toks ?_ ⟨e,(sb.2 a ne).trans ho,(sb.2 tp nt).trans ht⟩ λc oc nc ec=>(sb.2 c ?E5).trans ec;rw[Yw,Yv hi,GG,ax,YH hm];rfl
 done:=λs Q E st hQ=>by
  obtain⟨hI,ho,ht⟩:=st;exact V8 hh hI ho hd hf ht (gc (by rw[Yk];exact Yo _)) λh' kp=>hQ h' s.toks λc oc nc ec=>kp c oc ?E5 ec
 self:=λi s Q E st hQ=>Qw st.1 hQ
theorem aco(es:Array (Int×Ye)):(cq es.size).map (λi=>(es.getD i (0,iS)).2)=es.toList.map (·.2):=by
 apply sg;intro i;rw[Yw,Yw,Y4 (xs:=es)];by_cases h:i<es.size
 ·rw[Yv (by rw[cK];exact h),List.getElem_range,GG,ax,YH h];rfl
 ·rw[gc (by rw[cK];omega),eB ?D];rfl
theorem ahM(hh:A.handled=Yb)(ho:s.heap.get? a=Ya o)(hx:o.ExactSet)(hd:o.data=.set es ep t)(hf:t.fits es.size=true)(hb:es.size<pj)(tb:Tb (!byT w) t){Q:Ye->Yl->Prop}
  (h:∀(h':YT) (d':IG) (I:Yc) (fp:List Yc) (vs:List Ye) (St:Nat->YT->Prop),?A2->s.heap.objs.size<=I->(∀b∈fp,b=a\/s.heap.objs.size<=b)->vs.Perm (es.toList.map (·.2))->
   (∀A:Y7,A.handled=Yb->yy prog w A I fp [I] vs.length (λi v=>vs[i]?=Ya v) St)->St 0 h'->Q (.ref I) {s with heap:=h',drawn:=d'}):Yn ?I A (uj (.ref a)) Q E s:=by
 have hT:s.TypeIs (.ref a) "set":=⟨o,ho,hx.1⟩;have la:=Yu ho;refine sf hT BO (iF BO hT Xn ?_ (PySem.F.args_set_iter_1 _));unfold bS.«frozenset.__iter__» Builtin.Frozenset.slot0 Builtin.Frozenset.addrOf Builtin.Frozenset.sizeOf;refine Yg (Yg (Yp (Yp (Yg (Yg (mT ho hd hf (Yp ?_)))))));refine Yg ?_;unfold setDrawn;refine Yg (hU ho hd hf (Yg (Yg (mB (Yp (Yp ?_))))));show Yn _ _ (if(!byT w&&(!t.plain&&decide (es.size>1)))=true then _ else _) _ _ _;cases hc:(!byT w&&(!t.plain&&decide (es.size>1)))with
 |false=>
  rw[if_neg YN];refine Yg (Yp (Yg ?_));unfold setEpoch;refine Yg (hU ho hd hf (Yp ?_));refine Yg (eL (Yp ⟨_,rfl,"set_iterator",_,⟨_,Yq _ rfl,rfl⟩,fZ.lookup,?_⟩));have nI:a≠s.heap.objs.size:=YF la;have fpok:∀b∈[s.heap.objs.size,a],b=a\/s.heap.objs.size<=b:=λb hb=>by
   simp only[Yz,fi,or_false]at hb;rcases hb with z|z
   ·exact .inr (kg z.symm)
   ·exact .inl z
  cases hT:byT w with
  |true=>
   refine h _ s.drawn s.heap.objs.size [s.heap.objs.size,a] _ _ (λb o e=>Yi _ e) ?BU fpok ((ae1 ?EA es).map _) (λA hA=>afr hA hT hd hf nI) ⟨⟨0,Yq _ rfl⟩,Yi _ ho⟩
  |false=>
   have hc':(!t.plain&&decide (es.size>1))=false:=by rw[hT]at hc;exact hc
   refine h _ s.drawn s.heap.objs.size [s.heap.objs.size,a] _ _ (λb o e=>Yi _ e) ?BU fpok (.refl _) (λA hA=>agc hA hT hc' tb hd hf nI) ⟨⟨0,ace tb.1,Yq _ rfl⟩,Yi _ ho⟩
 |true=>
  rw[if_pos rfl];refine Yg (acX es.size (cq es.size) s _ (by rw[cK]) λps d' pm=>Yg ?_);refine BP (Yg ?_) ?_
  ·unfold setEpoch;have ho':(s.heap.push {cls:=.type "tuple",data:=.seq (ps.map fun(i:Nat)=>rawInt i).toArray}).get? a=Ya o:=Yi _ ho;refine Yg (hU ho' hd hf (Yp ?_));refine Yg (eL (Yp ⟨_,rfl,"set_iterator",_,⟨_,Yq _ rfl,rfl⟩,fZ.lookup,?_⟩));have sz:(s.heap.push {cls:=.type "tuple",data:=.seq (ps.map fun(i:Nat)=>rawInt i).toArray}).objs.size=s.heap.objs.size+ 1:=fw ..;refine h _ d' (s.heap.push {cls:=.type "tuple",data:=.seq (ps.map fun(i:Nat)=>rawInt i).toArray}).objs.size [(s.heap.push {cls:=.type "tuple",data:=.seq (ps.map fun(i:Nat)=>rawInt i).toArray}).objs.size,a,s.heap.objs.size] (ps.map λi=>(es.getD i (0,.none)).2) _
    (λb o e=>Yi _ (Yi _ e)) (by rw[sz];exact gx _) (λb hb=>?_) ?_ (λA hA=>acd (c:=0) hA pm hd hf (by rw[sz];exact YF (kP la)) (by rw[sz];exact YF (jI _)))
    ⟨Yq _ rfl,Yi _ ho',Yi _ (Yq _ rfl)⟩
   ·simp only[Yz,fi,or_false]at hb;rcases hb with z|z|z
    ·exact .inr (by rw[z,sz];exact gx _)
    ·exact .inl z
    ·exact .inr (kg z.symm)
   ·exact(pm.map _).trans (by rw[aco])
  ·rw[Yk,pm.length_eq,cK];exact xE hb
end
theorem Jm{α:Type}[DecidableEq α]:∀{l m:List α},l.Nodup->(∀x∈l,x∈m)->m.length<=l.length->m.Perm l
 |[],m,_,_,h=>by
  have e:m=[]:=df (Nat.le_zero.mp h);rw[e]
 |x::l,m,nd,sub,h=>by
  rw[d5]at nd;have hx:=sub x Yf;have pm:=List.perm_cons_erase hx;refine pm.trans (List.Perm.cons x (Jm nd.2 (λy hy=>?_) ?_))
  ·have hy':=sub y (Yh _ hy);exact(List.mem_erase_of_ne (show y≠x from λz=>nd.1 (z▸hy))).mpr hy'
  ·have:=pm.length_eq;rw[Y8]at this h;omega
theorem NB(val:Nat->Int):∀i,(oi val i).Nodup
 |0=>GS
 |i+ 1=>by
  rw[CU];unfold step_dedup;have ih:=NB val i;by_cases h:List.any (oi val i) (·==val i)
  ·rw[if_pos h];exact ih
  ·rw[if_neg h,i9];refine⟨ih,by simp,λx hx y hy e=>h ?_⟩;rw[eD];refine⟨x,hx,?_⟩;have e2:=YU.mp hy;rw[e,e2,beq_self_eq_true]
theorem Wq(val:Nat->Int)(i:Nat)(k:Int):k∈oi val i↔∃j,j<i/\val j=k:=by
 have h:=firstMet_any val i k;rw[dS,eD,eD]at h;constructor
 ·intro z;obtain⟨x,hx,e⟩:=h.mp ⟨k,z,by simp⟩;obtain⟨j,hj,ej⟩:=YD.mp hx;exact⟨j,fv.mp hj,by rw[ej];simpa using e⟩
 ·rintro⟨j,hj,e⟩;obtain⟨x,hx,e2⟩:=h.mpr ⟨val j,YD.mpr ⟨j,fv.mpr hj,rfl⟩,by simp[e]⟩;have:x=k:=by simpa using e2
  rw[<-this];exact hx
section
theorem Qo:∀{l:List (Int×Ye)},Kx (hX prog w) l->∃ns,aT (l.map (·.2)) ns/\∀k,k∈ns↔∃e∈l,(hX prog w).is k e.2=true
 |[],_=>⟨[],.nil,λk=>by simp⟩
 |e::l,h=>by
  obtain⟨ns,h1,h2⟩:=Qo h.tail;obtain⟨⟨k,hk,_⟩,_⟩:=h.head;obtain⟨t,et⟩:=EF (k:=k) (v:=e.2) hk;refine⟨k::ns,?_,λj=>?_⟩
  ·rw[YS,et];exact .cons k t h1
  ·rw[Yz,h2 j];constructor
   ·rintro(z|⟨e',he,q⟩)
    ·exact⟨e,Yf,by rw[z];exact hk⟩
    ·exact⟨e',Yh _ he,q⟩
   ·rintro⟨e',he,q⟩;rcases Yz.mp he with z|z
    ·rw[z]at q;exact .inl ((hX prog w).inj e.2 j k q hk)
    ·exact .inr ⟨e',z,q⟩
theorem afl{vs us:List Ye}(pm:vs.Perm us)(h:aT us ns):∃ms,aT vs ms/\ms.Perm ns:=by
 induction pm generalizing ns with
 |nil=>exact⟨ns,h,.refl _⟩
 |cons x p ih=>
  cases h with
  |cons n t hr=>
   obtain⟨ms,h1,h2⟩:=ih hr;exact⟨n::ms,.cons n t h1,h2.cons n⟩
 |swap x y l=>
  cases h with
  |cons n t hr=>
   cases hr with
   |cons m u hr=>exact⟨_,.cons m u (.cons n t hr),List.Perm.swap ..⟩
 |trans p q ih1 ih2=>
  obtain⟨ms,h1,h2⟩:=ih2 h;obtain⟨ks,h3,h4⟩:=ih1 h1;exact⟨ks,h3,h4.trans h2⟩
theorem agw{Q:Bool->Yl->Prop}(hT:s.TypeIs (.ref a) "set")(h:Q false s):Yn ?I A (HU (.ref a)) Q E s:=by
 show Yn _ _ (specialOf (.ref a) "__len__" >>= _) _ _ s;refine Yg (AJ hT PySem.F.slot_set_len.lookup ?_);generalize hid:("set.__len__":String)=id0
 wp_delta
 rw[show splitId id0=Ya ("set","__len__")from by subst hid;decide +kernel];subst hid;refine Yg (zo (T:="set") (b:=true) hT (by rw[rS];kernel_rfl) ?_);refine AO (λz=>absurd z ?B) (λ_=>?_);refine AO (λ_=>?_) (λz=>absurd ?AV z);exact Yg (DO hT (Yp h))
theorem ahk{id:String}{B:bS}{args:Args}(he:oa wq id=Ya B)(hp:BI id=true)(h:Yn ?I A.in1 (B args) (λf s1=>match f with| .done f=>R (.ok f) s1| .again c=>c.quiet=true/\c5 ?I A c R s1) (λe s1=>R (.error e) s1) s):c5 ?I A (.builtin id args) R s:=
 AL he (by rw[Around.under_plainId hp];exact h)
theorem Xi{R:List Ye->Yl->Prop}(hh:A.handled=Yb)(x:Jj prog w s.heap a S n)(h:∀(h':YT) (d':IG) (tk:Nat) (vs:List Ye) (ns:List Int),?A2->aT vs ns->ns.length=n->(∀k,k∈ns↔S k=true)->R vs {s with heap:=h',drawn:=d',toks:=tk}):
  Yn ?I A (Kt (.ref a)) R E s:=by
 obtain⟨o,es,ep,t,ho,hx,hd,he,hm,hb,hf,hn,tb⟩:=x;have la:=Yu ho;unfold Kt;refine Yg (wpAny_runValue (ahk entry_proto_collect' PySem.F.plain_proto_collect (Yg (eL (Yp ⟨eT AB _,ahk entry_list_iadd' AB ?_⟩)))));have hS1:(s.heap.push {cls:=.type "list",data:=.seq ([]:List Ye).toArray}).get? s.heap.objs.size=Ya {cls:=.type "list",data:=.seq #[]}:=Yq _ rfl;have ho1:(s.heap.push {cls:=.type "list",data:=.seq ([]:List Ye).toArray}).get? a=Ya o:=Yi _ ho;have sz1:(s.heap.push {cls:=.type "list",data:=.seq ([]:List Ye).toArray}).objs.size=s.heap.objs.size+ 1:=fw ..;have kp1:∀b ob,s.heap.get? b=Ya ob->(s.heap.push {cls:=.type "list",data:=.seq ([]:List Ye).toArray}).get? b=Ya ob:=λb ob e=>Yi _ e;show Yn _ A.in1 (HV (.ref s.heap.objs.size) (.ref a) (.ref s.heap.objs.size)) _ _ _;generalize s.heap.push {cls:=.type "list",data:=.seq ([]:List Ye).toArray}=H1 at hS1 ho1 sz1 kp1⊢;show Yn _ _ (typeOf (.ref a) >>= _) _ _ _;refine Yg (DO (T:="set") ⟨o,ho1,hx.1⟩ ?_);have n1:zt (.ref s.heap.objs.size) (.ref a)=false:=by simp[zt,kf la]
 have n2:(j1 "set"==j1 "list")=false:=by decide
 have n3:(j1 "set"==j1 "tuple")=false:=by decide
 simp only[n1,n2,n3,ID,ri,if_false];refine Yg (ahM (s:={s with heap:=H1}) (A:=A.in1) hh ho1 hx hd hf hb tb λh2 d2 I fp vs St k2 lI fpk pm W st=>?_);refine Yg (cE (agw (s:={s with heap:=h2,drawn:=d2}) ⟨o,k2 _ _ ho1,hx.1⟩ ?_));have hS2:=k2 _ _ hS1;have nf:s.heap.objs.size∉fp:=λz=>by
  rcases fpk _ z with q|q
  ·exact absurd la (by rw[<-q];exact Y2 _)
  ·rw[sz1]at q;exact absurd q (Nat.not_succ_le_self _)
 have hlen:vs.length=n:=by rw[pm.length_eq,Yk,aE,hn]
 have nz:vs.length<=YB:=by rw[hlen,<-hn];exact xE hb
 refine AO (λ_=>?_) (λz=>absurd ?B z);refine Yg (F8 (Yg ?_));show Yn _ _ (updateSeq s.heap.objs.size (·.push .none) >>= λ_=>updateSeq s.heap.objs.size (·.pop)) _ _ _;refine Yg (i6 hS2 rfl ?_);have hS3:=eW (eM (·.push iS)) hS2 rfl;refine i6 (hz:=by seq_fits) hS3 rfl ?_;have hS4:=eW (eM (·.pop)) hS3 rfl;have oth:∀b ob,b≠s.heap.objs.size->h2.get? b=Ya ob->((h2.update s.heap.objs.size (eM (·.push iS))).update s.heap.objs.size (eM (·.pop))).get? b=Ya ob:=λb ob nb e=>(bo _ _ (Ne.symm nb)).trans ((bo _ _ (Ne.symm nb)).trans e);refine Yp ⟨eT PySem.F.plain_extend_loop _,codeAny_extend_loopS (W A.in1 hh).toS nz _ nf _ vs.length 0 _ #[] _ rfl (YX _) ((W A.in1 hh).frame 0 _ _ st λb hb ob e=>oth b ob (λz=>nf (z▸hb)) e) hS4 (ItemsOf.nil _) λs' acc c' hmv hS' hacc=>?_⟩;apply Yg (wpAny_load hS' _);have ea:acc.toList=vs:=by
  apply sg;intro j;rw[Y4];by_cases hj:j<acc.size
  ·rw[YH hj];exact(hacc.2 j _ (YH hj)).symm
  ·rw[eB ?D,gc (by rw[<-hacc.1];omega)]
 obtain⟨ns0,q1,q2⟩:=Qo he;obtain⟨ns,q3,q4⟩:=afl pm q1;have ln:ns.length=n:=by rw[<-q3.length,hlen]
 have:=h s'.heap s'.drawn s'.toks vs ns (λb ob e=>hmv.heap b ob (λz=>?_) (oth b ob (YF (Yu e)) (k2 b ob (kp1 b ob e)))) q3 ln (λk=>by rw[q4.mem_iff,q2 k,hm k])
 ·obtain⟨h',g',d',t',os'⟩:=s';have eg:g'=s.gens:=hmv.gens;have eo:os'=s.os:=hmv.os;subst eg eo;show Yn _ A (pure acc.toList) _ _ _;rw[ea];exact Yp this
 ·have l1:=Yu e;rcases Yz.mp z with z|z
  ·rw[z]at l1;exact Y2 _ l1
  ·rw[YU.mp z]at l1;have q:H1.objs.size<=I:=lI;rw[sz1]at q;exact absurd l1 (KL.mpr (bP (gx _) q))
end
end GX
namespace L2
open PySem PySem.Spec PyProof.Rows
noncomputable def afG(P:YI)(w:YV)(a:Yc)(ks:List Int):HO:=.ext λh=>GX.Jj P w h a (λk=>ks.any (·==k)) ks.length
section
variable{X:Cx}
theorem bH.draw{pins:List ?AQ}{σ:St}{H:Hp}{s:Yl}(I:bH X pins σ H s)(d:IG):bH X pins σ H {s with drawn:=d}:=⟨I.ok,I.os,I.bare,I.base,I.loc,I.cell,I.free,I.freeC,I.pin,I.hok,I.len⟩
theorem UW(hc:X.calm=true):jQ X (.type "set") (λxs H Q=>∃(p:Yc) (ns:List Int),xs=?CD/\bK X.K H p ?A1/\ns.length<=1000/\∀(q:Yc) (ks:List Int),H q=Yb->ks.Nodup->(∀k,k∈ks↔k∈ns)->Q (.ref q) (upd H q (afG X.prog X.w q ks))):=by
 intro pins s σ H xs us Q I r h;obtain⟨p,ns,rfl,hq,hz,q⟩:=h;obtain⟨u,rfl,rx⟩:=lQ r;cases rx;obtain⟨its,rv,pl,hzz⟩:=I.list hq;have hi:aT its ns:=m9 rv;have hl:its.length=ns.length:=hi.length;refine GX.aaE (items:=its.toArray) (ns:=ns) ?BK pl.isList (by simpa using hi) (by rw[Yx,hl];unfold pj;omega) λh' tk x kp=>?_;have sz:its.toArray.size=ns.length:=by rw[Yx,hl]
 rw[sz]at x;have new:gQ X.prog X.w (upd H s.heap.objs.size (afG X.prog X.w s.heap.objs.size (oi ?GJ ns.length))) h' s.heap.objs.size (afG X.prog X.w s.heap.objs.size (oi ?GJ ns.length)):=by
  refine⟨x,?_,λh1 h2 y k=>y.at k⟩;obtain⟨o,_,_,_,ho,_⟩:=x;exact⟨o,ho⟩
 refine⟨.ref s.heap.objs.size,_,I.laid (t':=tk) kp ?BU new,rfl,q _ _ ?AL (GX.NB _ _) λk=>?_⟩;rw[GX.Wq];constructor
 ·rintro⟨j,hj,e⟩;rw[YO,Yv hj]at e;have e':ns[j]=k:=e;rw[<-e'];exact tq hj
 ·intro hk;obtain⟨j,hj,e⟩:=qr hk;refine⟨j,hj,?_⟩;rw[YO,Yv hj];exact e
theorem Kl(hc:X.calm=true):jQ X (.builtin "sorted") (λxs H Q=>∃(a:Yc) (ks:List Int),xs=?BV/\H a=Ya (afG X.prog X.w a ks)/\ks.Nodup/\ks.length<64/\∀(l:Yc) (ns:List Int),H l=Yb->ns.Perm ks->ns.Pairwise (·<=·)->Q (.ref l) (upd H l (.lst ?A1))):=by
 intro pins s σ H xs us Q I r h;obtain⟨a,ks,rfl,ha,nd,hlen,q⟩:=h;obtain⟨u,rfl,rx⟩:=lQ r;cases rx;have x:GX.Jj X.prog X.w s.heap a (λk=>ks.any (·==k)) ks.length:=(I.hok a _ ha).1;refine GX.Gb (DS _) (GX.Xi (A:=X.A.in1) ?BK x λh' d' tk vs ns hk hi hl hm=>?_);have pm:ns.Perm ks:=GX.Jm nd (λk hk=>(hm k).mpr (eD.mpr ⟨k,hk,by simp⟩)) (kg hl);have hv:vs.length=ks.length:=by rw[hi.length,hl]
 have I1:bH X pins σ H {s with heap:=h',drawn:=d',toks:=tk}:=(I.draw d').kept (t':=tk) hk;refine Ms (s:={s with heap:=h',drawn:=d',toks:=tk}) hi (by rw[hv];exact hlen) (by rw[hv];exact Y5 (bx ?D)) λh2 out ns' e k2 he a1 a2 a3=>?_;have ln:ns'.length<=YB:=by rw[a2.length_eq,hl];exact Y5 (bx ?D)
 exact⟨.ref h'.objs.size,_,I1.lay_ints (tk:=tk) k2 he a1 ln,rfl,q _ ns' ?D9 (a2.trans pm) a3⟩
theorem acR(hc:X.calm=true):jQ X (.type "list") (λxs H Q=>∃(d:Yc) (m:List ?S),xs=[.ref d]/\Rd H d (.dK (dI m))/\m.length<=1000/\∀(l:Yc),H l=Yb->Q (.ref l) (upd H l (.lst ((m.map (·.1)).map V.int)))):=by
 intro pins s σ H xs us Q I r h;obtain⟨d,m,rfl,hd,hlen,q⟩:=h;obtain⟨u,rfl,rx⟩:=lQ r;cases rx;obtain⟨z,hS,vs,rel,dd⟩:=Di I.hok hd;obtain⟨ep,hat⟩:=dd.dictAt;have hl:vs.length=m.length:=by rw[<-rel.length,Rm]
 refine tF (A:=X.A) ?CS ?BK hat ?EN λh' tk acc c hk he hacc=>?_;have hi:aT acc.toList ?IR:=MK (P:=X.prog) (w:=X.w) rel (by rw[aE];exact hacc.1) λj v e=>hacc.2 j v (by rw[<-Y4];exact e);exact⟨.ref s.heap.objs.size,_,I.lay_ints (tk:=tk) (e:=c) hk he hi (by rw[Yk];exact Y5 (bx ?D)),rfl,q _ ?AL⟩
end
end L2
namespace GX
open PySem PyProof.Rows
section
variable{prog:YI}{w:YV}{A:Y7}{E:Ye->Yl->Prop}{s:Yl}{I:Yc}{fp wr:List Yc}{N:Nat}{P:Nat->Ye->Prop}{St:Nat->YT->Prop}
theorem U0(W:yy prog w A I fp wr N P St):∀(n i:Nat) (s:Yl) (Q:List Ye->Yl->Prop),i+ n<=N->St i s.heap->
  (∀h' tk vs,vs.length=n->(∀j v,vs[j]?=Ya v->P (i+ j) v)->St (i+ n) h'->(∀b o,b∉wr->s.heap.get? b=Ya o->h'.get? b=Ya o)->Q vs ?AG)->Yn ?I A (draw (.ref I) n) Q E s
 |0,i,s,Q,_,st,h=>by
  show Yn _ _ (pure []) Q E s;exact Yp (h s.heap s.toks [] rfl (λj v e=>by simp at e) st λ_ _ _ e=>e)
 |n+ 1,i,s,Q,hl,st,h=>by
  show Yn _ _ (fF (.ref I) >>= _) Q E s;refine Yg (W.item i s _ _ ?D st λv h1 tk1 pv st1 k1=>?_);refine Yg (cE (U0 W n ?DP _ _ ?D st1 λh2 tk2 vs q1 q2 st2 k2=>Yp ?_));refine h h2 tk2 (v::vs) (by rw[Y8,q1]) (λj u e=>?_) (by rw[show i+ (n+ 1)=i+ 1+ n by omega];exact st2) λb o nb e=>k2 b o nb (k1 b o nb e);cases j with
  |zero=>
   have e':v=u:=YK e;rw[<-e'];exact pv
  |succ j=>
   have:=q2 j u e;rw[show i+ 1+ j=i+ (j+ 1) by omega]at this;exact this
theorem abf{l:Yc}{items:Array Ye}{Q:List Ye->Yl->Prop}(hh:A.handled=Yb)(hl:s.heap.IsList l items)(h:∀h' tk,?A2->Q items.toList ?AG):
  Yn ?I A (unpackItems (.ref l) items.size Yb) Q E s:=by
 have ll:l<s.heap.objs.size:=let ⟨_,e,_⟩:=hl;Yu e;have kp:∀{h':YT},(∀b o,b∉[s.heap.objs.size]->(s.heap.push {cls:=.type "list_iterator",data:=.fields #[.ref l,.int 0 0]}).get? b=Ya o->h'.get? b=Ya o)->∀b o,s.heap.get? b=Ya o->h'.get? b=Ya o:=fun{h'} k b o e=>
  k b o (λz=>absurd (Yu e) (by rw[YU.mp z];exact Y2 _)) (Yi _ e)
 unfold unpackItems;refine Yg ?_;unfold notIterableAtAll;refine Yg (AJ hl.typeIs PySem.F.slot_list_iter.lookup (Yp ?_));rw[if_neg ?N];refine Yg (cE (fy hl ?_));have W:=uS (prog:=prog) (w:=w) (A:=A) hh s.heap.objs.size l (YF ll) items;refine Yg (cE (U0 W items.size 0 _ _ ?D ⟨⟨_,Yq _ rfl,rfl,rfl⟩,hl.push _⟩ λh1 tk1 vs q1 q2 st1 k1=>?_));have ev:vs=items.toList:=by
  apply sg;intro j;rw[Y4 (xs:=items)];by_cases hj:j<vs.length
  ·have:=q2 j _ (Yv hj);rw[u3]at this;rw[Yv hj,this]
  ·rw[gc ?D,eB ?D]
 rw[ev];show Yn _ _ (if items.toList.length<items.size then _ else _) _ _ _;rw[if_neg ?N];rw[u3]at st1;refine Yg (cE (W.done _ _ _ st1 λh2 tk2 k2=>?_));show Yn _ _ (if(Yb:Option Ye).isSome=true then _ else _) _ _ _;rw[if_neg ?N];exact Yp (h h2 tk2 λb o e=>k2 b o (λz=>absurd (Yu e) (by rw[YU.mp z];exact Y2 _)) (kp k1 b o e))
end
end GX
namespace L2
open PySem PySem.Spec PyProof.Rows
variable{X:Cx}
section
def alr(K:Yd)(n:Nat)(t:TGs):TG:=λv σ H Q=>∃a xs,v=.ref a/\bK K H a xs/\xs.length=n/\t xs σ H Q
theorem amU{es:List YZ}{k:Nat}{t:TGs}{n:Nat}{pos:iL}(hc:X.calm=true)(h:PGs X es t)(hn:(ir es X.env).length=n:=by rfl)(hst:(ir es X.env).findIdx? (·.1)=none:=by rfl):PG X (.Tuple es k pos) (alr X.K n t):=by
 intro pins s σ H v u Q I r hw;obtain⟨a,xs,e1,hq,hl,hw⟩:=hw;subst e1;cases r;obtain⟨its,rv,pl,hz⟩:=I.list hq;rw[assign_Tuple];refine Yg (xi ?_);unfold unpack;have e:(ir es X.env).length=its.toArray.size:=by rw[hn,<-hl,rv.length,Yx]
 rw[e,hst];refine Yg (cE (GX.abf ?BK pl.isList λh' tk kp=>?_));exact h pins _ σ H xs _ Q (I.kept (t':=tk) kp) (by simpa using rv) hw
end
section
theorem bH.thaw{pins:List ?AQ}{σ:St}{H:Hp}{s:Yl}{a:Yc}{o:Y6}{kvs:List ?DG}(I:bH X pins σ H s)(h:H a=Ya (.frz o (.dK kvs)))(n1:∀xs,X.H₀ a≠Ya (.tup xs))(n2:∀o u,X.H₀ a≠Ya (.frz o u))(n3:∀ps,X.H₀ a≠Ya (.tbl ps)):bH X pins σ (upd H a (.dK kvs)) s:=by
 have ne:∀b,H b=Yb->b≠a:=λb q z=>by rw[z,h]at q;cases q
 have b:=I.base;refine⟨I.ok,I.os,I.bare,⟨b.keep,b.slot,λc oc e n x=>?_,b.there,λc xs e=>?_,λc oc u e=>?_,λc ps e=>?_⟩,I.loc,I.cell,by rw[aQ (ne _ I.free)];exact I.free,λx c z=>by rw[aQ (ne _ (I.freeC x c z))];exact I.freeC x c z,
  λp hp=>let ⟨p1,p2,p3⟩:=I.pin p hp;⟨p1,by rw[aQ (ne _ p2)];exact p2,p3⟩,λc u e=>?_,I.len⟩
 ·have q:=b.free c oc e n x;rw[aQ (ne _ q)];exact q
 ·have nc:c≠a:=λz=>n1 _ (z▸e);rw[aQ nc];exact b.tups c xs e
 ·have nc:c≠a:=λz=>n2 _ _ (z▸e);rw[aQ nc];exact b.frzs c oc u e
 ·have nc:c≠a:=λz=>n3 _ (z▸e);rw[aQ nc];exact b.tbls c ps e
 ·by_cases hc:c=a
  ·subst hc;rw[aA]at e;cases e;exact(I.hok c _ h).2
  ·rw[aQ hc]at e;refine(I.hok c u e).stay (λ_ _ _ q=>q) (λd q=>?_) λd xs q=>?_
   ·rw[aQ (λz=>by rw[z,h]at q;cases q)];exact q
   ·rw[aQ (λz=>by rw[z,h]at q;cases q)];exact q
def akn(t:TS):TS:=λD σ H=>∃a kvs,H a=Ya (.dK kvs)/\t {D with nx:=λσ' H'=>(∃o,H' a=Ya (.frz o (.dK kvs)))/\D.nx σ' (upd H' a (.dK kvs)),rt:=λv H'=>(∃o,H' a=Ya (.frz o (.dK kvs)))/\D.rt v (upd H' a (.dK kvs))} σ H
theorem adt{st:YJ}{t:TS}(h:PS X st t):PS X st (akn t):=by
 intro pins s σ H D I hw;obtain⟨a,kvs,ha,ht⟩:=hw;have n1:∀xs,X.H₀ a≠Ya (.tup xs):=λxs e=>by have:=I.base.tups a xs e;rw[ha]at this;cases this
 have n2:∀o u,X.H₀ a≠Ya (.frz o u):=λo u e=>by have:=I.base.frzs a o u e;rw[ha]at this;cases this
 have n3:∀ps,X.H₀ a≠Ya (.tbl ps):=λps e=>by obtain⟨m,q⟩:=I.base.tbls a ps e;rw[ha]at q;cases q
 refine eZ (h pins s σ H _ I ht) λf s1 q=>?_;cases f with
 |next=>
  obtain⟨σ',H',I',⟨o,e⟩,n⟩:=q;exact⟨σ',_,I'.thaw e n1 n2 n3,n⟩
 |brk=>exact q
 |cont=>exact q
 |ret u=>
  obtain⟨v,σ',H',I',r,⟨o,e⟩,n⟩:=q;exact⟨v,σ',_,I'.thaw e n1 n2 n3,r,n⟩
end
mutual
inductive Dp (K:Yd) (H:Hp):V->cy->Prop
 |none:Dp K H .non .none
 |bool (b:Bool):Dp K H (.bl b) (.bool b)
 |int (i:Int):Dp K H (.int i) (.int i)
 |str (x:Ym):Dp K H (.str x) (.str x)
 |tup {a:Yc} {xs:List V} {ds:List cy}:dC K H a xs->Dps K H xs ds->Dp K H (.ref a) (.tuple ds)
inductive Dps (K:Yd) (H:Hp):List V->List cy->Prop
 |nil:Dps K H [] []
 |cons {x:V} {xs:List V} {d:cy} {ds:List cy}:Dp K H x d->Dps K H xs ds->Dps K H (x::xs) (d::ds)
end
def SmT(K:Yd)(H H':Hp):Prop:=∀a xs,dC K H a xs->dC K H' a xs
theorem SmT.same{K:Yd}{H H':Hp}(e:aW H H'):SmT K H H':=by
 rintro a xs ((h|⟨o,h⟩)|h)
 ·exact .inl (.inl (e _ _ h))
 ·exact .inl (.inr ⟨o,e _ _ h⟩)
 ·exact .inr h
section
variable{X:Cx}{pins:List ?AQ}{σ:St}{H:Hp}{s:Yl}
mutual
theorem Dp.reads(I:bH X pins σ H s):∀{x:V} {d:cy} {u:Ye},Dp X.K H x d->RelV x u->∃as,Reads s.heap u d as
 |_,_,_,.none,r=>by cases r;exact⟨_,.none⟩
 |_,_,_,.bool b,r=>by cases r;exact⟨_,.bool b⟩
 |_,_,_,.int i,r=>by obtain⟨t,rfl⟩:=r;exact⟨_,.int i t⟩
 |_,_,_,.str z,r=>by obtain⟨t,rfl⟩:=r;exact⟨_,.str z t⟩
 |_,_,_,.tup h t,r=>by
  cases r;obtain⟨its,rv,⟨o,e,c,n,dd⟩,_⟩:=I.tuple h;obtain⟨as,q⟩:=Dps.reads I t rv;exact⟨_,.tuple e c dd (by simpa using q)⟩
theorem Dps.reads(I:bH X pins σ H s):∀{xs:List V} {ds:List cy} {us:List Ye},Dps X.K H xs ds->Vals xs us->∃as,ReadsAll s.heap us ds as
 |_,_,_,.nil,r=>by cases r;exact⟨_,.nil⟩
 |_,_,_,.cons h t,r=>by
  cases r with
  |cons r1 r2=>
   obtain⟨as,q⟩:=Dp.reads I h r1;obtain⟨bs,q2⟩:=Dps.reads I t r2;exact⟨_,.cons q q2⟩
end
def Dl(K:Yd)(H:Hp)(x:V)(d:cy):Prop:=Dp K H x d\/∃a xs ds,x=.ref a/\d=.list ds/\bK K H a xs/\Dps K H xs ds
theorem Dl.reads(I:bH X pins σ H s){x:V}{d:cy}{u:Ye}(h:Dl X.K H x d)(r:RelV x u):∃as,Reads s.heap u d as:=by
 rcases h with h|⟨a,xs,ds,rfl,rfl,h,t⟩
 ·exact Dp.reads I h r
 ·cases r;obtain⟨its,rv,⟨o,n,e,c,_,dd⟩,_⟩:=I.list h;obtain⟨as,q⟩:=Dps.reads I t rv;exact⟨_,.list e c dd (by simpa using q)⟩
def alj(K:Yd):R2:=λx y H Q=>∃d e,Dl K H x d/\Dl K H y e/\d.canLay0=true/\e.canLay0=true/\min d.depth e.depth<=60/\Q (.bl (d.eqv e)) H
def ajS(K:Yd):R2:=λx y H Q=>∃d e,Dl K H x d/\Dl K H y e/\d.canLay0=true/\e.canLay0=true/\min d.depth e.depth<=60/\Q (.bl (!d.eqv e)) H
theorem ajn(hu:X.A.units+ 64<hV):Fb X (cS .Eq) (alj X.K):=by
 intro pins s σ H x y v u Q I rx ry h;obtain⟨d,e,h1,h2,c1,c2,dp,q⟩:=h;obtain⟨as,r1⟩:=h1.reads I rx;obtain⟨bs,r2⟩:=h2.reads I ry;exact SeqAt.compareEq_reads r1 r2 c1 c2 ?D ⟨.bl _,H,I,rfl,q⟩
theorem aiU(hu:X.A.units+ 64<hV):Fb X (cS .NotEq) (ajS X.K):=by
 intro pins s σ H x y v u Q I rx ry h;obtain⟨d,e,h1,h2,c1,c2,dp,q⟩:=h;obtain⟨as,r1⟩:=h1.reads I rx;obtain⟨bs,r2⟩:=h2.reads I ry;exact SeqAt.compareNe_reads r1 r2 c1 c2 ?D ⟨.bl _,H,I,rfl,q⟩
end
theorem qi{K:Yd}{x y:V}{H:Hp}{Q:VK}{d:cy}(h1:Dl K H x d)(h2:Dl K H y d)(c:d.canLay0=true)(dp:d.depth<=60)(q:Q (.bl true) H):alj K x y H Q:=
 ⟨d,d,h1,h2,c,c,by omega,by rw[SeqAt.eqv_refl d c];exact q⟩
theorem uy{K:Yd}{x y:V}{H:Hp}{Q:VK}{d:cy}(h1:Dl K H x d)(h2:Dl K H y d)(c:d.canLay0=true)(dp:d.depth<=60)(q:Q (.bl false) H):ajS K x y H Q:=
 ⟨d,d,h1,h2,c,c,by omega,by rw[SeqAt.eqv_refl d c];exact q⟩
theorem aH{H:Hp}{l:Yc}{o:HO}(h:H l=Yb):aW H (upd H l o):=λb u e=>by rw[aQ (bB e h)];exact e
def But(d:Yc)(H H':Hp):Prop:=∀b,b≠d->H' b=H b
theorem But.upd{d:Yc}{H:Hp}{o:HO}:But d H (L2.upd H d o):=λb h=>aQ h
theorem But.at{d b:Yc}{H H':Hp}{o:Option HO}(e:But d H H')(n:b≠d)(h:H b=o):H' b=o:=by rw[e b n];exact h
theorem But.of{d b:Yc}{H H':Hp}{o u:HO}(e:But d H H')(hd:H d=Ya u)(h:H b=Ya o)(n:o≠u):H' b=Ya o:=e.at (bD h hd n) h
def nwT(xs:List V)(H:Hp)(Q:VK):Prop:=xs.length<=YB/\∀p,H p=Yb->Q (.ref p) (upd H p (.tup xs))
def nwL(xs:List V)(H:Hp)(Q:VK):Prop:=xs.length<=YB/\∀p,H p=Yb->Q (.ref p) (upd H p (.lst xs))
section
variable{D:Iu}{σ:St}{H:Hp}{Q:VK}{K:Yd}
theorem Nz{t u:TS}(h:t {D with nx:=u D} σ H):aJ t u D σ H:=h
theorem al6{te:TE}{g:TG}{u:TS}(h:te σ H λx H1=>g x σ H1 (u D)):aJ (ahB te g) u D σ H:=h
theorem alh{te:TE}{u:TS}(h:te σ H λ_ H1=>u D σ H1):aJ (adp te) u D σ H:=h
theorem alR{wi:TI}{g:TG}{tb u:TS}(h:ajL wi g tb {D with nx:=u D} σ H):aJ (ajL wi g tb) u D σ H:=h
theorem al8{c:TT}{tb u:TS}(h:abW c tb {D with nx:=u D} σ H):aJ (abW c tb) u D σ H:=h
theorem alc{ta tv:TE}{f:Ym}{u:TS}(h:ae8 K ta tv f {D with nx:=u D} σ H):aJ (ae8 K ta tv f) u D σ H:=h
theorem amA{c:TT}{te:TE}{u:TS}(h:c σ H λb H1=>if b=true then te σ H1 D.rt else u D σ H1):aJ (aiQ c (amW te) adI) u D σ H:=h
theorem yJ(I:St->Hp->Prop){t u:TS}(h2:∀σ' H',I σ' H'->u D σ' H')(h:∀N:St->Hp->Prop,(∀σ' H',I σ' H'->N σ' H')->t {D with nx:=N} σ H):aJ t u D σ H:=h _ h2
theorem akU(h:D.nx σ H):adI D σ H:=h
theorem anJ{te:TE}(h:te σ H D.rt):amW te D σ H:=h
theorem alN{te:TE}(h:te σ H λ_ H1=>D.nx σ H1):adp te D σ H:=h
theorem anV{te:TE}{g:TG}(h:te σ H λx H1=>g x σ H1 D.nx):ahB te g D σ H:=h
theorem aop{c:TT}{t u:TS}(h:c σ H λb H1=>if b=true then t D σ H1 else u D σ H1):aiQ c t u D σ H:=h
theorem akR{i:Nat}{v:V}{R:St->Hp->Prop}(h:R (σ.set i (Ya v)) H):Ur i v σ H R:=h
theorem amu{R:St->Hp->Prop}(h:R σ H):anR [] σ H R:=⟨rfl,h⟩
theorem aiz{t:TG}{u:TGs}{v:V}{r:List V}{R:St->Hp->Prop}(h:t v σ H λσ' H'=>u r σ' H' R):aj5 t u (v::r) σ H R:=⟨v,r,rfl,h⟩
theorem amh{n:Nat}{t:TGs}{a:Yc}{xs:List V}{R:St->Hp->Prop}(h1:dC K H a xs)(h2:xs.length=n)(h:t xs σ H R):amM K n t (.ref a) σ H R:=⟨a,xs,rfl,h1,h2,h⟩
theorem Q3{i:Nat}{v:V}(h1:σ[i]?=Ya (Ya v))(h:Q v H):vO i σ H Q:=⟨v,h1,h⟩
theorem x_c{v:V}(h:Q v H):tC v σ H Q:=h
theorem ajm{r:R2}{ta tb:TE}(h:ta σ H λx H1=>tb σ H1 λy H2=>r x y H2 Q):tOp r ta tb σ H Q:=h
theorem apv{r:V->Hp->VK->Prop}{ta:TE}(h:ta σ H λx H1=>r x H1 Q):tUn r ta σ H Q:=h
theorem ap2{g:Int->Int->V}{i j:Int}(h:Q (g i j) H):rI0 g (.int i) (.int j) H Q:=⟨i,j,rfl,rfl,h⟩
theorem x_I{C:Int->Int->Prop}{g:Int->Int->V}{i j:Int}(hc:C i j)(h:Q (g i j) H):rI C g (.int i) (.int j) H Q:=⟨i,j,rfl,rfl,hc,h⟩
theorem x_U{g:Int->V}{i:Int}(h:Q (g i) H):rU g (.int i) H Q:=⟨i,rfl,h⟩
theorem aoP(i j:Int):decide (V.int i=V.int j)=decide (i=j):=by
 by_cases h:i=j
 ·subst h;rw[decide_eq_true rfl,decide_eq_true rfl]
 ·rw[decide_eq_false h,decide_eq_false (λe=>h (V.int.inj e))]
theorem apO(i j:Ym):decide (V.str i=V.str j)=decide (i=j):=by
 by_cases h:i=j
 ·subst h;rw[decide_eq_true rfl,decide_eq_true rfl]
 ·rw[decide_eq_false h,decide_eq_false (λe=>h (V.str.inj e))]
theorem anQ{i j:Int}(h:Q (.bl (decide (i=j))) H):rEq (.int i) (.int j) H Q:=⟨rfl,by rw[aoP];exact h⟩
theorem aoi{i j:Int}(h:Q (.bl (!decide (i=j))) H):rNe (.int i) (.int j) H Q:=⟨rfl,by rw[aoP];exact h⟩
theorem anm{i j:Ym}(h:Q (.bl (decide (i=j))) H):rEq (.str i) (.str j) H Q:=⟨rfl,by rw[apO];exact h⟩
theorem amQ{t:TE}{R:Bool->Hp->Prop}(h:t σ H λx H'=>∃k,x=.bl k/\R k H'):aj7 t σ H R:=h
theorem aol{t:TE}{R:Bool->Hp->Prop}(h:t σ H λx H'=>∃k,ah8 K x H' k/\R k H'):aly K t σ H R:=h
theorem x_b{t:TE}{R:Bool->Hp->Prop}(h:t σ H λx H'=>∃k,x=.bl k/\R k H'):tB t σ H R:=h
theorem amZ{c:Bool}{P:Bool->Prop}(h:P c):∃k,V.bl c=.bl k/\P k:=⟨c,rfl,h⟩
theorem aiA{c:Bool}{P:Bool->Prop}(h:P c):∃k,ah8 K (.bl c) H k/\P k:=⟨c,rfl,h⟩
theorem anG{t u:TT}{R:Bool->Hp->Prop}(h:t σ H λc H1=>if c=true then u σ H1 R else R false H1):aoZ t u σ H R:=h
theorem apl{t u:TT}{R:Bool->Hp->Prop}(h:t σ H λc H1=>if c=true then R true H1 else u σ H1 R):tOr t u σ H R:=h
theorem anj{t:TT}{R:Bool->Hp->Prop}(h:t σ H λc H1=>R (!c) H1):aoE t σ H R:=h
theorem amg{ta tb:TE}(h:ta σ H λx H1=>∃c,x=.bl c/\if c=true then tb σ H1 Q else Q (.bl false) H1):akH ta tb σ H Q:=h
theorem ang{ta tb:TE}(h:ta σ H λx H1=>∃c,x=.bl c/\if c=true then Q (.bl true) H1 else tb σ H1 Q):aoA ta tb σ H Q:=h
theorem aml{ta:TE}(h:ta σ H λx H1=>∃c,x=.bl c/\Q (.bl (!c)) H1):aks ta σ H Q:=h
theorem aox{t:TT}{ta tb:TE}(h:t σ H λc H1=>if c=true then ta σ H1 Q else tb σ H1 Q):tIf t ta tb σ H Q:=h
theorem aoh{R:List V->Hp->Prop}(h:R [] H):sJ σ H R:=h
theorem alV{ta:TE}{tr:TA}{R:List V->Hp->Prop}(h:ta σ H λx H1=>tr σ H1 λxs H2=>R (x::xs) H2):zj ta tr σ H R:=h
theorem aot{t:TA}(h:t σ H λxs H1=>nwT xs H1 Q):akS t σ H Q:=h
theorem an5{t:TA}(h:t σ H λxs H1=>nwL xs H1 Q):aof t σ H Q:=h
theorem aoM{xs:List V}(hl:xs.length<=YB)(h:∀p H',H p=Yb->aW H H'->H' p=Ya (.tup xs)->Q (.ref p) H'):nwT xs H Q:=⟨hl,λp hp=>h p _ hp (aH hp) aA⟩
theorem aoW{xs:List V}(hl:xs.length<=YB)(h:∀p H',H p=Yb->aW H H'->H' p=Ya (.lst xs)->Q (.ref p) H'):nwL xs H Q:=⟨hl,λp hp=>h p _ hp (aH hp) aA⟩
theorem alz(h:∀p H',H p=Yb->aW H H'->H' p=Ya (.dK (dI []))->Q (.ref p) H'):agU σ H Q:=λp hp=>h p _ hp (aH hp) aA
theorem alY{sp:Sp}{dvs:List V}{E:XK}{t:TA}(h:t σ H λvs H1=>sp (vs++dvs) H1 Q E):ade sp dvs E t σ H Q:=h
theorem ap1{r:List V->Hp->VK->Prop}{t:TA}(h:t σ H λvs H1=>r vs H1 Q):tCB r t σ H Q:=h
theorem apr{r:V->Option Int->Option Int->Hp->VK->Prop}{te:TE}{tl th:TO}(h:te σ H λx H1=>tl σ H1 λl H2=>th σ H2 λu H3=>r x l u H3 Q):tSl r te tl th σ H Q:=h
theorem ahu{R:Option Int->Hp->Prop}(h:R Yb H):adG σ H R:=h
theorem amE{t:TE}{R:Option Int->Hp->Prop}(h:t σ H λx H1=>∃i,x=.int i/\R (Ya i) H1):aj6 t σ H R:=h
theorem ajf{c:Int}{P:Int->Prop}(h:P c):∃k,V.int c=.int k/\P k:=⟨c,rfl,h⟩
theorem anK{a:Yc}{xs:List V}{lo hi:Option Int}(h1:bK K H a xs)(h:∀p H',H p=Yb->aW H H'->H' p=Ya (.lst (K6 xs lo hi))->Q (.ref p) H'):alx K (.ref a) lo hi H Q:=⟨a,xs,rfl,h1,λp hp=>h p _ hp (aH hp) aA⟩
theorem uK{a:Yc}{xs:List V}{i:Int}{v:V}(h1:bK K H a xs)(h2:mq xs i=Ya v)(h:Q v H):xK K (.ref a) (.int i) H Q:=⟨a,xs,i,v,rfl,rfl,h1,h2,h⟩
theorem anE{a:Yc}{xs:List V}{i:Int}{v:V}(h1:dC K H a xs)(h2:mq xs i=Ya v)(h:Q v H):amc K (.ref a) (.int i) H Q:=⟨a,xs,i,v,rfl,rfl,h1,h2,h⟩
theorem alG{td ty:TE}(h:td σ H λx H1=>ty σ H1 λy H2=>∃a v,x=.ref a/\Vm H2 a y (Ya v)/\Q v H2):akj td ty σ H Q:=h
theorem anH{td ty:TE}(h:ty σ H λy H1=>td σ H1 λx H2=>∃a o,x=.ref a/\Vm H2 a y o/\Q (.bl o.isSome) H2):aoB ty td σ H Q:=h
theorem amj{td ty tv:TE}(h:tv σ H λv H1=>td σ H1 λx H2=>ty σ H2 λy H3=>∃a H4,x=.ref a/\aiC H3 a y v H4/\D.nx σ H4):akf td ty tv D σ H:=h
theorem aor{wi:TI}{g:TG}{tb:TS}(h:wi σ H λJ H1=>∃W:Nat->Nat->St->Hp->Prop,(∃m,W 0 m σ H1)/\∀i m σ H,W i m σ H->
 (J.stop i H/\D.nx σ H)\/(J.go i H/\∃N:St->Hp->Prop,?CA/\∀x H',J.yld i H x H'->g x σ H' λσ2 H2=>tb {D with nx:=N,ct:=N,bk:=D.nx} σ2 H2)):ajL wi g tb D σ H:=h
theorem ajW{tl:TE}{R:It->Hp->Prop}(h:tl σ H λx H1=>∃a,x=.ref a/\(∃xs,bK K H1 a xs)/\R (Itl K a) H1):afI K tl σ H R:=h
theorem akW{a:Yc}{xs:List V}{P:Yc->Prop}(hd:bK K H a xs)(h:P a):∃b,V.ref a=.ref b/\(∃xs,bK K H b xs)/\P b:=⟨a,rfl,⟨xs,hd⟩,h⟩
theorem alk{tl:TE}{R:It->Hp->Prop}(h:tl σ H λx H1=>∃a,x=.ref a/\(∃xs,dC K H1 a xs)/\R (Itt K a) H1):amD K tl σ H R:=h
theorem alF{a:Yc}{xs:List V}{P:Yc->Prop}(hd:dC K H a xs)(h:P a):∃b,V.ref a=.ref b/\(∃xs,dC K H b xs)/\P b:=⟨a,rfl,⟨xs,hd⟩,h⟩
theorem am5{ta:TA}{R:It->Hp->Prop}(h:ta σ H λvs H1=>∃j:Int,vs=[.int j]/\-(2^62)<=j/\j<2^62/\R (Itr 0 j.toNat) H1):akq ta σ H R:=h
theorem apK{T:String}{r:V->List V->Hp->VK->Prop}{to:TE}{t:TA}(h:to σ H λx H1=>tyV K T x H1/\t σ H1 λxs H2=>r x xs H2 Q):tBM K T r to t σ H Q:=h
theorem anb{T:String}{r:V->List V->Hp->VK->Prop}{to:TE}(h:to σ H λx H1=>tyV K T x H1/\r x [] H1 Q):aoT K T r to σ H Q:=h
theorem aoG{a:Yc}{xs:List V}{P:Prop}(hd:H a=Ya (.lst xs))(h:P):tyV K "list" (.ref a) H/\P:=⟨.inl ⟨rfl,_,bK.of hd⟩,h⟩
theorem ahI{a:Yc}{xs:List V}{y:V}(hd:H a=Ya (.lst xs))(hl:xs.length<YB)(h:∀H2,But a H H2->H2 a=Ya (.lst (xs++[y]))->Q .non H2):O5 (.ref a) [y] H Q:=⟨a,xs,y,rfl,rfl,hd,hl,h _ .upd aA⟩
theorem amI{src:List (Option Nat)}{wi:TI}{g:TG}{tt:TT}{te:TE}(h:wi σ H λJ H1=>∀D,H1 D=Yb->∃W:Nat->Nat->St->Hp->Prop,(∃m,W 0 m (aaG src σ) (upd H1 D (.lst [])))/\
 ∀i m σ' H',W i m σ' H'->(J.stop i H'/\Q (.ref D) H')\/(J.go i H'/\∃N:St->Hp->Prop,?V/\
  ∀x H'',J.yld i H' x H''->pL g tt te D N x σ' H'')):agj src wi g tt te σ H Q:=h
end
theorem ana{A B:Prop}(h:B):if(!true)=true then A else B:=h
theorem anA{A B:Prop}(h:A):if(!false)=true then A else B:=h
section
variable{X:Cx}{K:Yd}
theorem aR(hK:X.K=K):IxR X (amc K):=by subst hK;exact amB
theorem aK(hK:X.K=K):IxR X (xK K):=by subst hK;exact ajx
theorem rH(hK:X.K=K):SlR X (alx K):=by subst hK;exact aii
theorem ai9(hK:X.K=K):SlR X (al1 K):=by subst hK;exact amN
theorem yF(hK:X.K=K)(hu:X.A.units+ 64<hV):Fb X (cS .Eq) (alj K):=by subst hK;exact ajn hu
theorem Ig(hK:X.K=K)(hu:X.A.units+ 64<hV):Fb X (cS .NotEq) (ajS K):=by subst hK;exact aiU hu
def aoy(K:Yd):List V->Hp->VK->Prop:=λxs H Q=>∃p ys,xs=?CD/\(bK K H p ys\/dC K H p ys)/\Q (.int ys.length) H
theorem kJ(hK:X.K=K):jQ X (.builtin "len") (aoy K):=by subst hK;exact We
def ac7(K:Yd):List V->Hp->VK->Prop:=λxs H Q=>∃p ys,xs=?CD/\(bK K H p ys\/dC K H p ys)/\∀l,H l=Yb->Q (.ref l) (upd H l (.lst ys))
theorem Js(hK:X.K=K):jQ X (.type "list") (ac7 K):=by subst hK;exact Wm
def WY(K:Yd):List V->Hp->VK->Prop:=λxs H Q=>∃p ys,xs=?CD/\((bK K H p ys/\∀l,H l=Yb->Q (.ref l) (upd H l (.tup ys)))\/(dC K H p ys/\Q (.ref p) H))
theorem gP(hK:X.K=K):jQ X (.type "tuple") (WY K):=by subst hK;exact RX
def apV(K:Yd):List V->Hp->VK->Prop:=λxs H Q=>∃(x:V) (t:Ye) (T:String) (b:Bool),xs=[x,.ty T]/\Ko K H x t/\BE K t (.type T)=Ya b/\Q (.bl b) H
theorem zQ(hK:X.K=K):jQ X (.builtin "isinstance") (apV K):=by subst hK;exact XX
theorem J1{es:List YZ}{k:Nat}{t:TGs}{n:Nat}{pos:iL}(hK:X.K=K)(hc:X.calm=true)(h:PGs X es t)(hn:(ir es X.env).length=n:=by rfl)(hst:(ir es X.env).findIdx? (·.1)=none:=by rfl):PG X (.Tuple es k pos) (amM K n t):=by subst hK;exact aln hc h hn hst
theorem bM{tg l:YZ}{tl:TE}(hK:X.K=K)(hl:PE X l tl):PI X tg l (afI K tl):=by subst hK;exact aiN hl
theorem Gf{tg l:YZ}{tl:TE}(hK:X.K=K)(hl:PE X l tl):PI X tg l (amD K tl):=by subst hK;exact al3 hl
theorem aih{tg l:YZ}{tl:TE}(hK:X.K=K)(hl:PE X l tl):PI X tg l (aoI K tl):=by subst hK;exact amP hl
theorem aaS{x:Ym}{pos:iL}{t:TE}(hK:X.K=K)(h:PE X (.Name x pos) t):PT X (.Name x pos) (aly K t):=by
 subst hK;exact XN h λ_=>rfl
theorem Qg{o e:YZ}{to:TE}{t:TA}{apos cpos:iL}(hK:X.K=K)(h:PE X (.Call (.Attribute o "append" apos) [e] [] cpos) (tBM X.K "list" O5 to t)):PE X (.Call (.Attribute o "append" apos) [e] [] cpos) (tBM K "list" O5 to t):=by subst hK;exact h
end
section
variable{σ:St}{H:Hp}{Q:VK}{K:Yd}
theorem ag3{a:Yc}{xs:List V}(hd:bK K H a xs)(h:∀p H',H p=Yb->aW H H'->H' p=Ya (.lst xs)->Q (.ref p) H'):ac7 K ?BV H Q:=⟨a,xs,rfl,.inl hd,λp hp=>h p _ hp (aH hp) aA⟩
theorem ajR{a:Yc}{xs:List V}(hd:bK K H a xs)(h:∀p H',H p=Yb->aW H H'->H' p=Ya (.tup xs)->Q (.ref p) H'):WY K ?BV H Q:=⟨a,xs,rfl,.inl ⟨hd,λp hp=>h p _ hp (aH hp) aA⟩⟩
end
theorem jc{α:Type}{ls:List α}{i:Nat}{n:α}(h:ls[i]?=Ya n):ls.take (i+ 1)=ls.take i++[n]:=by
 rw[BQ,h];rfl
theorem VP{ms:List Int}{i:Nat}{x:V}(h:(ms.map V.int)[i]?=Ya x):∃n:Int,ms[i]?=Ya n/\x=.int n:=by
 rw[Yw]at h;cases e:ms[i]? with
 |none=>rw[e]at h;cases h
 |some n=>rw[e]at h;exact⟨n,rfl,(YK h).symm⟩
theorem ajU{α:Type}{xs:List α}{i:Int}{v:α}(h0:0<=i)(h:xs[i.toNat]?=Ya v):mq xs i=Ya v:=by
 obtain⟨n,rfl⟩:=fg h0;exact eN h
def my(H H':Hp):Prop:=∀a xs,H a=Ya (.tup xs)->H' a=Ya (.tup xs)
theorem my.trans{H1 H2 H3:Hp}(a:my H1 H2)(b:my H2 H3):my H1 H3:=λ_ _ h=>b _ _ (a _ _ h)
theorem my.same{H H':Hp}(e:aW H H'):my H H':=λ_ _ h=>e _ _ h
theorem my.upd{H:Hp}{l:Yc}{o:HO}(h1:∀xs,H l≠Ya (.tup xs)):my H (upd H l o):=λa xs h=>by
 have:a≠l:=λe=>h1 xs (e▸h);rw[aQ this];exact h
theorem my.lst{H:Hp}{l:Yc}{o:HO}{ys:List V}(h:H l=Ya (.lst ys)):my H (L2.upd H l o):=.upd (λ_ z=>by rw[h]at z;cases z)
section
variable{σ:St}{H:Hp}{Q:VK}{K:Yd}{X:Cx}
theorem ajj{a:Yc}{xs:List V}(hd:bK K H a xs\/dC K H a xs)(h:Q (.int xs.length) H):aoy K ?BV H Q:=⟨a,xs,rfl,hd,h⟩
end
theorem ahl{P:Prop}(h:P):V.non=V.non/\P:=⟨rfl,h⟩
section
variable{X:Cx}{CX:CXT}{k:Nat}{f C:Yc}{fd:Yt}{ps:List Ym}{sp:Sp}{dvs:List V}{ds:List Ye}{E:XK}{x m:Ym}{p pos apos:iL}{e o:YZ}{es:List YZ}{ta:TE}{t:TA}
structure an6(K:Yd)(C:Yc)(m:Ym)(f:Yc):Prop where
 ga:EI K (.ref C) "__getattribute__"=Ya (Ya (.builtin "type.__getattribute__"))
 rd:PySem.W.readsIn K C (.type "type")=true
 at_:PySem.W.findCls K (.ref C) (.type "type") m=Ya (.val (.ref f))
 hd:y4 (.ref f)=true
 kp:mf K (.ref f)=true
theorem anS{pl:w4 Bool}(hg:Gl X x)(hm:X.mg x=Ya (.ref C))(c:an6 X.K C m f)(F:aG X.prog X.w X.K X.mg X.base bJ k f fd ps sp)(hb:Binds X.K fd ps [])(hr:gJ k X.A)(ha:PA X (e::es) t)
  (hdb:(x==("__debug__":Ym))=false:=by decide)
  (hst:YR (e::es) X.env=?A8::YR es X.env:=by rfl) (hpl:(dk pos ?CY).any (·.1)=false:=by rfl)
  (ht:ay (.Call (.Attribute (.Name x p) m apos) (e::es) [] pos) X.env=(do
   let ov<-ay (.Name x p) X.env
   rl apos.atName
   let (f,first)<-ny [ov] (qV ov m pl)
   vx pos f first (dk pos ?IX) ?DQ):=by rfl):
  PE X (.Call (.Attribute (.Name x p) m apos) (e::es) [] pos) (ade sp [] E0 t):=by
 intro pins s σ H Q I h;refine iO (pl:=pl) (eZ (Wj (v:=.ref C) hg hm rfl hdb pins s σ H (λv H1=>v=.ref C/\t σ H1 λvs H2=>sp (vs++[]) H2 Q E0) I ⟨rfl,h⟩) λu s1 zz=>?_) ht;obtain⟨x,H1,I1,rx,ex,q⟩:=zz;subst ex;obtain rfl:u=Y0 C:=rx;refine PySem.W.method_cls I1.kIn c.ga (PySem.W.cls_value I1.kIn c.rd c.at_ c.hd ?_);refine nB (first:=[]) (h₀:=X.base) I.ok.mod.kin c.kp (eZ (ha pos pins _ σ H1 _ (I1.tok _) q) λus s2 ⟨vs,H2,I2,r,q2⟩=>⟨I2.kIn,?_⟩) hst hpl;exact Eu (us:=us) (vs:=vs) F hr hb .nil fc I2 r q2
def cj(P:YI)(w:YV)(K:Yd)(mg:Ym->Option Ye)(base:YT)(k:Nat)(m:Ym)(ms:List (Yc×Sp)):Prop:=
 ∀cs∈ms,∃f fd ps,T4 K cs.1/\bY K cs.1 m f/\aG P w K mg base bJ k f fd ps cs.2/\Binds K fd ps []
theorem cj.nil{P:YI}{w:YV}{K:Yd}{mg:Ym->Option Ye}{base:YT}:cj P w K mg base k m []:=λ_ h=>nomatch h
theorem cj.cons{P:YI}{w:YV}{K:Yd}{mg:Ym->Option Ye}{base:YT}{ms:List (Yc×Sp)}(c:T4 K C)(hm:bY K C m f)(F:aG P w K mg base bJ k f fd ps sp)(hb:Binds K fd ps [])(r:cj P w K mg base k m ms):cj P w K mg base k m ((C,sp)::ms):=by
 intro cs h;rcases Yz.mp h with rfl|h
 ·exact⟨f,fd,ps,c,hm,F,hb⟩
 ·exact r cs h
def mtS(ms:List (Yc×Sp))(m:Ym)(t:TA)(σ:St)(x:V)(H:Hp)(Q:VK):Prop:=
 ∃cs∈ms,∃a dx fs,x=.ref a/\H a=Ya (.ins cs.1 dx fs)/\fs.lookup m=Yb/\t σ H λvs H2=>cs.2 (x::(vs++[])) H2 Q E0
def Vh(ms:List (Yc×Sp))(m:Ym)(ta:TE)(t:TA):TE:=λσ H Q=>ta σ H λx H1=>mtS ms m t σ x H1 Q
theorem aV{pl:w4 Bool}{ms:List (Yc×Sp)}(M:cj X.prog X.w X.K X.mg X.base k m ms)(he:PE X o ta)(hr:gJ k X.A)(ha:PA X (e::es) t)
  (hst:YR (e::es) X.env=?A8::YR es X.env:=by rfl) (hpl:(dk pos ?CY).any (·.1)=false:=by rfl)
  (ht:ay (.Call (.Attribute o m apos) (e::es) [] pos) X.env=(do
   let ov<-ay o X.env
   rl apos.atName
   let (f,first)<-ny [ov] (qV ov m pl)
   vx pos f first (dk pos ?IX) ?DQ):=by rfl):
  PE X (.Call (.Attribute o m apos) (e::es) [] pos) (Vh ms m ta t):=by
 intro pins s σ H Q I h;refine iO (pl:=pl) (eZ ?AY λu s1 zz=>?_) ht;obtain⟨x,H1,I1,rx,cs,hcs,a,dx,fs,ex,ea,l,q⟩:=zz;subst ex;obtain rfl:u=Y0 a:=rx;obtain⟨f,fd,ps,c,hm,F,hb⟩:=M cs hcs;refine uN I1 ea c hm l ?_;refine nB (first:=?BV) (h₀:=X.base) I.ok.mod.kin hm.kp (eZ (ha pos pins s1 σ H1 _ I1 q) λus s2 ⟨vs,H2,I2,r,q2⟩=>⟨I2.kIn,?_⟩) hst hpl;exact Eu (us:=.ref a::us) (vs:=.ref a::vs) F hr hb .nil fc I2 (.cons rfl r) q2
theorem bh{pl:w4 Bool}{ms:List (Yc×Sp)}(M:cj X.prog X.w X.K X.mg X.base k m ms)(he:PE X o ta)(hr:gJ k X.A)
  (ht:ay (.Call (.Attribute o m apos) [] [] pos) X.env=(do
   let ov<-ay o X.env
   rl apos.atName
   let (f,first)<-ny [ov] (qV ov m pl)
   vx pos f first (dk pos (YR [] X.env)) ?DQ):=by rfl):
  PE X (.Call (.Attribute o m apos) [] [] pos) (Vh ms m ta sJ):=by
 intro pins s σ H Q I h;refine iO (pl:=pl) (eZ ?AY λu s1 zz=>?_) ht;obtain⟨x,H1,I1,rx,cs,hcs,a,dx,fs,ex,ea,l,q⟩:=zz;subst ex;obtain rfl:u=Y0 a:=rx;obtain⟨f,fd,ps,c,hm,F,hb⟩:=M cs hcs;refine uN I1 ea c hm l ?_;exact CY (first:=?BV) I1.kIn hm.kp (Eu (us:=?BV) (vs:=?BV) F hr hb .nil fc I1 (.cons rfl .nil) q)
end
section
variable{X:Cx}{K:Yd}
theorem au{e:YZ}{ta:TE}{f:Ym}{pos:iL}(hK:X.K=K)(he:PE X e ta)(hb:kH e f X.env (ay e X.env)=ay e X.env):PE X (.Attribute e f pos) (amy K ta f):=by subst hK;exact akP he hb
theorem aU{o value:YZ}{ta tv:TE}{f:Ym}{pos pos':iL}(hK:X.K=K)(ha:PE X o ta)(hv:PE X value tv)(hs:w8 value (Ya (.Attribute o f pos')) pos.line X.env=pure false):PS X (.Assign [.Attribute o f pos'] value pos) (ae8 K ta tv f):=by subst hK;exact alg ha hv hs
end
section
variable{D:Iu}{σ:St}{H:Hp}{Q:VK}{K:Yd}
def anB(K:Yd)(f:Ym)(x:V)(H:Hp)(Q:VK):Prop:=∃a C dx fs v,x=.ref a/\H a=Ya (.ins C dx fs)/\T4 K C/\cH K C f/\fs.lookup f=Ya v/\Q v H
theorem an8{ta:TE}{f:Ym}(h:ta σ H λx H1=>anB K f x H1 Q):amy K ta f σ H Q:=h
theorem alA{f:Ym}{a C dx:Yc}{fs:List ?GQ}{v:V}(e:H a=Ya (.ins C dx fs))(c:T4 K C)(n:cH K C f)(l:fs.lookup f=Ya v)(h:Q v H):anB K f (.ref a) H Q:=⟨a,C,dx,fs,v,rfl,e,c,n,l,h⟩
def sfK(K:Yd)(f:Ym)(y x:V)(H:Hp)(R:Hp->Prop):Prop:=∃a C dx fs,x=.ref a/\H a=Ya (.ins C dx fs)/\T4 K C/\cH K C f/\fs.length<1000/\R (upd H a (.ins C dx (dD f y fs)))
theorem amY{ta tv:TE}{f:Ym}(h:tv σ H λy H1=>ta σ H1 λx H2=>sfK K f y x H2 λH3=>D.nx σ H3):ae8 K ta tv f D σ H:=h
theorem anW{f:Ym}{y:V}{a C dx:Yc}{fs:List ?GQ}{R:Hp->Prop}(e:H a=Ya (.ins C dx fs))(c:T4 K C)(n:cH K C f)(hl:fs.length<1000)(h:∀H2,But a H H2->H2 a=Ya (.ins C dx (dD f y fs))->R H2):sfK K f y (.ref a) H R:=⟨a,C,dx,fs,rfl,e,c,n,hl,h _ .upd aA⟩
theorem ai1{ms:List (Yc×Sp)}{m:Ym}{ta:TE}{t:TA}(h:ta σ H λx H1=>mtS ms m t σ x H1 Q):Vh ms m ta t σ H Q:=h
theorem Aa{ms:List (Yc×Sp)}{m:Ym}{t:TA}{C a dx:Yc}{sp:Sp}{fs:List ?GQ}(e:H a=Ya (.ins C dx fs))(l:fs.lookup m=Yb)(h:t σ H λvs H2=>sp (.ref a::(vs++[])) H2 Q E0):mtS ((C,sp)::ms) m t σ (.ref a) H Q:=
 ⟨(C,sp),Yf,a,dx,fs,rfl,e,l,h⟩
def mkK(C:Yc)(sp:Sp)(vs:List V)(H:Hp)(Q:VK):Prop:=∀x dx,H x=Yb->H dx=Yb->dx≠x->sp (.ref x::(vs++[])) (upd (upd H dx (.own x)) x (.ins C dx [])) ?DT E0
theorem ald{C:Yc}{sp:Sp}{t:TA}(h:t σ H λvs H1=>mkK C sp vs H1 Q):ada C sp [] E0 t σ H Q:=h
theorem apw{C:Yc}{sp:Sp}{vs:List V}(h:∀x dx H',H x=Yb->aW H H'->H' x=Ya (.ins C dx [])->sp (.ref x::(vs++[])) H' ?DT E0):mkK C sp vs H Q:=by
 intro x dx nx ndx nex;refine h x dx _ nx (λb o e=>?_) aA;rw[aQ (bB e nx),aQ (bB e ndx)];exact e
end
theorem apz{f b c:St->Hp->Prop}{r:VK}{σ:St}{H:Hp}(h:f σ H):Iu.nx ⟨f,r,b,c⟩ σ H:=h
theorem anM{σ:St}{H:Hp}{R:Bool->Hp->Prop}(h:R true H):aje σ H R:=h
theorem alC{g:TG}{tt:TT}{te:TE}{D:Yc}{N:St->Hp->Prop}{x:V}{σ:St}{H:Hp}(h:g x σ H λσ2 H2=>tt σ2 H2 λb H3=>if b=true then te σ2 H3 λy H4=>∃ys,H4 D=Ya (.lst ys)/\ys.length<YB/\N σ2 (upd H4 D (.lst (ys++[y])))else N σ2 H3):pL g tt te D N x σ H:=h
theorem amH{D:Iu}{σ:St}{H:Hp}{c:TT}{u:TS}(h:c σ H λb H1=>if b=true then False else u D σ H1):aJ (aiQ c agY adI) u D σ H:=h
theorem DW{K:Yd}{H H':Hp}{a:Yc}{xs:List V}(e:aW H H')(h:dC K H a xs):dC K H' a xs:=by
 rcases h with(h|⟨o,h⟩)|h
 ·exact .inl (.inl (e _ _ h))
 ·exact .inl (.inr ⟨o,e _ _ h⟩)
 ·exact .inr h
def SmB(d:Yc)(B H:Hp):Prop:=∀b o,b≠d->B b=Ya o->H b=Ya o
noncomputable def dG(m:List ?BE):List ?DG:=m.map λp=>(YY p.1,p.2)
theorem Lz(m:List ?BE):(dG m).length=m.length:=Yk ..
noncomputable def lkG:List ?BE->Int->Option V
 |[],_=>Yb
 |p::m,k=>if p.1=k then Ya p.2 else lkG m k
theorem ab8:∀(m:List ?BE) (k:Int),JK (dG m) (YY k:d9)=lkG m k
 |[],_=>rfl
 |p::m,k=>by
  show JK ((YY p.1,p.2)::dG m) (YY k)=_;unfold lkG;by_cases e:p.1=k
  ·rw[if_pos e,CV (by rw[e])]
  ·rw[if_neg e,CP (λz=>e (md z)),ab8 m k]
noncomputable def uf:List ?BE->Int->V->List ?BE
 |[],k,v=>[(k,v)]
 |p::m,k,v=>if p.1=k then(p.1,v)::m else p::uf m k v
theorem aiy:∀(m:List ?BE) (k:Int) (v:V) (j:Int),lkG (uf m k v) j=if j=k then Ya v else lkG m j
 |[],k,v,j=>by
  show(if k=j then Ya v else Yb)=_;by_cases e:j=k
  ·rw[if_pos e,if_pos e.symm]
  ·rw[if_neg e,if_neg (λz=>e z.symm)];rfl
 |p::m,k,v,j=>by
  show lkG (if p.1=k then(p.1,v)::m else p::uf m k v) j=if j=k then Ya v else(if p.1=j then Ya p.2 else lkG m j)
  by_cases e:p.1=k
  ·rw[if_pos e];show(if p.1=j then Ya v else lkG m j)=_;by_cases e2:j=k
   ·rw[if_pos e2,if_pos (e.trans e2.symm)]
   ·rw[if_neg e2,if_neg (λz=>e2 (z.symm.trans e)),if_neg (λz=>e2 (z.symm.trans e))]
  ·rw[if_neg e];show(if p.1=j then Ya p.2 else lkG (uf m k v) j)=_;rw[aiy m k v j];by_cases e2:j=k
   ·rw[if_pos e2,if_neg (λz=>e (z.trans e2)),if_pos e2]
   ·rw[if_neg e2,if_neg e2]
theorem Ua:∀(m:List ?BE) (k:Int) (v:V) (x:Int),x∈(uf m k v).map (·.1)↔x=k\/x∈m.map (·.1)
 |[],k,v,x=>by simp[uf]
 |p::m,k,v,x=>by
  show x∈(if p.1=k then(p.1,v)::m else p::uf m k v).map (·.1)↔_;by_cases e:p.1=k
  ·rw[if_pos e];simp only[YS,Yz];constructor
   ·exact λh=>.inr h
   ·rintro(h|h)
    ·exact .inl (h.trans e.symm)
    ·exact h
  ·rw[if_neg e];simp only[YS,Yz];have:=Ua m k v x;constructor
   ·rintro(h|h)
    ·exact .inr (.inl h)
    ·rcases this.mp h with h|h
     ·exact .inl h
     ·exact .inr (.inr h)
   ·rintro(h|h|h)
    ·exact .inr (this.mpr (.inl h))
    ·exact .inl h
    ·exact .inr (this.mpr (.inr h))
theorem adc:∀(m:List ?BE) (k:Int) (v:V),(m.map (·.1)).Nodup->((uf m k v).map (·.1)).Nodup
 |[],k,v,_=>by simp[uf]
 |p::m,k,v,h=>by
  show((if p.1=k then(p.1,v)::m else p::uf m k v).map (·.1)).Nodup;rw[YS,d5]at h;by_cases e:p.1=k
  ·rw[if_pos e,YS,d5];exact h
  ·rw[if_neg e,YS,d5];refine⟨λz=>?_,adc m k v h.2⟩;rcases(Ua m k v p.1).mp z with z|z
   ·exact e z
   ·exact h.1 z
theorem Ge:∀(m:List ?BE) (k:Int) (v:V) (p:Int×V),p∈uf m k v->p=(k,v)\/p∈m
 |[],k,v,p,h=>.inl (by simpa [uf]using h)
 |q::m,k,v,p,h=>by
  have h':p∈(if q.1=k then(q.1,v)::m else q::uf m k v):=h;by_cases e:q.1=k
  ·rw[if_pos e]at h';rcases Yz.mp h' with z|z
   ·exact .inl (by rw[z,e])
   ·exact .inr (Yh _ z)
  ·rw[if_neg e]at h';rcases Yz.mp h' with z|z
   ·exact .inr (by rw[z];exact Yf)
   ·rcases Ge m k v p z with z|z
    ·exact .inl z
    ·exact .inr (Yh _ z)
theorem agG(k:Int):∀m:List ?BE,((dG m).any λkv=>decide (kv.1=(YY k:d9)))=m.any λp=>decide (p.1=k)
 |[]=>rfl
 |p::m=>by
  show(decide ((YY p.1:d9)=YY k)||(dG m).any _)=(decide (p.1=k)||m.any _);rw[agG k m];congr 1;rw[decide_eq_decide];exact⟨λh=>md h,λh=>congrArg _ h⟩
theorem Pk:∀(m:List ?BE) (k:Int) (v:V),(m.any λp=>decide (p.1=k))=false->uf m k v=m++[(k,v)]
 |[],_,_,_=>rfl
 |p::m,k,v,h=>by
  rw[kL,CC]at h;show(if p.1=k then(p.1,v)::m else p::uf m k v)=_;rw[if_neg (of_decide_eq_false h.1),Pk m k v h.2];rfl
theorem aaK:∀(m:List ?BE) (k:Int) (v:V),(m.map (·.1)).Nodup->(m.any λp=>decide (p.1=k))=true->uf m k v=m.map λp=>if p.1=k then(p.1,v)else p
 |[],_,_,_,h=>by cases h
 |p::m,k,v,nd,h=>by
  rw[YS,d5]at nd;show(if p.1=k then(p.1,v)::m else p::uf m k v)=(if p.1=k then(p.1,v)else p)::m.map _;by_cases e:p.1=k
  ·rw[if_pos e,if_pos e];congr 1;have:m.map (λp=>if p.1=k then(p.1,v)else p)=m.map id:=jv λq hq=>by
    rw[if_neg (λz=>nd.1 (by rw[e,<-z];exact eJ hq))];rfl
   rw[this,EX]
  ·rw[if_neg e,if_neg e,aaK m k v nd.2 (by
    rw[kL,decide_eq_false e,gy]at h;exact h)]
theorem agH(m:List ?BE)(k:Int)(v:V)(nd:(m.map (·.1)).Nodup):tR (dG m) (YY k:d9) (v)=dG (uf m k v):=by
 unfold tR;rw[agG];cases e:m.any λp=>decide (p.1=k)with
 |false=>
  rw[Pk m k v e];unfold dG;rw[YG];rfl
 |true=>
  rw[aaK m k v nd e];unfold dG;rw[cw,if_pos rfl,cw];apply jv;intro p _;show(if(YY p.1:d9)=YY k then((YY p.1:d9),v)else(YY p.1,p.2))=((YY (if p.1=k then(p.1,v)else p).1:d9),(if p.1=k then(p.1,v)else p).2);by_cases z:p.1=k
  ·rw[if_pos (congrArg _ z),if_pos z]
  ·rw[if_neg (λq=>z (md q)),if_neg z]
section
variable{X:Cx}
theorem Qx{α β:Type}{R:α->β->Prop}:∀{xs:List α} {ys:List β},xs.length=ys.length->(∀(i:Nat) x y,xs[i]?=Ya x->ys[i]?=Ya y->R x y)->dQ R xs ys:=by
 intro xs
 induction xs with
 |nil=>
  intro ys h _;cases ys with
  |nil=>exact .nil
  |cons _ _=>cases h
 |cons x xs ih=>
  intro ys h k;cases ys with
  |nil=>cases h
  |cons y ys=>exact .cons (k 0 x y rfl rfl) (ih (zk h) λi a b ha hb=>k ?DP a b (by simpa using ha) (by simpa using hb))
theorem jt:jQ X (.builtin "sorted") (λxs H Q=>∃(p:Yc) (ns:List Int),xs=?CD/\bK X.K H p ?A1/\ns.length<64/\∀(l:Yc) (ms:List Int),H l=Yb->ms.Perm ns->ms.Pairwise (·<=·)->Q (.ref l) (upd H l (.lst (ms.map V.int)))):=by
 intro pins s σ H xs us Q I r h;obtain⟨p,ns,rfl,hp,hl,q⟩:=h;obtain⟨u,rfl,rx⟩:=lQ r;cases rx;obtain⟨its,rv,pl,hz⟩:=I.list hp;have hi:=m9 rv;refine sorted_ints pl.isList hi (by rw[hi.length];exact hl) λout ms a1 a2 a3=>?_;obtain⟨e,he⟩:=sortedAll_at s.heap its out;refine⟨.ref ?U,_,I.laid (o:=.lst (ms.map V.int)) (t':=s.toks) (λb o e=>sortedAll_old e) (gx _) ⟨?_,out.toList,e,Ga a1,he⟩,rfl,q _ ms (I.hok.fresh (gx _)) a2 a3⟩;rw[Yk,a2.length_eq];exact Y5 (bx ?D)
theorem Xp:∀(ns:List Int) (n:Nat),n<=ns.length->preSum ?GJ n=(ns.take n).sum:=by
 intro ns n
 induction n with
 |zero=>intro _;rfl
 |succ n ih=>
  intro h;show preSum _ n+ ns.getD n 0=_;rw[ih ?D,BQ,AQ];have:n<ns.length:=h;rw[YO,Yv this];simp
theorem aeg(hc:X.calm=true):jQ X (.builtin "sum") (λxs H Q=>∃(p:Yc) (ns:List Int),xs=?CD/\bK X.K H p ?A1/\Q (.int ns.sum) H):=by
 intro pins s σ H xs us Q I r h;obtain⟨p,ns,rfl,hq,q⟩:=h;obtain⟨u,rfl,rx⟩:=lQ r;cases rx;obtain⟨its,rv,pl,hz⟩:=I.list hq;have hl:its.toArray.size=ns.length:=by rw[Yx,<-rv.length,Yk]
 have hp:p<s.heap.objs.size:=let ⟨_,z,_⟩:=pl.isList;Yu z;refine call_sum_walkG (fy pl.isList ?_);refine⟨s.heap.objs.size,[s.heap.objs.size,p],[s.heap.objs.size],its.toArray.size,_,_,λi=>ns.getD i 0,rfl,uS (A:=X.A.in1) ?BK _ p (YF hp) its.toArray,
  ⟨⟨_,Yq _ rfl,rfl,rfl⟩,pl.isList.push _⟩,λb hb=>?_,λi v hP=>?_,λh' tk t' kp=>?_⟩
 ·rw[fw];rcases Yz.mp hb with z|z
  ·rw[z];exact jI _
  ·rw[YU.mp z];exact kP hp
 ·have hv:its[i]?=Ya v:=by simpa using hP
  have hb:i<ns.length:=by
   have:=(Ys.mp hv).1;rw[<-hl,Yx];exact this
  obtain⟨u,hu,ru⟩:=rv.get (i:=i) (x:=V.int ns[i]) (by rw[Yw,Yv hb];rfl);rw[hv]at hu;cases hu;obtain⟨t,rfl⟩:=ru;refine⟨t,?_⟩;show kc ns[i] t=kc (ns.getD i 0) t;rw[YO,Yv hb,FF]
 ·refine⟨.int ns.sum,H,I.kept (t':=tk) λb o e=>kp b o ?_ (Yi _ e),⟨t',?_⟩,q⟩
  ·intro z;have z':b=s.heap.objs.size:=by simpa using z
   exact absurd (Yu e) ?CP
  ·rw[hl,Xp ns ns.length ?BU,cx]
abbrev ab5(H:Hp):List V->List ?BE->Prop:=dQ λx p=>∃a,x=.ref a/\H a=Ya (.tup [.int p.1,p.2])
theorem ae5{pins:List ?AQ}{σ:St}{H:Hp}{s:Yl}(I:bH X pins σ H s):∀{xs:List V} {us:List Ye} {ps:List ?BE},ab5 H xs ps->Vals xs us->
  ∃kx:List (d9×Ye),KV (dG ps) kx/\kx.length=us.length/\∀(i:Nat) v,us[i]?=Ya v->∃a key k x o c,v=.ref a/\kx[i]?=Ya (k,x)/\(bT X.prog X.w).is k key=true/\s.heap.get? a=Ya o/\o.cls=.type "tuple"/\o.data=.seq #[key,x] c:=by
 intro xs us ps w
 induction w generalizing us with
 |nil=>
  intro w;cases w;exact⟨[],.nil,rfl,λi v e=>by simp at e⟩
 |@cons x p xs ps h t ih=>
  intro w;cases w with|cons r q=>
  rename_i u us;obtain⟨kx,k1,k2,k3⟩:=ih q;obtain⟨a,rfl,ha⟩:=h;obtain rfl:u=Y0 a:=r;obtain⟨_,its,rv,o,ho,hc,n,hd,_⟩:[V.int p.1,p.2].length<=YB/\∃its:List Ye,Vals [V.int p.1,p.2] its/\xg s.heap a its.toArray:=I.hok a _ ha;obtain⟨u1,u2,rfl,r1,r2⟩:=aaq rv;obtain⟨t1,rfl⟩:=r1;refine⟨(YY p.1,u2)::kx,.cons ⟨rfl,r2⟩ k1,congrArg (·+ 1) k2,λi v e=>?_⟩;cases i with
  |zero=>
   have e':Y0 a=v:=YK e;subst e';exact⟨a,_,_,u2,o,n,rfl,rfl,Dq X.prog X.w p.1 t1,ho,hc,hd⟩
  |succ i=>exact k3 i v e
theorem Um:∀(ps acc:List ?BE),((acc++ps).map (·.1)).Nodup->oK (dG acc) (dG ps)=dG (acc++ps)
 |[],acc,_=>by rw[dA];rfl
 |p::ps,acc,h=>by
  have e:oK (dG acc) (dG (p::ps))=oK (tR (dG acc) (YY p.1:d9) p.2) (dG ps):=rfl;have h1:(acc.map (·.1)).Nodup:=by rw[YG]at h;exact(i9.mp h).1
  have h2:p.1∉acc.map (·.1):=by
   rw[YG,YS]at h;intro z;exact(i9.mp h).2.2 _ z _ Yf rfl
  rw[e,agH acc p.1 p.2 h1,Pk acc p.1 p.2 (by
   rw[xC];intro q hq;exact λz=>h2 (by rw[<-of_decide_eq_true z];exact eJ hq)),Um ps (acc++[p]) (by rw[kN];exact h),kN]
  rfl
theorem abE(hc:X.calm=true):jQ X (.type "dict") (λxs H Q=>∃(a:Yc) (ys:List V) (ps:List ?BE),xs=?BV/\H a=Ya (.lst ys)/\ab5 H ys ps/\(ps.map (·.1)).Nodup/\ps.length<=1000/\∀p,H p=Yb->Q (.ref p) (upd H p (.dK (dG ps)))):=by
 intro pins s σ H xs us Q I r h;obtain⟨a,ys,ps,rfl,ha,hp,nd,hl,q⟩:=h;obtain⟨u,rfl,rx⟩:=lQ r;cases rx;obtain⟨z,its,n,rv,hlen,e⟩:=I.lstM ha;obtain⟨kx,k1,k2,k3⟩:=ae5 I hp rv;refine GX.JZ (knd:=bT X.prog X.w) ?BK e (by rw[<-hlen];exact z) k2 k3 λh' tk kp dd=>?_;have rel:KV (dG ps) (y8 [] kx):=by
  have:=KV.merge k1 (show KV (dG []) []from .nil);rw[Um ps [] (by simpa using nd)]at this;exact this
 refine⟨.ref s.heap.objs.size,_,I.laid (t':=tk) kp ?BU (Wf ?_ (beq_eq_false_iff_ne.mpr (Ne.symm (YF I.big))) rel dd),rfl,q _ ?AL⟩;rw[Lz];exact Y5 (bx hl)
end
section
variable{D:Iu}{σ:St}{H:Hp}{Q:VK}
theorem Uy{d:Yc}{H A:Hp}{u:HO}(s:SmB d H A)(h:H d=Ya u):aW H (upd A d u):=λb o e=>by
 by_cases z:b=d
 ·subst z;rw[h]at e;cases e;exact aA
 ·rw[aQ z];exact s b o z e
theorem anZ{d:Yc}{m:List ?BE}{k:Int}{v:V}{P:V->Prop}(hd:Rd H d (.dK (dG m)))(hk:lkG m k=Ya v)(h:P v):∃a v,V.ref d=.ref a/\Vm H a (.int k) (Ya v)/\P v:=
 ⟨d,v,rfl,.inl ⟨_,YY k,hd,rfl,by rw[ab8,hk]⟩,h⟩
theorem ami{d:Yc}{m:List ?BE}{k:Int}{P:Option V->Prop}(hd:Rd H d (.dK (dG m)))(h:P (lkG m k)):∃a o,V.ref d=.ref a/\Vm H a (.int k) o/\P o:=⟨d,_,rfl,.inl ⟨_,YY k,hd,rfl,(ab8 m k).symm⟩,h⟩
theorem ajA{d:Yc}{m:List ?BE}{k:Int}{v:V}{P:Hp->Prop}(hd:H d=Ya (.dK (dG m)))(nd:(m.map (·.1)).Nodup)(hl:m.length<YB)(h:∀H2,But d H H2->H2 d=Ya (.dK (dG (uf m k v)))->P H2):∃a H4,V.ref d=.ref a/\aiC H a (.int k) v H4/\P H4:=
 ⟨d,_,rfl,.inl ⟨_,YY k,hd,rfl,by rw[Lz];exact hl,rfl⟩,h _ .upd (by rw[aA,agH m k v nd])⟩
end
theorem agz{n h:Int}(h0:0<=n)(h1:0<=h):(!decide (V.int (YA n (2^h.toNat))=V.int 0))=n.toNat.testBit h.toNat:=by
 have e1:(0:Int)<=2^h.toNat:=eF _;have e2:((2:Int)^h.toNat).toNat=2^h.toNat:=by
  have:((2:Int)^h.toNat)=((2^h.toNat:Nat):Int):=by push_cast;rfl
  rw[this,Yy]
 rw[JY h0 e1,e2];cases q:n.toNat.testBit h.toNat with
 |false=>
  rw[(GB.adw _ _).mpr q];rfl
 |true=>
  have z:¬ (n.toNat &&& 2^h.toNat=0):=λz=>by rw[(GB.adw _ _).mp z]at q;cases q
  have z':¬ V.int ((n.toNat &&& 2^h.toNat:Nat):Int)=V.int 0:=λe=>z (by injection e with e;omega);rw[decide_eq_false z'];rfl
noncomputable def Rc(n:Int)(i:Nat):List Int:=((cq i).filter λh=>n.toNat.testBit h).map (fun(h:Nat)=>(h:Int))
theorem af7(n:Int)(i:Nat):(Rc n i).length<=i:=by
 unfold Rc;rw[Yk];have:=tJ (λh=>n.toNat.testBit h) (cq i);rw[cK]at this;exact this
theorem ahN{n:Int}{i:Nat}(h:n.toNat.testBit i=true):Rc n (i+ 1)=Rc n i++[(i:Int)]:=by
 unfold Rc;rw[qB,nV,YG,zh,h];rfl
theorem aip{n:Int}{i:Nat}(h:n.toNat.testBit i=false):Rc n (i+ 1)=Rc n i:=by
 unfold Rc;rw[qB,nV,YG,zh,h];exact dA _
theorem aev{n:Int}(h0:0<=n)(h1:n<9223372036854775808):eI n<=63/\Rc n (eI n)=GB.hl n:=by
 have a:n.natAbs=n.toNat:=by omega
 have l:n.toNat<2^63:=by
  have:(2:Nat)^63=9223372036854775808:=by decide
  omega
 have b:eI n<=63:=JE (by rw[a];exact l);refine⟨b,?_⟩;unfold Rc GB.hl;rw[GB.aiL b];unfold eI;by_cases z:n=0
 ·subst z;decide
 ·have z':(n==0)=false:=by simpa using z
  rw[z',a];exact Nat.lt_log2_self
theorem Q8:∀{l m:List Nat},l.Pairwise (·<·)->m.Pairwise (·<·)->(∀x,x∈l↔x∈m)->l=m
 |[],[],_,_,_=>rfl
 |[],y::m,_,_,h=>absurd ((h y).mpr Yf) ?N
 |x::l,[],_,_,h=>absurd ((h x).mp Yf) ?N
 |x::l,y::m,hl,hm,h=>by
  rw[xb]at hl hm;have e:x=y:=by
   rcases Yz.mp ((h x).mp Yf)with z|z
   ·exact z
   ·rcases Yz.mp ((h y).mpr Yf)with w|w
    ·exact w.symm
    ·have:=hm.1 x z;have:=hl.1 y w;omega
  subst e;rw[Q8 hl.2 hm.2 λz=>?_];constructor
  ·intro hz;rcases Yz.mp ((h z).mp (Yh _ hz))with w|w
   ·subst w;exact absurd (hl.1 _ hz) (Y2 _)
   ·exact w
  ·intro hz;rcases Yz.mp ((h z).mpr (Yh _ hz))with w|w
   ·subst w;exact absurd (hm.1 _ hz) (Y2 _)
   ·exact w
theorem aau{α:Type}{P:List α->Prop}(h0:P [])(h1:∀l a,P l->P (l++[a]))(l:List α):P l:=by
 have key:∀r:List α,P r.reverse:=by
  intro r
  induction r with
  |nil=>exact h0
  |cons a r ih=>rw[List.reverse_cons];exact h1 _ _ ih
 have:=key l.reverse;rw[List.reverse_reverse]at this;exact this
theorem al0:∀(l:List Nat) (b:Nat),l.Pairwise (·<·)->(∀x∈l,x<b)->(l.map λh=>2^h).sum<2^b:=by
 refine aau ?_ ?_
 ·intro b _ _;exact Nat.two_pow_pos b
 ·intro l h ih b hp hb;rw[va]at hp;have h1:=ih h hp.1 λx hx=>hp.2.2 x hx h ?N;have h2:h<b:=hb h ?N;rw[YG,AQ];have h3:2^(h+ 1)<=2^b:=kU ?B h2;rw[Nat.pow_succ]at h3;simp only[YS,mn,iE,IZ];omega
theorem ai7:∀(l:List Nat),l.Pairwise (·<·)->(l.map λh=>2^h).sum=GB.abA l:=by
 refine aau ?_ ?_
 ·intro _;rfl
 ·intro l h ih hp;rw[va]at hp;have h1:=al0 l h hp.1 λx hx=>hp.2.2 x hx h ?N;have e:=ih hp.1;rw[YG,AQ];unfold GB.abA at e⊢;rw[xI,<-e];simp only[YS,mn,iE,IZ,hW,HI];have:=Nat.two_pow_add_eq_or_of_lt h1 1;rw[Nat.mul_one]at this;rw[Nat.add_zero,IS,this,Nat.or_comm]
structure Hs(hs:List Int):Prop where
 up:hs.Pairwise (·<·)
 rg:∀h∈hs,0<=h/\h<63
theorem Hs.nat{hs:List Int}(c:Hs hs):∃l:List Nat,hs=l.map (fun(h:Nat)=>(h:Int))/\l.Pairwise (·<·)/\∀x∈l,x<63:=by
 refine⟨hs.map tP,?_,?_,?_⟩
 ·rw[cw]
  conv=>lhs;rw[<-EX hs]
  refine jv λh hh=>?_;have:=(c.rg h hh).1;show h=((h.toNat:Nat):Int);omega
 ·rw[hJ];refine c.up.imp_of_mem fun{a b} ha hb h=>?_;have:=(c.rg a ha).1;omega
 ·intro x hx;obtain⟨h,hh,rfl⟩:=YD.mp hx;have:=c.rg h hh;omega
theorem aax:∀l:List Nat,(l.map fun(h:Nat)=>(h:Int)).sum=((l.sum:Nat):Int)
 |[]=>rfl
 |x::l=>by rw[YS,iE,iE,aax l];omega
theorem Hs.set{hs:List Int}(c:Hs hs):0<=(hs.map λh=>1*(2:Int)^h.toNat).sum/\(hs.map λh=>1*(2:Int)^h.toNat).sum<9223372036854775808/\GB.hl (hs.map λh=>1*(2:Int)^h.toNat).sum=hs:=by
 obtain⟨l,rfl,up,rg⟩:=c.nat
 have e:((l.map fun(h:Nat)=>(h:Int)).map λh=>1*(2:Int)^h.toNat).sum=((GB.abA l:Nat):Int):=by
  rw[<-ai7 l up,<-aax,cw,cw];congr 1;refine jv λh _=>?_;show 1*(2:Int)^((h:Int)).toNat=((2^h:Nat):Int);rw[Yy,BA]
  push_cast
  rfl
 have lt:GB.abA l<2^63:=GB.ajc rg;have p63:(2:Nat)^63=9223372036854775808:=by decide
 rw[e];refine⟨by omega,by omega,?_⟩;unfold GB.hl;rw[Yy];congr 1;refine Q8 (GB.wX _) up λx=>?_;rw[GB.J0,GB.X4];constructor
 ·rintro⟨_,h⟩;exact of_decide_eq_true h
 ·intro h;exact⟨rg x h,decide_eq_true h⟩
structure abx(K:Yd)(C:Yc):Prop where
 cl:T4 K C
 n1:cH K C "learnt"
theorem aeh{d:V}:([(("learnt":Ym),d)]:List ?GQ).lookup ("learnt":Ym)=Ya d:=by kernel_rfl
theorem agK{d:V}:([(("learnt":Ym),d)]:List ?GQ).lookup ("learn":Ym)=none:=by kernel_rfl
theorem agy{d:V}:([(("learnt":Ym),d)]:List ?GQ).lookup ("floor":Ym)=none:=by kernel_rfl
theorem ain{d:V}:([(("learnt":Ym),d)]:List ?GQ).lookup ("sure":Ym)=none:=by kernel_rfl
noncomputable def Itv(d:Yc)(o:Y6)(kvs:List ?DG):It:=
 ⟨λi H=>i<kvs.length/\H d=Ya (.frz o (.dK kvs)),λi H x H'=>H'=H/\∃k,kvs[i]?=Ya (k,x),λi H=>kvs.length<=i/\H d=Ya (.frz o (.dK kvs))⟩
theorem aec{P:YI}{w:YV}{K:Yd}{tg:YZ}{d it:Yc}{o:Y6}{kvs:List ?DG}{vs:List (d9×Ye)}{ep:Nat}(rel:KV kvs vs)(fz:∀h:YT,h.get? d=Ya o->h.DictAt (bT P w) d vs ep):
  Turn P w K tg (Itv d o kvs) [it] it (λi h=>h.IsValIter it d i vs.length ep) where
 mem:=by simp
 obj:=λi h st b hb=>by
  have e:b=it:=by simpa using hb
  subst e;obtain⟨o,e,c,dd⟩:=st;exact⟨o,e,λv z=>by rw[dd]at z;cases z⟩
 keep:=λi h h' st k=>let ⟨o,e,c,dd⟩:=st;⟨o,k it ?N o e,c,dd⟩
 item:=by
  intro X hP hw hK hc i pins s σ H E I hf st hg;subst hP hw hK;obtain⟨hi,hd⟩:=hg;have hdo:s.heap.get? d=Ya o:=(show s.heap.get? d=Ya o/\_ from I.hok d _ hd).1;have hx:kvs[i]?=Ya kvs[i]:=Yv hi;obtain⟨u,hu,ru⟩:=rel.get (k:=kvs[i].1) (v:=kvs[i].2) hx;obtain⟨f0,f1,f2,f3,f4,f5⟩:=hf it ?N;refine wpAny_pyNext_values_item st (fz _ hdo) hu λh' st' sb=>?_;have I1:bH X pins σ H ?AM:=I.turned (t':=s.toks) ?DB f0 f1 f3 f4 f5;obtain⟨oo,e,c,dd⟩:=id st';exact⟨u,rfl,ac1 (s:=?AM) e c dd ?B ⟨kvs[i].2,H,I1,ru,⟨rfl,kvs[i].1,hx⟩,st',λb hb=>(hf b hb).1⟩⟩
 done:=by
  intro X hP hw hK hc i pins s σ H E I hf st hg;subst hP hw hK;obtain⟨hi,hd⟩:=hg;have hdo:s.heap.get? d=Ya o:=(show s.heap.get? d=Ya o/\_ from I.hok d _ hd).1;obtain⟨f0,f1,f2,f3,f4,f5⟩:=hf it ?N;have hlen:kvs.length=vs.length:=KV.length rel;exact wpAny_pyNext_values_end ?BK st (fz _ hdo) (gc ?D) λh' eb=>⟨rfl,I.turned (t':=s.toks) ?D1 f0 f1 f3 f4 f5⟩
 self:=λ_ _ _ _ _ st h=>CH st h
section
variable{X:Cx}
def akI(td:TE):TI:=λσ H R=>td σ H λx H1=>∃d kvs,x=.ref d/\H1 d=Ya (.dK kvs)/\∀o,R (Itv d o kvs) ?IL
theorem ai0{tg e:YZ}{apos cpos:iL}{td:TE}(he:PE X e td)(hbase:kH e "values" X.env (ay e X.env)=ay e X.env:=by rfl)(hline:(apos.endLine==cpos.line)=true:=by rfl):
  PI X tg (.Call (.Attribute e "values" apos) [] [] cpos) (akI td):=by
 intro pins s σ H R I h;refine nh hbase hline (eZ ?AY λv s1 zz=>?_);obtain⟨x,H1,I1,r1,d,kvs,ex,hd,q⟩:=zz;subst ex;obtain rfl:v=Y0 d:=r1;obtain⟨z,hS,vs,rel,dd⟩:=aaA I1.hok hd;obtain⟨h1,h2⟩:=Ln (T:="dict") I1 (x:=.ref d) rfl (.inr (.inr (.inl ⟨rfl,.inl ⟨kvs,hd⟩⟩)));refine⟨"dict","dict.values",gX,gi,mE,h1,h2,j3 rfl (qo ?_)⟩;refine DU gi h1 yA (xt _) (ET ?D3 d hS) ⟨⟨vs,dd⟩,?_⟩;have dd':(s1.heap.push {cls:=.type "dict_values",data:=.fields #[.ref d]}).DictOf ?D3 d vs:=dd.push _;obtain⟨o,es,ep,ho,rr⟩:=id dd';have fz:∀h:YT,h.get? d=Ya o->h.DictAt ?D3 d vs ep:=λh hh=>⟨o,es,hh,rr⟩;have I2:bH X pins σ H1 {s1 with heap:=s1.heap.push {cls:=.type "dict_values",data:=.fields #[.ref d]}}:=I1.kept (t':=s1.toks) λb ob e=>Yi _ e;have hv:(s1.heap.push {cls:=.type "dict_values",data:=.fields #[.ref d]}).IsValuesView s1.heap.objs.size d:=⟨_,Yq _ rfl,rfl,rfl⟩;show Yn _ _ (uj (.ref s1.heap.objs.size)) _ _ _;refine wpAny_pyIter_values hv (fz _ ho) ?_;have I3:bH X pins σ ?IL {s1 with heap:=s1.heap.push {cls:=.type "dict_values",data:=.fields #[.ref d]}}:=
  I2.write (t':=s1.toks) (x:=d) (e:=d) (by rw[hd];trivial) (.inl rfl) ?IQ ⟨o,ho⟩ ⟨ho,z,hS,vs,rel,dd'⟩
 refine⟨_,[_],_,Itv d o kvs,upd H1 d (.frz o (.dK kvs)),rfl,I3.kept (t':=s1.toks) λb ob e=>Yi _ e,aec rel fz,⟨_,Yq _ rfl,rfl,rfl⟩,λb hb=>?_,q o⟩;have eb:b=(s1.heap.push {cls:=.type "dict_values",data:=.fields #[.ref d]}).objs.size:=by simpa using hb
 subst eb;exact I3.fpOk ?BU (I3.hok.fresh ?BU)
end
theorem aez{d:Yc}{o:Y6}{kvs:List ?DG}{g:TG}{tt:TT}{te:TE}{σ:St}{H:Hp}{D:Yc}{Qe:Hp->Prop}(Pv:Nat->St->Hp->Prop)(h0:Pv 0 σ H)(hl:∀i σ H,i<=kvs.length->Pv i σ H->H d=Ya (.frz o (.dK kvs)))
  (hs:∀i k v σ H,kvs[i]?=Ya (k,v)->Pv i σ H->pL g tt te D (Pv ?DP) v σ H) (hd:∀σ H,Pv kvs.length σ H->Qe H):
  ∃W:Nat->Nat->St->Hp->Prop,?ES/\∀i m σ' H',W i m σ' H'->((Itv d o kvs).stop i H'/\Qe H')\/((Itv d o kvs).go i H'/\∃N:St->Hp->Prop,?V/\
   ∀x H'',(Itv d o kvs).yld i H' x H''->pL g tt te D N x σ' H''):=by
 refine⟨λi m σ H=>m=kvs.length-i/\i<=kvs.length/\Pv i σ H,⟨kvs.length,by simp,YX _,h0⟩,?_⟩;rintro i m σ H ⟨rfl,hi,p⟩;have q:=hl i σ H hi p;by_cases hlt:i<kvs.length
 ·refine .inr ⟨⟨hlt,q⟩,Pv ?DP,λσ' H' p'=>⟨kvs.length-(i+ 1),by omega,rfl,hlt,p'⟩,λx H' y=>?_⟩;obtain⟨rfl,k,e1⟩:=y;exact hs i k x σ _ e1 p
 ·have e:i=kvs.length:=by omega
  subst e;exact .inl ⟨⟨Yo _,q⟩,hd σ H p⟩
def fzK(J:Yc->Y6->List ?DG->It)(x:V)(H:Hp)(R:It->Hp->Prop):Prop:=∃d kvs,x=.ref d/\H d=Ya (.dK kvs)/\∀o,R (J d o kvs) (upd H d (.frz o (.dK kvs)))
theorem ajQ{td:TE}{σ:St}{H:Hp}{R:It->Hp->Prop}(h:td σ H λx H1=>fzK Itv x H1 R):akI td σ H R:=h
theorem an7{J:Yc->Y6->List ?DG->It}{H:Hp}{d:Yc}{kvs:List ?DG}{R:It->Hp->Prop}(hd:H d=Ya (.dK kvs))(h:∀o A,A d=Ya (.frz o (.dK kvs))->SmB d H A->R (J d o kvs) A):fzK J (.ref d) H R:=
 ⟨d,kvs,rfl,hd,λo=>h o _ aA λb u n e=>by rw[aQ n];exact e⟩
theorem af3{t:TS}{D:Iu}{σ:St}{H:Hp}{d:Yc}{kvs:List ?DG}(hd:H d=Ya (.dK kvs))(h:t {D with nx:=λσ' H'=>(∃o,H' d=Ya (.frz o (.dK kvs)))/\D.nx σ' (upd H' d (.dK kvs)),rt:=λv H'=>(∃o,H' d=Ya (.frz o (.dK kvs)))/\D.rt v (upd H' d (.dK kvs))} σ H):akn t D σ H:=⟨d,kvs,hd,h⟩
section
variable{X:Cx}
end
section
variable{X:Cx}
noncomputable def WN(v d:Yc):HO:=.ext λh=>h.IsValuesView v d
theorem acP:MtR X "dict.values" (λx vs H Q=>∃d kvs,x=.ref d/\vs=[]/\H d=Ya (.dK kvs)/\∀v,H v=Yb->Q (.ref v) (upd H v (WN v d))):=by
 intro pins s σ H x xs v us Q I rx rv h;obtain⟨d,kvs,rfl,rfl,hd,q⟩:=h;cases rx;cases rv;obtain⟨z,hS,vs,rel,dd⟩:=aaA I.hok hd;obtain⟨h1,h2⟩:=Ln (T:="dict") I (x:=.ref d) rfl (.inr (.inr (.inl ⟨rfl,.inl ⟨kvs,hd⟩⟩)));refine DU gi h1 yA (xt _) (ET ?D3 d hS) ⟨⟨vs,dd⟩,?_⟩;refine⟨.ref s.heap.objs.size,_,I.laid (o:=WN s.heap.objs.size d) (t':=s.toks) (λb ob e=>Yi _ e) ?BU ⟨⟨_,Yq _ rfl,rfl,rfl⟩,⟨_,Yq _ rfl⟩,λh1 h2 ⟨o,e1,e2,e3⟩ k=>⟨o,k o e1,e2,e3⟩⟩,rfl,q _ ?AL⟩
theorem ack(hc:X.calm=true):jQ X (.type "list") (λxs H Q=>∃(v d:Yc) (kvs:List ?DG),xs=[.ref v]/\H v=Ya (WN v d)/\Rd H d (.dK kvs)/\kvs.length<=1000/\∀l,H l=Yb->Q (.ref l) (upd H l (.lst (kvs.map (·.2))))):=by
 intro pins s σ H xs us Q I r h;obtain⟨v,d,kvs,rfl,hv,hd,hlen,q⟩:=h;obtain⟨u,rfl,rx⟩:=lQ r;cases rx;obtain⟨z,hS,vs,rel,dd⟩:=Di I.hok hd;obtain⟨ep,hat⟩:=dd.dictAt;have hl:vs.length=kvs.length:=(KV.length rel).symm;have hvw:s.heap.IsValuesView v d:=(I.hok v _ hv).1;refine tF (A:=X.A) (PySem.W.kdl_values (knd:=bT X.prog X.w) (kvs:=vs) (ep:=ep)) ?BK ⟨hvw,hat⟩ ?EN λh' tk acc c hk he hacc=>?_;refine⟨.ref s.heap.objs.size,_,I.laid (o:=.lst (kvs.map (·.2))) (t':=tk) hk ?BU ⟨by rw[Yk];exact Y5 (bx hlen),acc.toList,c,Qx ?_ λi x u hx hu=>?_,he⟩,rfl,q _ ?AL⟩
 ·have e:acc.toList.length=vs.length:=by rw[aE];exact hacc.1
  rw[Yk,e,hl]
 ·rw[Y4]at hu;obtain⟨k,hk⟩:=hacc.2 i u hu;rw[Yw]at hx;cases e:kvs[i]? with
  |none=>rw[e]at hx;cases hx
  |some p=>
   rw[e]at hx;cases hx;obtain⟨u',hu',ru⟩:=rel.get (k:=p.1) (v:=p.2) e;rw[hk]at hu';cases hu';exact ru
theorem anu{K:Yd}{H:Hp}{a:Yc}{kvs:List ?DG}{P:Prop}(hd:H a=Ya (.dK kvs))(h:P):tyV K "dict" (.ref a) H/\P:=⟨.inr (.inr (.inl ⟨rfl,.inl ⟨kvs,hd⟩⟩)),h⟩
end
section
variable{X:Cx}
def aos:R2:=λx y H Q=>∃(a c:Yc) (m:List ?S),x=.ref a/\y=.ref c/\Rd H a (.dK (dI m))/\Rd H c (.dK [])/\Q (.bl (!m.isEmpty)) H
theorem akO(hu:X.A.units<hV):Fb X (cS .NotEq) aos:=by
 intro pins s σ H x y v u Q I rx ry h;obtain⟨a,c,m,rfl,rfl,ha,hb,q⟩:=h;cases rx;cases ry;obtain⟨_,s1,vs,r1,d1⟩:=Di I.hok ha;obtain⟨_,s2,ws,r2,d2⟩:=Di I.hok (show Rd H c (.dK (dI []))from hb);have e1:vs.length=m.length:=by rw[<-r1.length,Rm]
 have e2:ws.length=0:=by rw[<-r2.length,Rm];rfl
 refine PySem.W.keq_ne s1 s2 d1 d2 hu (r:=true) (λz=>adb r2 r1 (λp hp=>?_)) ⟨.bl (!m.isEmpty),H,I,?_,q⟩
 ·have:m.length=0:=by omega
  rw[List.length_eq_zero_iff.mp this]at hp;cases hp
 ·rw[e1,e2];cases m<;>rfl
theorem Jb{P:YI}{w:YV}:∀{m:List ?BE} {vs:List (d9×Ye)} {us:List Ye},KV (dG m) vs->us.length=vs.length->(∀(j:Nat) v,us[j]?=Ya v->∃k x,vs[j]?=Ya (k,x)/\(bT P w).is k v=true)->aT us ?IR
 |[],_,us,r,hl,h=>by
  have r':KV [] _:=r;cases r';cases us with
  |nil=>exact .nil
  |cons _ _=>cases hl
 |p::m,vs,us,r,hl,h=>by
  have r':KV ((YY p.1,p.2)::dG m) vs:=r;cases r' with
  |cons r1 r2=>
   rename_i q qs;cases us with
   |nil=>cases hl
   |cons u us=>
    obtain⟨k,x,e1,e2⟩:=h 0 u rfl;have e1':q=(k,x):=YK e1;subst e1';have ek:(YY p.1:d9)=k:=r1.1;subst ek;rcases eG (show Ju (YY p.1) u=true from e2)with⟨i,t,z1,z2⟩|⟨_,_,z,_⟩
    ·have z1':p.1=i:=md z1;rw[z2,<-z1'];exact .cons _ t (Jb (P:=P) (w:=w) r2 (zk hl) λj v e=>h (j+ 1) v e)
    ·cases z
theorem WD(hc:X.calm=true):jQ X (.builtin "sorted") (λxs H Q=>∃(d:Yc) (m:List ?BE),xs=[.ref d]/\Rd H d (.dK (dG m))/\m.length<64/\∀(l:Yc) (ns:List Int),H l=Yb->ns.Perm ?IR->ns.Pairwise (·<=·)->Q (.ref l) (upd H l (.lst ?A1))):=by
 intro pins s σ H xs us Q I r h;obtain⟨d,m,rfl,hd,hlen,q⟩:=h;obtain⟨u,rfl,rx⟩:=lQ r;cases rx;obtain⟨z,hS,vs,rel,dd⟩:=Di I.hok hd;obtain⟨ep,hat⟩:=dd.dictAt;have hl:vs.length=m.length:=by rw[<-rel.length,Lz]
 refine GX.Gb (DS _) (C0 (A:=X.A.in1) ?CS ?BK hat ?EN λh' tk acc hk hacc=>?_);have hi:aT acc.toList ?IR:=Jb (P:=X.prog) (w:=X.w) rel (by rw[aE];exact hacc.1) λj v e=>hacc.2 j v (by rw[<-Y4];exact e);have ha:acc.toList.length=m.length:=by rw[hi.length,Yk]
 have I1:bH X pins σ H ?AG:=I.kept hk;refine Ms hi (by rw[ha];exact hlen) (by rw[ha];exact Y5 (bx ?D)) λh2 out ns' e k2 he a1 a2 a3=>?_;have ln:ns'.length<=YB:=by rw[a2.length_eq,Yk];exact Y5 (bx ?D)
 exact⟨.ref h'.objs.size,_,I1.lay_ints (tk:=tk) k2 he a1 ln,rfl,q _ ns' ?D9 a2 a3⟩
end
theorem ab7{d:Yc}{o:Y6}{kvs:List ?DG}{g:TG}{tt:TT}{te:TE}{σ:St}{H:Hp}{D:Yc}{Qe:Hp->Prop}(Pv:Nat->St->Hp->Prop)(h0:Pv 0 σ H)(hl:∀i σ H,i<=kvs.length->Pv i σ H->H d=Ya (.frz o (.dK kvs)))
  (hs:∀i k v t σ H H1,kvs[i]?=Ya (k,v)->Pv i σ H->H t=Yb->aW H H1->H1 t=Ya (.tup [kV k,v])->pL g tt te D (Pv ?DP) (.ref t) σ H1) (hd:∀σ H,Pv kvs.length σ H->Qe H):
  ∃W:Nat->Nat->St->Hp->Prop,?ES/\∀i m σ' H',W i m σ' H'->((Itm d o kvs).stop i H'/\Qe H')\/((Itm d o kvs).go i H'/\∃N:St->Hp->Prop,?V/\
   ∀x H'',(Itm d o kvs).yld i H' x H''->pL g tt te D N x σ' H''):=by
 refine⟨λi m σ H=>m=kvs.length-i/\i<=kvs.length/\Pv i σ H,⟨kvs.length,by simp,YX _,h0⟩,?_⟩;rintro i m σ H ⟨rfl,hi,p⟩;have q:=hl i σ H hi p;by_cases hlt:i<kvs.length
 ·refine .inr ⟨⟨hlt,q⟩,Pv ?DP,λσ' H' p'=>⟨kvs.length-(i+ 1),by omega,rfl,hlt,p'⟩,λx H' y=>?_⟩;obtain⟨k,v,a,e1,e2,rfl,rfl⟩:=y;exact hs i k v a σ _ _ e1 p e2 (aH e2) aA
 ·have e:i=kvs.length:=by omega
  subst e;exact .inl ⟨⟨Yo _,q⟩,hd σ H p⟩
theorem ahO{td:TE}{σ:St}{H:Hp}{R:It->Hp->Prop}(h:td σ H λx H1=>fzK Itm x H1 R):ahG td σ H R:=h
theorem aew{d:V}:([(("learnt":Ym),d)]:List ?GQ).lookup ("listed":Ym)=none:=by kernel_rfl
theorem agI{d:V}:([(("learnt":Ym),d)]:List ?GQ).lookup ("merge":Ym)=none:=by kernel_rfl
theorem aoc{H:Hp}{Q:VK}{a c:Yc}{m:List ?S}(ha:Rd H a (.dK (dI m)))(hc:Rd H c (.dK []))(h:Q (.bl (!m.isEmpty)) H):aos (.ref a) (.ref c) H Q:=⟨a,c,m,rfl,rfl,ha,hc,h⟩
end L2
namespace GX
open PySem
section
variable{prog:YI}{w:YV}{A:Y7}{E:Ye->Yl->Prop}{s:Yl}{K:Type}[DecidableEq K]{knd:rV prog w K}
end
end GX
namespace L2
open PySem PySem.Spec PyProof.Rows
section
variable{X:Cx}
end
end L2
namespace GX
open PySem PyProof.Rows
theorem amb(a v d:Ye):km "max" ⟨[a],[(YL "key",v),(YL "default",d)]⟩:=by unfold km;kernel_rfl
end GX
namespace L2
open PySem PySem.Spec PyProof.Rows
variable{te td:TE}
abbrev TLs(K:Yd)(H:Hp):List V->List Nat->Prop:=dQ λv n=>∃a ys,v=.ref a/\dC K H a ys/\ys.length=n
def aj9(K:Yd)(te td:TE):TE:=λσ H Q=>te σ H λx H1=>td σ H1 λy H2=>∃l vs ns,x=.ref l/\bK K H2 l vs/\TLs K H2 vs ns/\(vs=[]->Q y H2)/\∀(i:Nat) v n,vs[i]?=Ya v->ns[i]?=Ya n->(∀j m,ns[j]?=Ya m->m<=n/\(j<i->m<n))->Q v H2
theorem iZ{α β:Type}{F:α->β->Prop}:∀{l:List α} {m:List β} {i:Nat} {a:α},dQ F l m->l[i]?=Ya a->∃b,m[i]?=Ya b/\F a b:=by
 intro a b i x w
 induction w generalizing i with
 |nil=>exact λe=>by simp at e
 |cons r _ ih=>
  intro e;cases i with
  |zero=>simp at e;subst e;exact⟨_,rfl,r⟩
  |succ i=>
   obtain⟨p,h1,h2⟩:=ih (i:=i) (by simpa using e);exact⟨p,by simpa using h1,h2⟩
section
variable{X:Cx}
theorem aft{K:Yd}{e dflt:YZ}{p p2 pos k1 k2:iL}(hK:X.K=K)(hc:X.calm=true)(ha:PA X [e] (zj te sJ))(hd:PE X dflt td)(hg:Gl X "max")(hm:X.mg "max"=Yb)(hgl:Gl X "len")(hml:X.mg "len"=Yb)(h1:dk pos (YR [e] X.env)=?A8::dk pos (YR [] X.env):=by rfl)(h2:(dk pos (YR [e] X.env)).any (·.1)=false:=by rfl):
  PE X (.Call (.Name "max" p) [e] [⟨Ya "key",.Name "len" p2,k1⟩,⟨Ya "default",dflt,k2⟩] pos) (aj9 K te td):=by
 subst hK;intro pins s σ H Q I h;refine ff (Ar I hg hm tT ?_);refine pe ?_ h1 h2;refine eZ (ha pos pins s σ H (λvs H1=>match vs with|[x]=>td σ H1 λy H2=>∃l vs ns,x=.ref l/\bK X.K H2 l vs/\TLs X.K H2 vs ns/\(vs=[]->Q y H2)/\∀(i:Nat) v n,vs[i]?=Ya v->ns[i]?=Ya n->(∀j m,ns[j]?=Ya m->m<=n/\(j<i->m<n))->Q v H2|_=>False) I h) λus s1 zz=>?_;obtain⟨vs,H1,I1,r1,q1⟩:=zz;obtain⟨x,rfl⟩:∃x,vs=[x]:=by
  match vs,q1 with
  |[x],_=>exact⟨x,rfl⟩
 obtain⟨u,rfl,rx⟩:=lQ r1;refine kF (Ar I1 hgl hml gF ?_);refine kF (eZ (hd pins s1 σ H1 _ I1 q1) λw s2 zz=>?_);obtain⟨y,H2,I2,ry,l,xs,ns,ex,hl,ht,q0,q⟩:=zz;subst ex;cases rx;refine vb ?_;obtain⟨its,rv,pl,hz⟩:=I2.list hl;have l63:=Q0;have lx:=rv.length;have ln:xs.length=ns.length:=bX ht;have lens:∀(i:Nat) v,its[i]?=Ya v->∃x n a ys,xs[i]?=Ya x/\ns[i]?=Ya n/\x=.ref a/\v=.ref a/\dC X.K H2 a ys/\ys.length=n:=by
  intro i v e;have hi:i<xs.length:=by rw[lx];exact(Ys.mp e).1
  obtain⟨n,hn,a,ys,ea,hs,hl⟩:=iZ ht (Yv hi);obtain⟨u,hu,ru⟩:=rv.get (Yv hi);rw[e]at hu;cases hu;rw[ea]at ru;exact⟨_,n,a,ys,Yv hi,hn,ea,ru,hs,hl⟩
 show Yn _ _ (call (.builtin "max") [Y0 l] [(YL "key",.builtin "len"),(YL "default",w)]) _ _ _;refine GX.RC GX.afv GX.afW PySem.F.entry_max_loop PySem.F.plain_max_loop (ko:=Ya (.builtin "len")) (d:=Ya w) (I2.ok.hd hc) rfl (GX.amb _ _ _) pl.isList
  (λi j=>decide (((ns.getD i 0:Nat):Int)>((ns.getD j 0:Nat):Int))) (λi=>by simp) (λi j h=>by simp at h⊢;omega) (λa b c h h2=>by simp at h h2⊢;omega) (λi v=>∃t,v=.int ((ns.getD i 0:Nat):Int) t) ?_ ?_ ?_ ?_
 ·intro i v h tk hv G;obtain⟨x,n,a,ys,hx,hn,rfl,rfl,hs,hl⟩:=lens i v hv;obtain⟨its2,r2,tp,hz2⟩:=I2.tuple hs;have l2:=r2.length;refine len_tuple (s:={s2 with heap:=h,toks:=tk}) (tp.keeps G) ?DO (And.intro ⟨_,congrArg (kc · _) ?_⟩ ⟨_,rfl⟩);rw[Yx,<-r2.length,hl,YO,hn];rfl
 ·exact λi j k k' h tk hk hk' G Q q=>CmpOf.ints_gt (P:=λi v=>∃t,v=.int ((ns.getD i 0:Nat):Int) t) (λi=>((ns.getD i 0:Nat):Int)) (λ_ _ z=>z) j i _ _ _ _ _ hk hk' q
 ·exact λe=>⟨w,rfl,λh tk G=>⟨y,H2,I2.kept (t':=tk) G,ry,q0 (df (by rw[lx,e];rfl))⟩⟩
 ·intro i v h tk hv ft G;obtain⟨x,n,a,ys,hx,hn,rfl,rfl,hs,hl⟩:=lens i v hv;refine⟨.ref a,H2,I2.kept (t':=tk) G,rfl,q i _ n hx hn λj m hm=>?_⟩;have b:=ft j (by have:=(Ys.mp hm).1;omega);simp only[YO,hn,hm,FF,decide_eq_false_iff_not,decide_eq_true_eq]at b;omega
end
theorem ak8{K:Yd}{σ:St}{H:Hp}{Q:VK}(h:te σ H λx H1=>td σ H1 λy H2=>∃l vs ns,x=.ref l/\bK K H2 l vs/\TLs K H2 vs ns/\(vs=[]->Q y H2)/\∀(i:Nat) v n,vs[i]?=Ya v->ns[i]?=Ya n->(∀j m,ns[j]?=Ya m->m<=n/\(j<i->m<n))->Q v H2):aj9 K te td σ H Q:=h
end L2
namespace HT
open PySem PyProof.Rows
theorem ahg(A:Y7)(s:Yl)(a:Int)(t:ml)(c:Int)(u:ml)(prog:YI)(w:YV)(E:Ye->Yl->Prop)(Q:Ye->Yl->Prop)(h:Q (.bool (decide (c<a))) s):
  Yn ?I A (we .Gt (.int a t) (.int c u)) Q E s:=
 (IH h:Yn ?I A (cS .Gt (.int a t) (.int c u)) Q E s)
section
open PySem.SeqAt
open PySem.AutoSeq1 (wpAny_loadPart')
open PySem.MeetsSeq PySem.MeetsSeq2 PySem.MeetsSeq3
theorem SJ(l b:Yc)(items items2:Array Ye)(n n2:Nat)(dd dd2:Option Yc)(sl sl2:Array ?EV)(ns ms:List Int)(hi:aT items.toList ns)(hj:aT items2.toList ms):
  pk (bS.«tuple.__gt__» ⟨[.ref l,.ref b],[]⟩)
   (λ_ R s=>s.heap.get? l=Ya {cls:=.type "tuple",dict:=dd,data:=.seq items n,slots:=sl}/\s.heap.get? b=Ya {cls:=.type "tuple",dict:=dd2,data:=.seq items2 n2,slots:=sl2}/\
    R (.ok (.ret (.bool (gb ms ns)))) s):=
 .of_wp λprog w A R s h=>by
  obtain⟨hp,g,d,tk,os⟩:=s;obtain⟨hl,hb,h⟩:=h;have f2:=AutoSeq1.sub_tuple_tuple;have z1:items.size=ns.length:=by rw[<-hi.length];simp
  have z2:items2.size=ms.length:=by rw[<-hj.length];simp
  wp_walk using uk hl,uk hb,Fm _ (λrest b s'=>b.1=Yb/\s'=⟨hp,g,d,tk,os⟩/\∃(vs ws:List Ye) (ns' ms':List Int),rest=vs.zip ws/\
   aT vs ns'/\aT ws ms'/\ns'.length+ items2.size=ms'.length+ items.size/\R (.ok (.ret (.bool (gb ms' ns')))) ⟨hp,g,d,tk,os⟩) _
  case turn=>
   rintro⟨y,x⟩ rest b s' ⟨hb',rfl,vs,ws,ns',ms',hz,hvi,hwi,hlen,hR⟩;cases hvi with
   |nil=>rw[EM]at hz;cases hz
   |cons a t hvi'=>
    cases hwi with
    |nil=>rw[DJ]at hz;cases hz
    |cons c u hwi'=>
     rw[rf]at hz;injection hz with hyx hrest;injection hyx with hy hx;subst hy hx;rw[jw]at hR;simp only[Y8]at hlen;obtain⟨e,he,hiff⟩:=Xk A.in1 ⟨hp,g,d,tk,os⟩ a t c u;refine Yg (he prog w _ _ ?_);cases e with
     |true=>
      rw[if_pos (hiff.mp rfl).symm]at hR
      wp_walk
      exact⟨rfl,rfl,_,_,_,_,hrest,hvi',hwi',by omega,hR⟩
     |false=>
      rw[if_neg (λq=>absurd (hiff.mpr q.symm) YN)]at hR;have hri:=ahg A.in1 ⟨hp,g,d,tk,os⟩ a t c u prog w
      wp_walk using hri
      exact⟨_,rfl,by simpa using hR⟩
  case fin=>
   rintro⟨b1,b2⟩ s' ⟨hb',rfl,vs,ws,ns',ms',hz,hvi,hwi,hlen,hR⟩;simp only at hb';subst hb';have hv:gb ms' ns'=decide (items2.size<items.size):=by
    cases hvi with
    |nil=>
     cases hwi with
     |nil=>
      simp only[fe]at hlen;rw[G6];exact(decide_eq_false ?D).symm
     |cons c u hw=>
      simp only[fe,Y8]at hlen;rw[Fi];exact(decide_eq_false ?D).symm
    |cons a t hv=>
     cases hwi with
     |nil=>
      simp only[fe,Y8]at hlen;rw[DX];exact(decide_eq_true ?D).symm
     |cons c u hw=>
      rw[rf]at hz;cases hz
   rw[hv]at hR
   wp_walk
   exact⟨_,rfl,by simpa [t9]using hR⟩
  case h=>
   exact⟨rfl,rfl,items.toList,items2.toList,ns,ms,rfl,hi,hj,by omega,h⟩
end
section
variable{prog:YI}{w:YV}{A:Y7}{E:Ye->Yl->Prop}{s:Yl}
theorem abR{l b:Yc}{items items2:Array Ye}{ns ms:List Int}{Q:Ye->Yl->Prop}(hl:AH s.heap l items)(hb:AH s.heap b items2)(hi:aT items.toList ns)(hj:aT items2.toList ms)
  (hu:A.units<hV) (h:Q (.bool (gb ms ns)) s):Yn ?I A (cS .Gt (.ref l) (.ref b)) Q E s:=by
 obtain⟨⟨cls,dd,data,sl⟩,ho,hc,n,hd⟩:=id hl;obtain⟨⟨cls2,dd2,data2,sl2⟩,ho2,hc2,n2,hd2⟩:=id hb;simp only at hc hd hc2 hd2;subst hc hd hc2 hd2;exact AY (op:=.Gt) ⟨_,ho,rfl⟩ ⟨_,ho2,rfl⟩ PySem.F.slot_tuple_gt PySem.F.entry_tuple_gt (PySem.F.args_tuple_gt_2 _ _) (SJ l b items items2 n n2 dd dd2 sl sl2 ns ms hi hj)
  ⟨ho,ho2,show ua (gb ms ns)≠Ct/\Q (.bool (gb ms ns)) s from⟨(λx=>nomatch x),h⟩⟩ hu
end
end HT
namespace L2
open PySem PySem.Spec PyProof.Rows
section
variable{X:Cx}
def apY(K:Yd):R2:=λx y H Q=>∃a b ns ms,x=.ref a/\y=.ref b/\dC K H a ?A1/\dC K H b (ms.map V.int)/\Q (.bl (HT.gb ms ns)) H
theorem alO{K:Yd}(hK:X.K=K)(hu:X.A.units<hV):Fb X (cS .Gt) (apY K):=by
 subst hK;intro pins s σ H x y v u Q I rx ry h;obtain⟨a,b,ns,ms,rfl,rfl,ha,hb,q⟩:=h;cases rx;cases ry;obtain⟨its,r1,p1,_⟩:=I.tuple ha;obtain⟨its2,r2,p2,_⟩:=I.tuple hb;have i1:aT its.toArray.toList ns:=m9 r1;have i2:aT its2.toArray.toList ms:=m9 r2;exact HT.abR p1 p2 i1 i2 hu ⟨.bl (HT.gb ms ns),H,I,rfl,q⟩
end
noncomputable def Gu(me hd ba ye vo re ag:V):List ?GQ:=[("me",me),("hands",hd),("ballot",ba),("yes",ye),("votes",vo),("reports",re),("agreed",ag)]
structure VH(K:Yd)(C:Yc):Prop where
 cl:T4 K C
 n1:cH K C "me"
 n2:cH K C "hands"
 n3:cH K C "ballot"
 n4:cH K C "yes"
 n5:cH K C "votes"
 n6:cH K C "reports"
 n7:cH K C "agreed"
section
variable{me hd ba ye vo re ag v:V}
theorem ai4:dD "agreed" ag (dD "reports" re (dD "votes" vo (dD "yes" ye (dD "ballot" ba (dD "hands" hd (dD "me" me []))))))=Gu me hd ba ye vo re ag:=by kernel_rfl
theorem adq:dD "ballot" v (Gu me hd ba ye vo re ag)=Gu me hd v ye vo re ag:=by kernel_rfl
theorem adl:dD "yes" v (Gu me hd ba ye vo re ag)=Gu me hd ba v vo re ag:=by kernel_rfl
theorem O2:dD "votes" v (Gu me hd ba ye vo re ag)=Gu me hd ba ye v re ag:=by kernel_rfl
theorem adJ:dD "reports" v (Gu me hd ba ye vo re ag)=Gu me hd ba ye vo v ag:=by kernel_rfl
theorem ajZ:dD "agreed" v (Gu me hd ba ye vo re ag)=Gu me hd ba ye vo re v:=by kernel_rfl
theorem ak9:(Gu me hd ba ye vo re ag).lookup ("me":Ym)=Ya me:=by kernel_rfl
theorem afi:(Gu me hd ba ye vo re ag).lookup ("hands":Ym)=Ya hd:=by kernel_rfl
theorem abu:(Gu me hd ba ye vo re ag).lookup ("ballot":Ym)=Ya ba:=by kernel_rfl
theorem ajd:(Gu me hd ba ye vo re ag).lookup ("yes":Ym)=Ya ye:=by kernel_rfl
theorem aeq:(Gu me hd ba ye vo re ag).lookup ("votes":Ym)=Ya vo:=by kernel_rfl
theorem aaR:(Gu me hd ba ye vo re ag).lookup ("reports":Ym)=Ya re:=by kernel_rfl
theorem ab4:(Gu me hd ba ye vo re ag).lookup ("agreed":Ym)=Ya ag:=by kernel_rfl
theorem afd:(Gu me hd ba ye vo re ag).lookup ("begin":Ym)=none:=by kernel_rfl
theorem abi:(Gu me hd ba ye vo re ag).lookup ("message":Ym)=none:=by kernel_rfl
theorem aba:(Gu me hd ba ye vo re ag).lookup ("receive":Ym)=none:=by kernel_rfl
theorem Q5:(Gu me hd ba ye vo re ag).lookup ("see_ballot":Ym)=none:=by kernel_rfl
theorem XH:(Gu me hd ba ye vo re ag).lookup ("see_yes":Ym)=none:=by kernel_rfl
theorem SM:(Gu me hd ba ye vo re ag).lookup ("see_votes":Ym)=none:=by kernel_rfl
theorem abm:(Gu me hd ba ye vo re ag).lookup ("gathers":Ym)=none:=by kernel_rfl
theorem aav:(Gu me hd ba ye vo re ag).lookup ("settled":Ym)=none:=by kernel_rfl
theorem ajM:(Gu me hd ba ye vo re ag).length<1000:=by show 7<1000;decide
end
theorem aiO{tk tv:TE}{σ:St}{H:Hp}{Q:VK}(h:∀p,H p=Yb->tk σ (upd H p (.dK [])) λx H1=>tv σ H1 λy H2=>H2 p=Ya (.dK [])/\∃kvs:List ?DG,[(x,y)]=kvs.map (λkv=>(kV kv.1,kv.2))/\kvs.length<=15/\Q (.ref p) (upd H2 p (.dK (oK [] kvs)))):akr [(tk,tv)] σ H Q:=h
end L2
namespace GX
open PySem PyProof.Rows
variable{prog:YI}{w:YV}{A:Y7}{n:Nat}{b:Yc}
section
variable{R:pV->Yl->Prop}{I d:Yc}{fp wr:List Yc}{P:Nat->Ye->Prop}{St:Nat->YT->Prop}{K:Type}[DecidableEq K]{knd:rV prog w K}
noncomputable def ul(kx:List ?ED):List ?ED:=kx.foldl ?GK []
theorem Vc(kx:List ?ED)(p:List K×Yc×Ye):ul (kx++[p])=ot (ul kx) p.1 p.2.1 p.2.2:=by
 unfold ul;rw[xI];rfl
theorem XC{xs:List ?ED}{k:List K}{v:Ye}{x:List K×Yc×Ye}(h:x∈ot xs k b v):(∃y∈xs,y.1=x.1/\y.2.1=x.2.1)\/x=(k,b,v):=by
 unfold ot at h;by_cases z:(yi xs k).isSome=true
 ·rw[if_pos z]at h;obtain⟨y,hy,e⟩:=YD.mp h;refine .inl ⟨y,hy,?_⟩;rw[<-e];unfold putAt;split<;>exact⟨rfl,rfl⟩
 ·rw[if_neg z]at h;rcases e8.mp h with q|q
  ·exact .inl ⟨x,q,rfl,rfl⟩
  ·exact .inr (YU.mp q)
theorem aaN(xs:List ?ED)(k:List K)(b:Yc)(v:Ye):(ot xs k b v).length<=xs.length+ 1:=by
 unfold ot;split
 ·rw[Yk];omega
 ·rw[YE];exact Yo _
theorem Et{G:List K->Yc->Prop}:∀(kx acc:List ?ED),(∀x∈acc,G x.1 x.2.1)->(∀p∈kx,G p.1 p.2.1)->(∀x∈kx.foldl ?GK acc,G x.1 x.2.1)/\(kx.foldl ?GK acc).length<=acc.length+ kx.length
 |[],acc,ha,_=>⟨ha,Yo _⟩
 |p::kx,acc,ha,h=>by
  have hp:=h p Yf;have:=Et (G:=G) kx (ot acc p.1 p.2.1 p.2.2) (λx hx=>by
   rcases XC hx with⟨y,hy,e1,e2⟩|e
   ·have:=ha y hy;rw[e1,e2]at this;exact this
   ·rw[e];exact hp) (λq hq=>h q (Yh _ hq))
  refine⟨this.1,?_⟩;have l:=aaN acc p.1 p.2.1 p.2.2;have l2:=this.2;simp only[hW,Y8];omega
theorem WX{h h':YT}{k:List K}(x:pT knd h k b)(e:∀o,h.get? b=Ya o->h'.get? b=Ya o):pT knd h' k b:=by
 obtain⟨o,items,n,ho,r⟩:=x;exact⟨o,items,n,e o ho,r⟩
def DT(knd:rV prog w K)(h:YT)(d:Yc)(xs:List ?ED):Prop:=∃o es ep,h.get? d=Ya o/\o.ExactDict/\o.data=.dict es ep/\es.toList=xs.map (BY (ke knd))/\(xs.map (·.1)).Nodup
theorem aeT(W:yy prog w A.in1 I fp wr n P St)(nd:d∉fp)(h₀:YT)(kx:List ?ED)(hn:kx.length=n)(hz:n<=YB)(hu:(ke knd).room A.in1)
  (hK:∀p∈kx,pT knd h₀ p.1 p.2.1/\p.2.1≠d/\p.2.1∉wr)
  (hP:∀i v,P i v->∃a k b x o c,v=.ref a/\kx[i]?=Ya (k,b,x)/\h₀.get? a=Ya o/\o.cls=.type "tuple"/\o.data=.seq #[.ref b,x] c/\a≠d/\a∉wr):
  ∀(k i:Nat) (s:Yl) (t:ml),n=i+ k->St i s.heap->(∀b o,b∉wr->b≠d->h₀.get? b=Ya o->s.heap.get? b=Ya o)->DT knd s.heap d (ul (kx.take i))->
  (∀h' tk,(∀b o,b∉wr->b≠d->h₀.get? b=Ya o->h'.get? b=Ya o)->DT knd h' d (ul kx)->R (.ok (.ret .none)) ?AG)->
  c5 ?I A (.builtin "dict.update.loop" ⟨?ID,[]⟩) R s:=by
 have nw:d∉wr:=λz=>nd (W.sub _ z);have isAt:∀(h:YT) (j:Nat),(∀b o,b∉wr->b≠d->h₀.get? b=Ya o->h.get? b=Ya o)->∀x∈ul (kx.take j),pT knd h x.1 x.2.1:=λh j kp=>(Et (G:=λk b=>pT knd h k b) (kx.take j) [] (λx hx=>(nomatch hx)) (λp hp=>by
  obtain⟨q1,q2,q3⟩:=hK p (List.mem_of_mem_take hp);exact WX q1 λo e=>kp _ o q3 q2 e)).1
 intro k i s t en st kp dd fin;refine agV (D:=λi h=>(∀b o,b∉wr->b≠d->h₀.get? b=Ya o->h.get? b=Ya o)/\DT knd h d (ul (kx.take i))) W nd ?_ ?_ k i s t en st ⟨kp,dd⟩ λh tk q=>fin h tk q.1 ?_
 ·rintro i h h' ⟨kp,od,es,ep,ho,r⟩ q;exact⟨λb o nb nb' e=>q b o nb (kp b o nb nb' e),od,es,ep,q d od nw ho,r⟩
 ·rintro i v s pv ⟨kp,od,es,ep,ho,r1,r2,r3,r4⟩;obtain⟨a,k,b,x,o,c,rfl,hx,ha,hc,hd,na,naw⟩:=hP i v pv;obtain⟨q1,q2,q3⟩:=hK _ (YW hx);have len:=(Et (G:=λ_ _=>True) (kx.take i) [] (λ_ _=>trivial) λ_ _=>trivial).2;refine⟨a,o,.ref b,x,c,rfl,kp a o naw na ha,hc,hd,λQ q=>wpAny_dictSet_heap (knd:=ke knd) hu (WX q1 λo e=>kp _ o q3 q2 e) ⟨od,es,ep,ho,r1,r2,r3,isAt s.heap i kp,r4⟩ (λh2 d2 sb=>q h2 ⟨λb o nb nb' e=>(sb.2 b nb').trans (kp b o nb nb' e),?_⟩ sb.2 _) (bP len (by rw[eA,fe];omega))⟩;obtain⟨od,es,ep,ho,r1,r2,r3,_,r4⟩:=d2;rw[BQ,hx,Option.toList_some,Vc];exact⟨od,es,ep,ho,r1,r2,r3,r4⟩
 ·have z:=q.2;rwa [<-hn,cx]at z
end
section
variable{E:Ye->Yl->Prop}{s:Yl}{K:Type}[DecidableEq K]{knd:rV prog w K}
theorem R0{l:Yc}{vs:List Ye}{kx:List ?ED}{Q:Ye->Yl->Prop}(hA:A.handled=Yb)(hu:(ke knd).room A.in1.in1)(hl:s.heap.get? l=Ya {cls:=.type "list",dict:=Yb,data:=.seq vs.toArray n,slots:=#[]})(hz:vs.length<=YB)(hlen:kx.length=vs.length)(hK:∀p∈kx,pT knd s.heap p.1 p.2.1)(hP:∀(i:Nat) v,vs[i]?=Ya v->∃a k b x o c,v=.ref a/\kx[i]?=Ya (k,b,x)/\s.heap.get? a=Ya o/\o.cls=.type "tuple"/\o.data=.seq #[.ref b,x] c)(h:∀h' tk,?A2->DT knd h' s.heap.objs.size (ul kx)->Q (.ref s.heap.objs.size) ?AG):
  Yn ?I A (call (.type "dict") [.ref l]) Q E s:=by
 have hl':(aeo s.heap).get? l=Ya {cls:=.type "list",dict:=Yb,data:=.seq vs.toArray n,slots:=#[]}:=Yi _ hl;refine Qt (T:="list") ⟨_,hl',rfl⟩ ?B (adA hA hl' λh1 tk1 k1=>⟨rfl,?_⟩);have hl1:=k1 l _ hl';have lt1:l<h1.objs.size:=Yu hl1;have ld:l<s.heap.objs.size:=Yu hl;have il:h1.IsList l vs.toArray:=⟨_,hl1,rfl,n,rfl⟩;have d1:DT knd h1 s.heap.objs.size []:=by
  obtain⟨od,es,ep,ho,r1,r2,r3,_,r4⟩:=Heap.DictOfH.new (knd:=ke knd) s.heap;exact⟨od,es,ep,k1 _ _ ho,r1,r2,r3,r4⟩
 have dlt:s.heap.objs.size<h1.objs.size:=by
  obtain⟨od,es,ep,ho,r⟩:=d1;exact Yu ho
 have hI:∀{b:Yc},b<h1.objs.size->b≠h1.objs.size:=λz=>YF z;have nw:∀{b:Yc},b<s.heap.objs.size->b∉[h1.objs.size]:=fun{b} hb z=>by
  have z':b=h1.objs.size:=by simpa using z
  exact absurd (y7 hb dlt) ?CP
 refine fy (s:={s with heap:=h1,toks:=tk1}) il ?_;have W:=uS (prog:=prog) (w:=w) (A:=A.in1.in1) hA h1.objs.size l (hI lt1) vs.toArray;refine aeT (A:=A.in1) (knd:=knd) W (d:=s.heap.objs.size) ?_ s.heap kx (by rw[hlen,Yx]) (by rw[Yx];exact hz) hu (λp hp=>?_) (λi v hv=>?_) vs.toArray.size 0 _ 0 ?D
  ⟨⟨_,Yq _ rfl,rfl,rfl⟩,il.push _⟩ (λb o _ nb e=>Yi _ (k1 b o (Yi _ e))) ?_ λh2 tk2 k2 d2=>?_
 ·intro z;have z':s.heap.objs.size=h1.objs.size\/s.heap.objs.size=l:=by simpa using z
  rcases z' with z'|z'
  ·exact absurd dlt ?CP
  ·exact absurd ld ?CP
 ·have q:=hK p hp;obtain⟨o,items,m,ho,r⟩:=id q;exact⟨q,YF (Yu ho),nw (Yu ho)⟩
 ·obtain⟨a,k,b,x,o,c,e1,e2,e4,e5,e6⟩:=hP i v (by simpa using hv);exact⟨a,k,b,x,o,c,e1,e2,e4,e5,e6,YF (Yu e4),nw (Yu e4)⟩
 ·obtain⟨od,es,ep,ho,r⟩:=d1;exact⟨od,es,ep,Yi _ ho,r⟩
 ·exact⟨rfl,h h2 tk2 (λb o e=>k2 b o (nw (Yu e)) (YF (Yu e)) e) d2⟩
end
end GX
namespace L2
open PySem PySem.Spec PyProof.Rows
variable{X:Cx}{pins:List ?AQ}{σ:St}{H:Hp}{s:Yl}{l f a:Yc}{xs:List V}{its vs:List Ye}{ks:List (List Int)}{k n:Nat}{fd:Yt}{ps:List Ym}{sp:Sp}{Q E:Ye->Yl->Prop}{A:Y7}{e:YZ}{te td:TE}{p:Array Nat}{p2 pos k1:iL}{fx:Ym}{prog:YI}{w:YV}{P:vk->Yl->Prop}{b:Bool}
abbrev ao0(H:Hp):List V->List ?BD->Prop:=dQ λx q=>∃a b,x=.ref a/\H a=Ya (.tup [.ref b,q.2])/\H b=Ya (.tup (q.1.map kV))
noncomputable def xZ(ps:List ?BD):List ?BD:=ps.foldl (λacc p=>tR acc p.1 p.2) []
section
theorem aeb(I:bH X pins σ H s):∀{xs:List V} {us:List Ye} {ps:List ?BD},ao0 H xs ps->Vals xs us->
  ∃kx:List ?ER,dQ ?AO ps kx/\kx.length=us.length/\∀(i:Nat) v,us[i]?=Ya v->∃a k b x o c,v=.ref a/\kx[i]?=Ya (k,b,x)/\s.heap.get? a=Ya o/\o.cls=.type "tuple"/\o.data=.seq #[.ref b,x] c:=by
 intro xs us ps w
 induction w generalizing us with
 |nil=>
  intro w;cases w;exact⟨[],.nil,rfl,λi v e=>by simp at e⟩
 |@cons x p xs ps h t ih=>
  intro w;cases w with|cons r q=>
  rename_i u us;obtain⟨kx,k1,k2,k3⟩:=ih q;obtain⟨a,b,rfl,ha,hb⟩:=h;obtain rfl:u=Y0 a:=r;obtain⟨_,its,rv,o,ho,hc,n,hd,_⟩:[V.ref b,p.2].length<=YB/\∃its:List Ye,Vals [V.ref b,p.2] its/\xg s.heap a its.toArray:=I.hok a _ ha;obtain⟨u1,u2,rfl,r1,r2⟩:=aaq rv;obtain rfl:u1=Y0 b:=r1;refine⟨(p.1,b,u2)::kx,.cons ⟨rfl,hb,r2⟩ k1,congrArg (·+ 1) k2,λi v e=>?_⟩;cases i with
  |zero=>
   have e':Y0 a=v:=YK e;subst e';exact⟨a,p.1,b,u2,o,n,rfl,rfl,ho,hc,hd⟩
  |succ i=>exact k3 i v e
theorem ai2:∀{ps:List ?BD} {kx:List ?ER},dQ ?AO ps kx->∀{acc:List ?BD} {xs:List ?ER},KT H acc xs->
  KT H (ps.foldl (λacc p=>tR acc p.1 p.2) acc) (kx.foldl ?GK xs):=by
 intro ps kx w
 induction w with
 |nil=>exact λh=>h
 |@cons p q ps kx w t ih=>
  obtain⟨e1,e2,e3⟩:=w;intro acc xs h;rw[hW,hW];refine ih ?_;rw[<-e1];exact h.put p.1 e2 e3
theorem abM(ps:List ?BD):∀acc:List ?BD,(ps.foldl (λacc p=>tR acc p.1 p.2) acc).length<=acc.length+ ps.length:=by
 induction ps with
 |nil=>intro acc;exact Yo _
 |cons p ps ih=>
  intro acc;have h1:=ih (tR acc p.1 p.2);have h2:=wD acc p.1 p.2;simp only[hW,Y8];omega
theorem Fe(hc:X.calm=true)(hu:X.A.units+ 2<hV):jQ X (.type "dict") (λxs H Q=>∃(a:Yc) (ys:List V) (ps:List ?BD),xs=?BV/\H a=Ya (.lst ys)/\ao0 H ys ps/\ps.length<=1000/\∀p,H p=Yb->Q (.ref p) (upd H p (.dT (xZ ps)))):=by
 intro pins s σ H xs us Q I r h;obtain⟨a,ys,ps,rfl,ha,hp,hl,q⟩:=h;obtain⟨u,rfl,rx⟩:=lQ r;cases rx;obtain⟨z,its,n,rv,hlen,e⟩:=I.lstM ha;obtain⟨kx,k1,k2,k3⟩:=aeb I hp rv;have hK:∀p∈kx,pT ?D3 s.heap p.1 p.2.1:=by
  have all:∀{l:List ?BD} {m:List ?ER},dQ ?AO l m->∀x∈m,pT ?D3 s.heap x.1 x.2.1:=by
   intro l m q
   induction q with
   |nil=>intro x hx;exact nomatch hx
   |@cons a b as bs h t ih=>
    intro x hx;rcases Yz.mp hx with z|z
    ·rw[z,<-h.1];exact key_of I.hok h.2.1
    ·exact ih x z
  exact all k1
 refine GX.R0 (knd:=bT X.prog X.w) ?BK ?_ e (by rw[<-hlen];exact z) k2 hK k3 λh' tk kp dd=>?_
 ·exact hu
 have I0:bH X pins σ H ?AG:=I.kept kp;obtain⟨o,es,ep,ho,r1,r2,r3,r4⟩:=dd;refine⟨.ref s.heap.objs.size,_,I.laid (o:=.dT (xZ ps)) (t':=tk) kp ?BU ⟨?_,beq_eq_false_iff_ne.mpr (Ne.symm (YF I.big)),GX.ul kx,?_,o,es,ep,ho,r1,r2,r3,r4⟩,rfl,q _ ?AL⟩
 ·have:=abM ps [];rw[fe]at this;exact Y5 (bx (by unfold xZ;omega))
 ·refine(ai2 k1 .nil).keeps λc zs ec=>?_;rw[aQ (bB ec ?AL)];exact ec
end
noncomputable abbrev Cx.one(X:Cx):Cx:={X with A:=X.A.in1,xe:=λ_ _=>False}
section
theorem bH.one(I:bH X pins σ H s):bH X.one pins σ H s:=
 ⟨⟨I.ok.mod,I.ok.kind,I.ok.glob,I.ok.blt,I.ok.above,I.ok.inj,I.ok.has,I.ok.cab,I.ok.hd,I.ok.frames,I.ok.stk,I.ok.exf,I.ok.bs,I.ok.bsz,I.ok.noex,I.ok.exfs,I.ok.funs,I.ok.frf⟩,I.os,I.bare,I.base,I.loc,I.cell,I.free,I.freeC,I.pin,I.hok,I.len⟩
theorem bH.back(ok:X.Ok)(I:bH X.one pins σ H s):bH X pins σ H s:=
 ⟨ok,I.os,I.bare,I.base,I.loc,I.cell,I.free,I.freeC,I.pin,I.hok,I.len⟩
end
theorem adN:∀a:List Int,HT.gb a a=false
 |[]=>rfl
 |x::a=>by rw[HT.jw,if_pos rfl];exact adN a
theorem Xq:∀{a b:List Int},HT.gb a b=true->HT.gb b a=false
 |[],[],h=>by cases h
 |[],_::_,_=>rfl
 |_::_,[],h=>by cases h
 |x::a,y::b,h=>by
  rw[HT.jw]at h⊢;by_cases z:x=y
  ·rw[if_pos z]at h;rw[if_pos z.symm];exact Xq h
  ·rw[if_neg z]at h;rw[if_neg (λw=>z w.symm)];have h:=of_decide_eq_true h;exact decide_eq_false ?D
theorem adQ:∀{a b c:List Int},HT.gb a b=true->HT.gb c b=false->HT.gb a c=true
 |[],[],_,h,_=>by cases h
 |_::_,[],_,h,_=>by cases h
 |[],_::_,[],_,h=>by cases h
 |[],_::_,_::_,_,_=>rfl
 |x::a,y::b,[],h,h2=>by cases h2
 |x::a,y::b,z::c,h,h2=>by
  rw[HT.jw]at h h2⊢;by_cases e1:x=y
  ·rw[if_pos e1]at h;by_cases e2:z=y
   ·rw[if_pos e2]at h2;rw[if_pos (e1.trans e2.symm)];exact adQ h h2
   ·rw[if_neg e2]at h2;have h2:=of_decide_eq_false h2;rw[if_neg (λw=>e2 (w.symm.trans e1))];exact decide_eq_true ?D
  ·rw[if_neg e1]at h;have h:=of_decide_eq_true h;by_cases e2:z=y
   ·rw[if_neg (λw=>e1 (w.trans e2))];exact decide_eq_true ?D
   ·rw[if_neg e2]at h2;have h2:=of_decide_eq_false h2;rw[if_neg ?D];exact decide_eq_true ?D
section
theorem al2(a v d:Ye):km "min" ⟨[a],[(YL "key",v),(YL "default",d)]⟩:=by unfold km;kernel_rfl
theorem alw(d:Ye)(hh:X.A.handled=Yb)(hu:X.A.units+ 2<hV)(F:aG X.prog X.w X.K X.mg X.base bJ k f fd ps sp)(hr:gJ k X.A.in1)(hb:Binds X.K fd ps [])(IV:bH X pins σ H s)(rv:Vals xs its)(lk:xs.length=ks.length)(lst:∀s H',bH X pins σ H' s->aW H H'->s.heap.IsList l its.toArray)(KY:∀(i:Nat) x k H3 (Q':VK),xs[i]?=Ya x->ks[i]?=Ya k->aW H H3->(∀H4 t,aW H3 H4->dC X.K H4 t (k.map V.int)->Q' (.ref t) H4)->sp [x] H3 Q' E0)(hD:xs=[]->∀s',bH X pins σ H s'->Q d s')(hR:∀(i:Nat) v kb s' H',its[i]?=Ya v->ks[i]?=Ya kb->(∀(j':Nat) k',ks[j']?=Ya k'->HT.gb k' kb=false/\(j'<i->HT.gb kb k'=true))->bH X pins σ H' s'->aW H H'->Q v s'):
  Yn ?M X.A (call (.builtin "min") [.ref l] [(YL "key",.ref f),(YL "default",d)]) Q E s:=by
 have lx:=rv.length;have fp:∀x H',x=s.heap.objs.size\/x=s.heap.objs.size+ 1->H' x=Yb->JD X pins H' x:=λx H' hx n=>IV.fpOk (by rcases hx with rfl|rfl<;>omega) n;refine GX.T5 GX.UL GX.abe Bi Bn (ko:=Ya (.ref f)) (d:=Ya d) (vs:=its) hh rfl (al2 _ _ _) (lst s H IV (.refl _)) (bt:=λi j=>HT.gb (ks.getD i []) (ks.getD j []))
  (G:=λL s'=>∃H',bH X pins σ H' s'/\(aW H H'/\(L=[]->H'=H))/\(∀x,x=s.heap.objs.size\/x=s.heap.objs.size+ 1->H' x=Yb)/\∀p∈L,∃t k,p.2=.ref t/\ks[p.1]?=Ya k/\dC X.K H' t (k.map V.int))
  ⟨λi=>adN _,λi j=>Xq,λa b c=>adQ,?_,?_,?_,?_,?_,?_⟩ ?_ ?_ ?_
 ·exact λp q L s' ⟨H',a,b,c,e⟩=>⟨H',a,⟨b.1,λz=>nomatch z⟩,c,λq hq=>e q (Yh _ hq)⟩
 ·exact λp L s' ⟨H',a,b,c,e⟩=>⟨H',a,⟨b.1,λz=>nomatch z⟩,c,λq hq=>e q (YU.mp hq▸Yf)⟩
 ·rintro x L s' h tk hx ⟨H',a,b,c,e⟩ kp;obtain⟨f0,f1,f2,f3,f4,f5⟩:=fp x H' hx (c x hx);exact⟨H',a.turned (it:=x) kp f0 f1 f3 f4 f5,b,c,e⟩
 ·exact λL s' ⟨H',a,b,_⟩=>lst s' H' a b.1
 ·rintro L s' j v a c m ⟨H',I1,⟨sm,_⟩,nn,hL⟩ hv hS hI;obtain⟨oI,gI,cI,dI⟩:=id hI;have hx:j<xs.length:=by have:=(Ys.mp hv).1;omega
  obtain⟨v',hv',rx⟩:=rv.get (Yv hx);cases hv.symm.trans hv';have hk:ks[j]?=Ya (ks[j]'(lk▸hx)):=Yv _;have pl:∀b∈[s.heap.objs.size+ 1,s.heap.objs.size],b=s.heap.objs.size\/b=s.heap.objs.size+ 1:=λb hb=>by simp at hb;exact hb.symm
  have IP:=I1.pinned (fp:=[s.heap.objs.size+ 1,s.heap.objs.size]) (λb hb=>fp b H' (pl b hb) (nn b (pl b hb))) λb hb=>by
   rcases pl b hb with rfl|rfl
   ·exact⟨oI,gI,λz e=>by rw[dI]at e;cases e⟩
   ·exact⟨_,hS,λz e=>nomatch e⟩
  refine ai (Eu (X:=X.one) (vs:=[xs[j]]) (us:=[v]) (Q:=λz H4=>∃t,z=.ref t/\aW H' H4/\dC X.K H4 t ((ks[j]'(lk▸hx)).map V.int)) (E:=E0) (dvs:=[]) (ds:=[]) F hr hb .nil (λ_ _ _ _ _ _ _ q=>q.elim) IP.one (.cons rx .nil) (by
   rw[dA];exact KY j _ _ H' _ (Yv hx) hk sm λH4 t s4 h4=>⟨t,rfl,s4,h4⟩)) ?_ λ_ _ q=>q.elim
  rintro u s2 ⟨z,H4,I4,rz,t,rfl,s4,ht⟩;cases rz;have I4:=bH.back IV.ok I4;have at_:∀b o,b∈[s.heap.objs.size+ 1,s.heap.objs.size]->s'.heap.get? b=Ya o->s2.heap.get? b=Ya o/\H4 b=none:=λb o hb e=>
   let r:=I4.pin (b,o) (Y1 _ (Y1 _ (qg hb e)))
   ⟨r.1,r.2.1⟩
  have aS:=at_ _ _ ?N hS;have aI:=at_ _ _ ?N gI;refine⟨⟨H4,I4.unpinned,⟨sm.trans s4,λz=>nomatch z⟩,λx hx=>?_,λp hp=>?_⟩,aS.1,oI,aI.1,cI,dI⟩
  ·rcases hx with rfl|rfl
   ·exact aI.2
   ·exact aS.2
  ·rcases Yz.mp hp with rfl|hp
   ·exact⟨t,_,rfl,hk,ht⟩
   ·obtain⟨t',k',e1,e2,e3⟩:=hL p hp;exact⟨t',k',e1,e2,SmT.same s4 _ _ e3⟩
 ·rintro i j y y' s' ⟨H',I1,_,nn,hL⟩;obtain⟨t1,k1,rfl,e1,h1⟩:=hL (j,y) ?N;obtain⟨t2,k2,rfl,e2,h2⟩:=hL (i,y') ?N;obtain⟨ia,ra,pa,_⟩:=I1.tuple h1;obtain⟨ib,rb,pb,_⟩:=I1.tuple h2;refine HT.acs (A:=X.A.in1) pa pb (m9 ra) (m9 rb) (by show X.A.units+ 1<hV;omega) ⟨?_,rfl⟩;simp[YO,e1,e2]
 ·exact λh kp=>⟨H,IV.kept (t':=s.toks) kp,⟨.refl _,λ_=>rfl⟩,λx hx=>IV.hok.fresh (by rcases hx with rfl|rfl<;>omega),by simp⟩
 ·exact λe=>⟨d,rfl,λs' ⟨H',a,b,_⟩=>hD (df (by rw[lx,e];rfl)) s' (b.2 rfl▸a)⟩
 ·rintro i v y s' hv ft ⟨H',I1,⟨sm,_⟩,nn,hL⟩;obtain⟨t,k',_,e1,_⟩:=hL (i,y) ?N;refine hR i v k' s' H' hv e1 (λj k2 hj=>?_) I1 sm;have b:=ft j (by have:=(Ys.mp hj).1;omega);simpa [YO,e1,hj]using b
end
theorem gJ.one(r:gJ (k+ 1) A):gJ k A.in1:=⟨r.hd,by have:=r.dp;show A.depth+ 3*k+ 5<vE;omega,by have:=r.un;show A.units+ 1+ 16*k+ 200<hV;omega⟩
def als(K:Yd)(sp:Sp)(x y:V)(H2:Hp)(Q:VK):Prop:=∃(l:Yc) (xs:List V) (ks:List (List Int)),x=.ref l/\bK K H2 l xs/\xs.length=ks.length/\(∀x∈xs,∃p,x=V.ref p)/\
 (∀(i:Nat) (x:V) (k:List Int) (H3:Hp) (Q':VK),xs[i]?=Ya x->ks[i]?=Ya k->aW H2 H3->(∀H4 t,aW H3 H4->dC K H4 t (k.map V.int)->Q' (.ref t) H4)->sp [x] H3 Q' E0)/\(xs=[]->Q y H2)/\
 ∀(i:Nat) (v:V) (kb:List Int) (H':Hp),xs[i]?=Ya v->ks[i]?=Ya kb->(∀(j':Nat) k',ks[j']?=Ya k'->HT.gb k' kb=false/\(j'<i->HT.gb kb k'=true))->aW H2 H'->Q v H'
def aku(K:Yd)(sp:Sp)(te td:TE):TE:=λσ H Q=>te σ H λx H1=>td σ H1 λy H2=>als K sp x y H2 Q
theorem aeR:∀{xs:List V} {a b:List Ye},Vals xs a->Vals xs b->(∀x∈xs,∃p,x=V.ref p)->a=b:=by
 intro xs a b w
 induction w generalizing b with
 |nil=>
  intro w _;cases w;rfl
 |cons r1 t1 ih=>
  intro w h;cases w with|cons r2 t2=>
  obtain⟨p,rfl⟩:=h _ Yf;rw[ih t2 λy hy=>h y (Yh _ hy)];cases r1;cases r2;rfl
section
theorem aem{K:Yd}{dflt:YZ}{p k2:iL}(hK:X.K=K)(hc:X.calm=true)(hu:X.A.units+ 2<hV)(ha:PA X [e] (zj te sJ))(hd:PE X dflt td)(hg:Gl X "min")(hm:X.mg "min"=Yb)(G:aG X.prog X.w X.K X.mg X.base bJ k f fd ps sp)(hmk:X.mg fx=Ya (.ref f))(hbk:Binds X.K fd ps [])(hgk:Gl X fx)(hr:gJ (k+ 1) X.A)(hdb:(fx==("__debug__":Ym))=false:=by decide)(h1:dk pos (YR [e] X.env)=?A8::dk pos (YR [] X.env):=by rfl)(h2:(dk pos (YR [e] X.env)).any (·.1)=false:=by rfl):
  PE X (.Call (.Name "min" p) [e] [⟨Ya "key",.Name fx p2,k1⟩,⟨Ya "default",dflt,k2⟩] pos) (aku K sp te td):=by
 subst hK;intro pins s σ H Q I h;refine ff (Ar I hg hm BS ?_);refine pe ?_ h1 h2;refine eZ (ha pos pins s σ H (λvs H1=>match vs with|[x]=>td σ H1 λy H2=>als X.K sp x y H2 Q|_=>False) I h) λus s1 zz=>?_;obtain⟨vs,H1,I1,r1,q1⟩:=zz;obtain⟨x,rfl⟩:∃x,vs=[x]:=by
  match vs,q1 with
  |[x],_=>exact⟨x,rfl⟩
 obtain⟨u,rfl,rx⟩:=lQ r1;refine kF (Jz I1 hgk hmk ?_ hdb);refine kF (eZ (hd pins s1 σ H1 _ I1 q1) λw s2 zz=>?_);obtain⟨y,H2,I2,ry,l,xs,ks,ex,hl,lk,rfs,KY,q0,q⟩:=zz;subst ex;cases rx;refine vb ?_;obtain⟨its,rv,pl,hz⟩:=I2.list hl;have lx:=rv.length;show Yn _ _ (call (.builtin "min") [Y0 l] [(YL "key",.ref f),(YL "default",w)]) _ _ _;refine alw (H:=H2) w (I2.ok.hd hc) hu G (gJ.one hr) hbk I2 rv lk (λs' H' I' sm=>?_) KY (λe s' I'=>⟨y,H2,I',ry,q0 e⟩) (λi v kb s' H' hv hkb best I' sm=>?_)
 ·obtain⟨its',rv',pl',_⟩:=I'.list (sm.seq hl);rw[aeR rv rv' rfs];exact pl'.isList
 ·have hi:i<xs.length:=by rw[lx];exact(Ys.mp hv).1
  obtain⟨u',hu',ru⟩:=rv.get (Yv hi);rw[hv]at hu';cases hu';exact⟨xs[i],H',I',ru,q i _ kb H' (Yv hi) hkb best sm⟩
end
theorem alD{K:Yd}{Q:VK}(h:te σ H λx H1=>td σ H1 λy H2=>als K sp x y H2 Q):aku K sp te td σ H Q:=h
section
theorem aeA{kw:List (Ym×Ye)}(hl:s.heap.IsList l vs.toArray)(h64:vs.length<64)(a1:km "sorted" ⟨[.ref l],kw⟩)(a2:∀D,km "list.sort" ⟨[D],kw⟩)(h:∀h1:YT,GX.Lg s.heap h1->h1.get? (s.heap.objs.size+ 1)=Ya (seqObj "list" vs.toArray 0)->Yn ?I A.in1.in1 (bS.«list.sort» ⟨[.ref ?U],kw⟩) (λf s2=>f=.done (.ret .none)/\Q (.ref ?U) s2) E {s with heap:=h1}):
  Yn ?I A (call (.builtin "sorted") [.ref l] kw) Q E s:=by
 have z:vs.length<=YB:=by rw[ip];omega
 refine GX.Gb a1 (collect_list hl (Yg (CO ?_ z)) z);have g:GX.Lg s.heap ((s.heap.push (seqObj "list" #[] 0)).update s.heap.objs.size (eM (·++vs.toArray))):=λb o q=>(bo _ _ (kf (Yu q))).trans (Yi _ q);have sz:((s.heap.push (seqObj "list" #[] 0)).update s.heap.objs.size (eM (·++vs.toArray))).objs.size=s.heap.objs.size+ 1:=(Heap.size_after_update ..).trans (fw ..);generalize (s.heap.push (seqObj "list" #[] 0)).update s.heap.objs.size (eM (·++vs.toArray))=h0 at g sz⊢;have at1:(h0.push (seqObj "list" vs.toArray 0)).get? (s.heap.objs.size+ 1)=Ya (seqObj "list" vs.toArray 0):=ER sz.symm rfl;have:=h _ (λb o q=>Yi _ (g b o q)) at1;show Yn _ _ (ny [.ref h0.objs.size] (call (.builtin "list.sort") [.ref h0.objs.size] kw) >>= λ_=>ret (.ref h0.objs.size)) _ _ {s with heap:=h0.push (seqObj "list" vs.toArray 0)};rw[sz];refine Yg (cE (wpAny_call_entry_kw GY ⟨_,at1,rfl⟩ F7 (ai this (λf s2 q=>?_) λ_ _ e=>e) (a2 _)));exact⟨_,q.1,Yp ⟨_,rfl,q.2⟩⟩
theorem aiJ{k:Array Ye->Nat->Ye->w4 vk}(ho:s.heap.get? a=Ya (seqObj "list" vs.toArray n))(h64:vs.length<64)(h:∀(h2:YT) (e:Nat),(∀b o,b≠a->s.heap.get? b=Ya o->h2.get? b=Ya o)->h2.get? a=Ya (seqObj "list" #[] e)->Yn ?I A (k vs.toArray e (.ref h2.objs.size)) P E {s with heap:=h2.push (seqObj "list" #[] 0)}):
  Yn ?I A (Kb (.ref a) >>= λits=>AD (.ref a) (λ_=>#[]) >>= λ_=>seqEpoch a >>= λe=>newTuple its.toList >>= λt=>EC [] >>= λks=>ny [t,ks] (k its e ks)) P E s:=by
 have z:vs.toArray.size<=YB:=by rw[Yx,ip];omega
 obtain⟨e,he⟩:∃e,(s.heap.update a ?G2).get? a=Ya (seqObj "list" #[] e):=⟨_,GH ho λ_=>#[]⟩;refine Yg (Jn ho rfl (Yg (xv ho rfl (Yg (seqEpoch_at he rfl (Yg (BP (Yg (CO (cE (h _ e (λb o nb q=>?_) (Yi _ he))) (YX _))) ?_)))) z (YX _))))
 ·exact Yi _ ((bo _ _ (Ne.symm nb)).trans q)
 ·simpa using z
theorem abv{e:Nat}{out:Array Ye}{tl:Nat->w4 vk}(ho:s.heap.get? a=Ya (seqObj "list" #[] e))(hz:out.size<=YB)(h:∀(h1:YT) (c:Nat),(∀b o,b≠a->s.heap.get? b=Ya o->h1.get? b=Ya o)->h1.get? a=Ya (seqObj "list" out c)->Yn ?I A (tl e) P E {s with heap:=h1}):
  Yn ?I A (seqEpoch a >>= λx=>AD (.ref a) (λ_=>out) >>= λ_=>tl x) P E s:=
 Yg (seqEpoch_at ho rfl (Yg (xv ho rfl (h _ _ (λb o nb q=>(bo _ _ (Ne.symm nb)).trans q) (GH ho λ_=>out)) (YX _) (Nat.le_succ_of_le hz))))
end
def Lv{α:Type}(n:Nat)(P:α->Prop):zw α->Prop
 | .ret a=>P a
 | .ask i j k=>i<n/\j<n/\∀b,Lv n P (k b)
theorem Gd{α β:Type}{n:Nat}{P:α->Prop}{P':β->Prop}{f:α->zw β}(hf:∀a,P a->Lv n P' (f a)):∀t:zw α,Lv n P t->Lv n P' (t.bind f)
 | .ret a,h=>hf a h
 | .ask i j k,h=>⟨h.1,h.2.1,λb=>Gd hf (k b) (h.2.2 b)⟩
def Ru(n:Nat)(p:Array Nat):Prop:=p.toList.Perm (cq n)
theorem xM(h:Ru n p)(hn:0<n)(i:Nat):p.getD i 0<n:=by
 by_cases z:i<p.size
 ·have e:p.getD i 0=p[i]:=by simp[KO,z]
  rw[e];have:p[i]∈p.toList:=Array.getElem_mem_toList z;exact fv.mp (h.mem_iff.mp this)
 ·have e:p.getD i 0=0:=by simp[KO,z]
  rw[e];exact hn
theorem Rg(h:Ru n p)(i j:Nat):Ru n (PySem.W.kas_rev p i j):=(xw.mp (mirror_perm p i j _)).trans h
theorem akZ(h:Ru n p)(i j:Nat):Ru n (bubble p i j):=(xw.mp (bubble_perm p i j)).trans h
section
variable(hn:0<n)
include hn
theorem acr{p:Array Nat}(h:Ru n p):∀f m:Nat,Lv n (λ_=>True) (PySem.W.kas_asc p f m)
 |0,m=>trivial
 |f+ 1,m=>by
  refine⟨xM h hn _,xM h hn _,λb=>?_⟩;cases b
  ·exact acr h f (m+ 1)
  ·exact trivial
theorem O6:∀(f:Nat) {p:Array Nat} (m q:Nat),Ru n p->Lv n (λr=>Ru n r.1) (PySem.W.kas_desc f p m q)
 |0,p,m,q,h=>h
 |f+ 1,p,m,q,h=>by
  refine⟨xM h hn _,xM h hn _,λb=>?_⟩;cases b
  ·refine⟨xM h hn _,xM h hn _,λd=>?_⟩;cases d
   ·exact O6 f (m+ 1) (q+ 1) h
   ·exact h
  ·show Lv n _ (if q>0 then _ else _);by_cases z:q>0
   ·rw[if_pos z];exact O6 f (m+ 1) 0 (Rg h _ _)
   ·rw[if_neg z];exact O6 f (m+ 1) 0 h
theorem aar(h:Ru n p)(m r:Nat):Lv n (λr=>Ru n r.2) (PySem.W.kas_tail3 m r p):=by
 refine Gd (P:=λ_=>True) (λa _=>?_) _ (acr hn (Rg h _ _) _ _);exact Rg h _ _
theorem N6(h:Ru n p)(m r:Nat):Lv n (λr=>Ru n r.2) (PySem.W.kas_descPart m r p):=by
 refine Gd (P:=λr=>Ru n r.1) (λa ha=>?_) _ (O6 hn _ _ _ h);by_cases z:a.2.2>0
 ·rw[if_pos z];exact aar hn (Rg ha _ _) _ _
 ·rw[if_neg z];exact aar hn ha _ _
theorem agX(h:Ru n p)(r:Nat):Lv n (λr=>Ru n r.2) (PySem.W.kas_count r p):=by
 refine Gd (P:=λ_=>True) (λa _=>?_) _ (acr hn h _ _);by_cases z:(a==r)=true
 ·rw[if_pos z];exact h
 ·rw[if_neg z];by_cases y:a>1
  ·rw[if_pos y];refine⟨xM h hn _,xM h hn _,λb=>?_⟩;cases b
   ·exact N6 hn (Rg h _ _) _ _
   ·exact h
  ·rw[if_neg y];exact N6 hn h _ _
theorem P0{p:Array Nat}(h:Ru n p)(k:Nat):∀f l r:Nat,Lv n (λ_=>True) (PySem.W.kas_place p k f l r)
 |0,l,r=>trivial
 |f+ 1,l,r=>by
  show Lv n _ (if l≥r then _ else _);by_cases z:l≥r
  ·rw[if_pos z];exact trivial
  ·rw[if_neg z];refine⟨xM h hn _,xM h hn _,λb=>?_⟩;cases b
   ·exact P0 h k f _ _
   ·exact P0 h k f _ _
theorem agL:∀(f:Nat) {p:Array Nat} (k:Nat),Ru n p->Lv n (Ru n) (PySem.W.kas_bin f p k)
 |0,p,k,h=>h
 |f+ 1,p,k,h=>Gd (P:=λ_=>True) (λa _=>agL f (k+ 1) (akZ h _ _)) _ (P0 hn h k _ _ _)
theorem ajD:Lv n (Ru n) (PySem.W.kas_sort n):=by
 refine Gd (P:=λr=>Ru n r.2) (λa ha=>?_) _ (agX hn (List.Perm.refl _) n);by_cases z:a.1<n
 ·rw[if_pos z];exact agL hn _ _ ha
 ·rw[if_neg z];exact ha
end
theorem ako{α:Type}{n:Nat}{P:α->Prop}{cmp:Nat->Nat->(Bool->Yl->Prop)->Yl->Prop}{G:α->Yl->Prop}{s:Yl}(hc:∀i j C,i<n->j<n->(∀b,C b s)->cmp i j C s)(hg:∀a,P a->G a s):∀t:zw α,Lv n P t->t.kasWp cmp G s
 | .ret a,h=>hg a h
 | .ask i j k,h=>hc i j _ h.1 h.2.1 λb=>ako hc hg (k b) (h.2.2 b)
theorem ali(h:Ru vs.length p):(p.toList.map λi=>vs.getD i iS).Perm vs:=by
 have e:(cq vs.length).map (λi=>vs.getD i iS)=vs:=by
  refine List.ext_getElem ?N λi h1 h2=>?_;simp at h1⊢;simp[h1]
 have:=h.map λi=>vs.getD i iS;rw[e]at this;exact this
section
def TpI(h:YT)(v:Ye):Prop:=∃a o xs n f ns,v=.ref a/\h.get? a=Ya o/\o.cls=.type "tuple"/\o.data=.seq xs n/\aT xs.toList (f::ns)
theorem amC{a b:Int}{t u:ml}{c:Bool}{Q:Bool->Yl->Prop}(h:∀b,Q b s):Yn ?I A (oneLt' c (.int a t) (.int b u)) Q E s:=by
 cases c with
 |true=>exact oneLt_int (h _)
 |false=>exact PySem.W.kat_one _ _ (FR (h _))
theorem adU{Q:Bool->Yl->Prop}{b fin:Bool}(h:∀b,Q b s):∀{xs ys:List Ye} {ns ms:List Int} (i:Nat),aT xs ns->aT ys ms->PySem.W.KatLex prog w A b fin Q (xs.zip ys) i s
 |_,_,_,_,i,.nil,_=>GI (h _)
 |_,_,_,_,i,.cons _ _ _,.nil=>GI (h _)
 |_,_,_,_,i,.cons x t r,.cons y u q=>by
  refine PySem.W.kat_cons (EZ ?_);refine PySem.W.kat_go (λ_=>PySem.W.kat_yes (adU h ?DP r q)) λ_=>PySem.W.kat_no (amC h)
theorem alL{x y:Ye}{Q:Bool->Yl->Prop}(hx:TpI s.heap x)(hy:TpI s.heap y)(h:∀b,Q b s):Yn ?I A (keyLt' (KP b) x y) Q E s:=by
 obtain⟨a,o,xs,n,f,ns,rfl,e2,e3,e4,e5⟩:=hx;obtain⟨a',o',xs',n',f',ns',rfl,g2,g3,g4,g5⟩:=hy;exact PySem.W.kat_lt e2 e4 g2 g4 (adU h 0 e5 g5)
theorem Xy{h:YT}:∀{vs:List Ye},(∀v∈vs,TpI h v)->∃fs:List Ye,PySem.W.KatTups h vs fs/\(∀v∈fs,∃n t,v=kc n t)/\fs.length=vs.length
 |[],_=>⟨[],PySem.W.KatTups.nil,by simp,rfl⟩
 |v::vs,hv=>by
  obtain⟨fs,h1,h2,h3⟩:=Xy (vs:=vs) λv hv'=>hv v (Yh _ hv');obtain⟨a,o,xs,n,f,ns,rfl,e2,e3,e4,e5⟩:=hv v Yf;obtain⟨w,hw,tk,ew⟩:∃w,xs[0]?=Ya w/\∃tk,w=kc f tk:=by
   rw[<-Y4];generalize xs.toList=l at e5⊢;cases e5 with
   |cons _ t r=>exact⟨_,rfl,_,rfl⟩
  refine⟨w::fs,PySem.W.KatTups.cons e2 e3 e4 hw h1,λu hu=>?_,by rw[Y8,Y8,h3]⟩;rcases Yz.mp hu with z|z
  ·rw[z,ew];exact⟨_,_,rfl⟩
  ·exact h2 u z
def amm(vs:List Ye)(st:SortSt):Prop:=failedOf st=Yb/\∃out:List Ye,out.Perm vs/\(arrOf st).map (·.2)=out.toArray
theorem ahA{ks:List Ye}{κ:SortKind}(hl:ks.length=vs.length):amm vs (SortSt.mk' κ (ks.toArray.zip vs.toArray) #[] 7 Yb):=by
 refine⟨rfl,vs,.refl _,?_⟩;show(ks.toArray.zip vs.toArray).map (·.2)=vs.toArray;apply Array.toList_inj.mp;simpa using List.map_snd_zip (kg hl.symm)
theorem afR{ks:List Ye}{Q:Unit×SortSt->Yl->Prop}(hl:ks.length=vs.length)(h2:¬ vs.toArray.size<2)(h64:vs.length<64)(hT:∀v∈ks,TpI s.heap v)(h:∀st,amm vs st->Q ((),st) s):
  Yn ?I A (keyKind' ks.toArray) (λκ s1=>Yn ?I A (sortRuns'.run (SortSt.mk' κ (ks.toArray.zip vs.toArray) #[] 7 Yb)) Q E s1) E s:=by
 rw[Yx]at h2;obtain⟨fs,kt,ki,kl⟩:=Xy hT;refine PySem.W.kat_kind (T:=j1 "int") kt ?D (λv hv=>?_) ?B ?_
 ·obtain⟨n,t,rfl⟩:=ki v hv;exact PySem.W.Looks.of_pure rfl
 have mem:∀i,i<vs.length->ks.getD i iS∈ks:=λi hi=>by
  rw[YO,Yv ?D];exact tq _
 refine ai (PySem.W.kat_run (Q:=λst s1=>s1=s/\failedOf st=Yb/\∃p,Ru vs.length p/\arrOf st=p.map (PySem.W.kas_item (ks.toArray.zip vs.toArray))) (G:=λp s1=>s1=s/\Ru vs.length p) hl ?D h64 (λp st s1 _ q1 q2 q3=>⟨q3.1,q2,p,q3.2,q1⟩)
  (ako (n:=vs.length) (λi j C hi hj hC=>alL (hT _ (mem i hi)) (hT _ (mem j hj)) hC) (λp hp=>⟨rfl,hp⟩) _ (ajD ?D))) (λr s1 q=>?_) λ_ _ e=>e
 obtain⟨rfl,q1,p,q2,q3⟩:=q;exact h r.2 ⟨q1,_,ali q2,PySem.W.kat_snds hl q3⟩
end
theorem aeB:∀{vs:List V} {its out:List Ye},Vals vs its->out.Perm its->∃ws:List V,ws.Perm vs/\Vals ws out:=by
 intro vs its out h p
 induction p generalizing vs with
 |nil=>cases h;exact⟨[],.nil,.nil⟩
 |cons x p ih=>
  cases h with
  |cons r t=>
   obtain⟨ws,a,b⟩:=ih t;exact⟨_::ws,a.cons _,.cons r b⟩
 |swap x y l=>
  cases h with
  |cons r t=>
   cases t with
   |cons r2 t2=>exact⟨_,.swap _ _ _,.cons r2 (.cons r t2)⟩
 |trans p q ih1 ih2=>
  obtain⟨ws,a,b⟩:=ih2 h;obtain⟨us,c,d⟩:=ih1 b;exact⟨us,c.trans a,d⟩
section
end
section
variable{H0:Hp}{h':YT}
theorem bH.adopt{it:Yc}{o:HO}{t':Nat}(I:bH X pins σ H s)(k:∀b o,b≠it->s.heap.get? b=Ya o->h'.get? b=Ya o)(hf:JD X pins H it)
  (new:gQ X.prog X.w (upd H it o) h' it o):bH X pins σ (upd H it o) ?CK:=by
 obtain⟨f0,f1,f2,f3,f4,f5⟩:=hf;have nit:∀b u,H b=Ya u->b≠it:=λb u e z=>by rw[z,f0]at e;cases e
 refine I.step (g':=s.gens) (d':=s.drawn) (ch:=[it]) (λb hb=>?_) (λb o _ _ hc e _=>k b o ?BX e) ?GW (λb ob hc e n=>by rw[aQ ?BX];exact n)
  (λb o hc e=>⟨o,k b o ?BX e⟩) (λb xs e=>by rw[aQ (nit b _ e)];exact e) (λb o u e=>by rw[aQ (nit b _ e)];exact e) (λb ps e=>⟨#[],by rw[aQ (nit b _ e),e];simp⟩) (λm hm=>?_) (λb u e=>?_) I.bare
 ·have e:b=it:=by simpa using hb
  subst e;exact⟨f3,f1,f4,f5⟩
 ·obtain⟨ob,es,ep,ho,r⟩:=hm;exact⟨ob,es,ep,k _ ob (Ne.symm f1) ho,r⟩
 ·by_cases hb:b=it
  ·subst hb;rw[aA]at e;cases e;exact new
  ·rw[aQ hb]at e;refine(I.hok b u e).stay (λc v hc q=>k c v ?_ q) (λc q=>by rw[aQ (nit c _ q)];exact q) λc xs q=>by rw[aQ (nit c _ q)];exact q
   rcases hc with z|z
   ·rw[z];exact nit b u e
   ·exact nit c _ z
end
theorem gJ.two(r:gJ (k+ 1) A):gJ k A.in1.in1:=⟨r.hd,by have:=r.dp;show A.depth+ 3*k+ 5<vE;omega,by have:=r.un;show A.units+ 1+ 1+ 16*k+ 200<hV;omega⟩
theorem afS{x:V}{v:Ye}:Vals xs its->RelV x v->Vals (xs++[x]) (its++[v]):=λh r=>h.append (.cons r .nil)
section
variable{D:Yc}
theorem ahn(F:aG X.prog X.w X.K X.mg X.base bJ k f fd ps sp)(hr:gJ k X.A.in1.in1)(hb:Binds X.K fd ps [])(IV:bH X pins σ H s)(fD:JD X pins H D)(hD:s.heap.get? D=Ya (seqObj "list" its.toArray n))(rv:Vals xs its)(h64:xs.length<64)(lk:xs.length=ks.length)(kn:∀k∈ks,k≠[])(KY:∀(i:Nat) x k H3 (Q':VK),xs[i]?=Ya x->ks[i]?=Ya k->aW H H3->(∀H4 t,aW H3 H4->dC X.K H4 t (k.map V.int)->Q' (.ref t) H4)->sp [x] H3 Q' E0)(hR:∀ws H' s',ws.Perm xs->aW H H'->H' D=Yb->bH X pins σ (upd H' D (.lst ws)) s'->P (.done (.ret .none)) s'):
  Yn ?M X.A.in1.in1 (ksk_tree D (.ref f) false) P E s:=by
 have lv:=rv.length;unfold ksk_tree;refine aiJ (k:=λits e ks=>ksk_rest D (.ref f) false its e ks) hD ?D λh2 e1 k2 hD2=>?_;obtain⟨f0,f1,f2,f3,f4,f5⟩:=id fD;have I2:bH X pins σ H {s with heap:=h2}:=IV.turned (t':=s.toks) (it:=D) k2 f0 f1 f3 f4 f5;have hkD:h2.objs.size≠D:=kf (Yu hD2);have hk0:H h2.objs.size=none:=bH.fresh I2;have I3:bH X pins σ (upd H h2.objs.size (.lst [])) {s with heap:=h2.push (seqObj "list" #[] 0)}:=bH.lnew (s:={s with heap:=h2}) (its:=[]) (t':=s.toks) I2 .nil (YX _);have hD3:(h2.push (seqObj "list" #[] 0)).get? D=Ya (seqObj "list" #[] e1):=Yi _ hD2;generalize h2.push (seqObj "list" #[] 0)=h3 at I3 hD3⊢;generalize h2.objs.size=kS at I3 hkD hk0⊢;unfold ksk_rest;refine Yg (F8 ?_);rw[List.forIn_toArray];refine Yg (ksk_fold (λi s'=>∃H' ts,bH X pins σ H' s'/\aW H H'/\H' D=Yb/\s'.heap.get? D=Ya (seqObj "list" #[] e1)/\H' kS=Ya (.lst ((ts:List Yc).map V.ref))/\ts.length=i/\∀(j:Nat) t,ts[j]?=Ya t->∃k,ks[j]?=Ya k/\dC X.K H' t (k.map V.int)) its 0 _ ⟨_,[],I3,aH hk0,by rw[aQ hkD.symm];exact f0,hD3,aA,rfl,λj t h=>by simp at h⟩ ?_ ?_)
 ·rintro j x s' hx ⟨H',ts,I',sm,hD',gD,hK,lt,ht⟩;rw[u3]at lt;have hj:=(Ys.mp hx).1;have hxj:xs[j]?=Ya xs[j]:=Yv ?D;obtain⟨u',hu',rx⟩:=rv.get hxj;rw[hx]at hu';cases hu';have hkj:ks[j]?=Ya ks[j]:=Yv ?D;have fD':JD X pins H' D:=⟨hD',f1,f2,f3,f4,f5⟩;have IP:bH X (pins++Mz [D] s'.heap) σ H' s':=I'.pinned (fp:=[D]) (λb hb=>by rw[YU.mp hb];exact fD') (λb hb=>by rw[YU.mp hb];exact⟨_,gD,λv z=>nomatch z⟩);have key:=Eu (X:=X.one.one) (vs:=[xs[j]]) (us:=[x]) (Q:=λz H4=>∃t,z=.ref t/\aW H' H4/\dC X.K H4 t (ks[j].map V.int)) (E:=E0) (dvs:=[]) (ds:=[]) F hr hb .nil (λ_ _ _ _ _ _ _ q=>q.elim) IP.one.one (.cons rx .nil) (by
   rw[dA];exact KY j _ _ H' _ hxj hkj sm λH4 t s4 h4=>⟨t,rfl,s4,h4⟩)
  refine Yg (sQ (ai key (λu s2 q=>?_) λ_ _ q=>q.elim));obtain⟨z,H4,I4,rz,t2,rfl,s4,ht2⟩:=q;cases rz;have I4:=bH.back IP.ok (bH.back IP.one.ok I4);have pD:=I4.pin (D,seqObj "list" #[] e1) (Y1 _ (Y1 _ (qg ?N gD)));have I5:=I4.unpinned;have hK4:=s4 _ _ hK;obtain⟨_,kt,nk,rk,lk',gk⟩:=I5.lstM hK4;rw[Yk]at lk';dsimp only;refine Yg (xv gk rfl ?_ (by rw[Yx,ip];omega) (by rw[Array.size_push,Yx,ip];omega));have I6:bH X pins σ (upd H4 kS (.lst ((ts++[t2]).map V.ref))) {s2 with heap:=s2.heap.update kS (eM (·.push (.ref t2)))}:=I5.lset (t':=s2.toks) (its':=kt++[.ref t2]) hK4 gk ?N (by rw[YG];exact afS rk rfl) (by rw[Yk,YE,kC,ip];omega);have nt:∀t ks',dC X.K H4 t ks'->dC X.K (upd H4 kS (.lst ((ts++[t2]).map V.ref))) t ks':=λt ks' h=>by
   rcases h with(h|⟨z,h⟩)|h
   ·exact .inl (.inl (by rw[aQ (λz=>by rw[z,hK4]at h;cases h)];exact h))
   ·exact .inl (.inr ⟨z,by rw[aQ (λz=>by rw[z,hK4]at h;cases h)];exact h⟩)
   ·exact .inr h
  refine Yp ⟨rfl,_,ts++[t2],I6,λb o e=>?_,?_,?_,aA,by rw[YE,lt];simp,λj' t hj'=>?_⟩
  ·rw[aQ (bB e hk0)];exact s4 _ _ (sm _ _ e)
  ·rw[aQ hkD.symm];exact pD.2.1
  ·exact((dE s2.heap kS (eM (·.push (.ref t2)))).2 D hkD.symm).trans pD.1
  ·by_cases w:j'<ts.length
   ·rw[fN w]at hj';obtain⟨k',e1',e2'⟩:=ht j' t hj';exact⟨k',e1',nt _ _ (SmT.same s4 _ _ e2')⟩
   ·have:j'=j:=by
     have:=(Ys.mp hj').1;rw[YE,kC]at this;omega
    subst this;rw[fu ?D,lt,Nat.sub_self]at hj';cases hj';exact⟨_,hkj,nt _ _ ht2⟩
 rintro s' ⟨H',ts,I',sm,hD',gD,hK,lt,ht⟩;rw[u3]at lt;obtain⟨_,kt,nk,rk,lk',gk⟩:=I'.lstM hK;rw[Yk]at lk';refine Yg (Jn gk rfl ?_);have hT:∀v∈kt,TpI s'.heap v:=λv hv=>by
  obtain⟨i,hi⟩:=lP hv;have hil:=(Ys.mp hi).1;have hti:ts[i]?=Ya ts[i]:=Yv ?D;obtain⟨k',e1',e2'⟩:=ht i _ hti;obtain⟨u',hu',ru⟩:=rk.get (show(ts.map V.ref)[i]?=Ya (.ref ts[i]) by rw[Yw,hti];rfl);rw[hi]at hu';cases hu';cases ru;obtain⟨ia,ra,pa,_⟩:=I'.tuple e2';obtain⟨o,ho,hc,n',hd⟩:=id pa;have kne:=kn k' (YW e1');cases k' with
  |nil=>exact absurd rfl kne
  |cons f' ns=>exact⟨_,o,_,n',f',ns,rfl,ho,hc,hd,m9 ra⟩
 have hkD':D≠kS:=hkD.symm;have fin:∀st:SortSt,amm its st->Yn ?M X.A.in1.in1 (ksk_tail D false e1 (.ref kS) st) P E s':=by
  rintro st ⟨hf,out,po,eo⟩;obtain⟨ws,wp,wv⟩:=aeB rv po;unfold ksk_tail
  try dsimp only
  rw[eo];refine Yg (xv gk rfl ?_ (by rw[Yx,ip];omega) (YX _));have I6:bH X pins σ (upd H' kS (.lst [])) {s' with heap:=s'.heap.update kS ?G2}:=I'.lset (t':=s'.toks) (its':=[]) (ys:=[]) hK gk ?N .nil (YX _);have gD6:(s'.heap.update kS ?G2).get? D=Ya (seqObj "list" #[] e1):=((dE s'.heap kS ?G2).2 D hkD').trans gD;generalize s'.heap.update kS (eM λ_=>(#[]:Array Ye))=h6 at I6 gD6⊢;refine Yg (wpAny_letGo ?_);refine abv (s:={s' with heap:=h6}) (out:=out.toArray) gD6 (by rw[Yx,po.length_eq,ip];omega) λh7 c k7 g7=>?_;rw[hf]
  wp_walk
  refine hR ws (upd H' kS (.lst [])) _ wp (λb o e=>?_) (by rw[aQ hkD'];exact hD') ?_
  ·rw[aQ (bB e hk0)];exact sm _ _ e
  ·exact bH.adopt (s:={s' with heap:=h6}) (t':=s'.toks) I6 k7 ⟨by rw[aQ hkD'];exact hD',f1,f2,f3,f4,f5⟩ ⟨by rw[wp.length_eq,ip];omega,out,c,wv,g7⟩
 unfold ksk_end;simp only[ri,if_false];by_cases few:its.toArray.size<2
 ·rw[if_pos few,if_pos few];refine Yg (Yp ?_);rw[StateT.run_pure];exact Yg (Yp (fin _ (ahA ?D)))
 ·rw[if_neg few,if_neg few];exact Yg (ai (afR ?D few ?D hT λst q=>fin st q) (λκ s1 q=>Yg q) λ_ _ e=>e)
theorem aiW(F:aG X.prog X.w X.K X.mg X.base bJ k f fd ps sp)(hr:gJ k X.A.in1.in1)(hb:Binds X.K fd ps [])(IV:bH X pins σ H s)(hl:s.heap.IsList l its.toArray)(rv:Vals xs its)(h64:xs.length<64)(lk:xs.length=ks.length)(kn:∀k∈ks,k≠[])(KY:∀(i:Nat) x k H3 (Q':VK),xs[i]?=Ya x->ks[i]?=Ya k->aW H H3->(∀H4 t,aW H3 H4->dC X.K H4 t (k.map V.int)->Q' (.ref t) H4)->sp [x] H3 Q' E0)(hR:∀D ws H' s',H D=Yb->ws.Perm xs->aW H H'->H' D=Yb->bH X pins σ (upd H' D (.lst ws)) s'->Q (.ref D) s'):
  Yn ?M X.A (call (.builtin "sorted") [.ref l] [(YL "key",.ref f)]) Q E s:=by
 have lv:=rv.length;refine aeA hl ?D (ksk_s1 _ _) (λ_=>ksk_l1 _ _) λh1 g1 a1=>?_;have hDn:H (s.heap.objs.size+ 1)=none:=IV.hok.fresh (gx _);rw[ksk_t1];exact ahn F hr hb (IV.kept (t':=s.toks) g1) (IV.fpOk (gx _) hDn) a1 rv h64 lk kn KY λws H' s' wp sm hD' I'=>⟨rfl,hR _ ws H' s' hDn wp sm hD' I'⟩
end
def agP(K:Yd)(sp:Sp)(x:V)(H2:Hp)(Q:VK):Prop:=∃(l:Yc) (xs:List V) (ks:List (List Int)),x=.ref l/\bK K H2 l xs/\xs.length<64/\xs.length=ks.length/\(∀k∈ks,k≠[])/\
 (∀(i:Nat) (x:V) (k:List Int) (H3:Hp) (Q':VK),xs[i]?=Ya x->ks[i]?=Ya k->aW H2 H3->(∀H4 t,aW H3 H4->dC K H4 t (k.map V.int)->Q' (.ref t) H4)->sp [x] H3 Q' E0)/\
 ∀(D:Yc) (ws:List V) (H':Hp),H2 D=Yb->ws.Perm xs->aW H2 H'->H' D=Ya (.lst ws)->Q (.ref D) H'
def af0(K:Yd)(sp:Sp)(te:TE):TE:=λσ H Q=>te σ H λx H1=>agP K sp x H1 Q
section
theorem acw{K:Yd}{p:iL}(hK:X.K=K)(ha:PA X [e] (zj te sJ))(hg:Gl X "sorted")(hm:X.mg "sorted"=Yb)(G:aG X.prog X.w X.K X.mg X.base bJ k f fd ps sp)(hmk:X.mg fx=Ya (.ref f))(hbk:Binds X.K fd ps [])(hgk:Gl X fx)(hr:gJ (k+ 1) X.A)(hdb:(fx==("__debug__":Ym))=false:=by decide)(h1:dk pos (YR [e] X.env)=?A8::dk pos (YR [] X.env):=by rfl)(h2:(dk pos (YR [e] X.env)).any (·.1)=false:=by rfl):
  PE X (.Call (.Name "sorted" p) [e] [⟨Ya "key",.Name fx p2,k1⟩] pos) (af0 K sp te):=by
 subst hK;intro pins s σ H Q I h;refine ff (Ar I hg hm ae ?_);refine pe ?_ h1 h2;refine eZ (ha pos pins s σ H (λvs H1=>match vs with|[x]=>agP X.K sp x H1 Q|_=>False) I h) λus s1 zz=>?_;obtain⟨vs,H1,I1,r1,q1⟩:=zz;obtain⟨x,rfl⟩:∃x,vs=[x]:=by
  match vs,q1 with
  |[x],_=>exact⟨x,rfl⟩
 obtain⟨u,rfl,rx⟩:=lQ r1;obtain⟨l,xs,ks,ex,hl,h64,lk,kn,KY,q⟩:=q1;subst ex;cases rx;refine kF (Jz I1 hgk hmk ?_ hdb);refine vb ?_;obtain⟨its,rv,pl,hz⟩:=I1.list hl;show Yn _ _ (call (.builtin "sorted") [Y0 l] [(YL "key",.ref f)]) _ _ _;refine aiW (H:=H1) G (gJ.two hr) hbk I1 pl.isList rv h64 lk kn KY λD ws H' s' hD wp sm hD' I'=>?_;exact⟨.ref D,_,I',rfl,q D ws _ hD wp (sm.trans (aH hD')) aA⟩
end
theorem aiv{K:Yd}{Q:VK}(h:te σ H λx H1=>agP K sp x H1 Q):af0 K sp te σ H Q:=h
section
end
section
end
section
variable{K:Yd}
end
end L2
namespace GX
open PySem PySem.Spec PyProof.Rows
variable{prog:YI}{w:YV}{A:Y7}{s:Yl}{E:Ye->Yl->Prop}{it d:Yc}{h:YT}{es:Array bE}{ep i:Nat}{Q:Option Ye->Yl->Prop}
section
variable{l:Yc}
end
noncomputable abbrev zP(es:Array bE)(ep:Nat):Y6:={cls:=.type "dict",data:=.dict es ep}
noncomputable abbrev ach(d:Yc)(i n ep:Nat):Y6:={cls:=.type "dict_valueiterator",data:=.fields #[.ref d,.int i 0,.int n 0,.int ep 0]}
theorem ahe(it d:Yc)(i ep:Nat)(es:Array bE)(e:bE)(hx:es[i]?=Ya e):
  pk ?EE (λ_ R s=>s.heap.get? it=Ya (ach d i es.size ep)/\s.heap.get? d=Ya (zP es ep)/\
   ∀g,g.get? it=Ya (ach d ?DP es.size ep)->fm it s.heap g->R (.ok (.ret e.val)) ?B3):=
 .of_wp λprog w A R s ⟨h1,h2,q⟩=>by
  obtain⟨h,g,dr,tk,os⟩:=s;have hT:cg {heap:=h,gens:=g,drawn:=dr,toks:=tk,os:=os} (.ref it) "dict_valueiterator":=⟨_,h1,rfl⟩
  wp_walk
  rw[if_neg ?D,Yy,hx]
  wp_walk
  have ow:gN ((Manifest.find? "dict_valueiterator").elim "dict_valueiterator" λx=>x.tpName)=false:=by decide +kernel
  refine⟨_,rfl,q _ ?_ (dE ..)⟩;rw[eW _ h1 rfl,ow];simp[sP,rawInt];intro x hx hm;exfalso
  revert x hx hm
  decide +kernel
theorem ajz(d:Yc)(es:Array bE)(ep:Nat)(hd:(d==eK)=false):
  pk (bS.«dict.values» ⟨[.ref d],[]⟩) (λ_ R s=>s.heap.get? d=Ya (zP es ep)/\R (.ok (.ret (.ref s.heap.objs.size))) {s with heap:=s.heap.push {cls:=.type "dict_values",data:=.fields #[.ref d]}}):=
 .of_wp λprog w A R s ⟨h1,q⟩=>by
  obtain⟨h,g,dr,tk,os⟩:=s;have hT:cg {heap:=h,gens:=g,drawn:=dr,toks:=tk,os:=os} (.ref d) "dict":=⟨_,h1,rfl⟩
  wp_walk
  exact⟨_,rfl,q⟩
theorem aiD(it d:Yc)(i ep:Nat)(es:Array bE)(hi:es.size<=i):
  pk ?EE (λA R s=>A.handled=Yb/\s.heap.get? it=Ya (ach d i es.size ep)/\s.heap.get? d=Ya (zP es ep)/\
   ∀g e,wx it s.heap g->cg ?B3 (.ref e) "StopIteration"->R (.error (.ref e)) ?B3):=
 .of_wp λprog w A R s ⟨h0,h1,h2,q⟩=>by
  obtain⟨h,g,dr,tk,os⟩:=s;have hT:cg {heap:=h,gens:=g,drawn:=dr,toks:=tk,os:=os} (.ref it) "dict_valueiterator":=⟨_,h1,rfl⟩;have h0':A.in1.handled=none:=h0
  wp_walk
  rw[if_neg ?D,Yy,eB hi]
  wp_walk
  simp only[FE]
  wp_walk
  exact q _ _ (λb o nb e=>Yi _ (Yi _ (((dE ..).2 b nb).trans e))) ⟨_,Yq _ rfl,rfl⟩
theorem aeW(v d:Yc)(ep:Nat)(es:Array bE)(dd:Option Yc)(sl:Array ?EV):
  pk (bS.«dict_values.__iter__» ⟨[.ref v],[]⟩) (λA R s=>s.heap.get? v=Ya {cls:=.type "dict_values",dict:=dd,data:=.fields #[.ref d],slots:=sl}/\s.heap.get? d=Ya (zP es ep)/\
   R (.ok (.ret (.ref s.heap.objs.size))) {s with heap:=s.heap.push (ach d 0 es.size ep)}):=
 .of_wp λprog w A R s ⟨h1,h2,q⟩=>by
  obtain⟨h,g,dr,tk,os⟩:=s;have hT:cg {heap:=h,gens:=g,drawn:=dr,toks:=tk,os:=os} (.ref v) "dict_values":=⟨_,h1,rfl⟩
  wp_walk
  have ow:gN "dict_valueiterator"=false:=by decide +kernel
  rw[ow];exact⟨_,rfl,q⟩
def ud(h:YT)(d:Yc)(es:Array bE)(ep:Nat):Prop:=h.get? d=Ya (zP es ep)
def RB(h:YT)(it d:Yc)(i n ep:Nat):Prop:=h.get? it=Ya (ach d i n ep)
theorem ud.of{o:Y6}(e:h.get? d=Ya o)(x:o.ExactDict)(dt:o.data=.dict es ep):ud h d es ep:=by
 obtain⟨c,di,dat,sl⟩:=o;obtain⟨rfl,rfl,rfl⟩:=x;cases dt;exact e
theorem ud.at{g:YT}(x:ud h d es ep)(k:∀o,h.get? d=Ya o->g.get? d=Ya o):ud g d es ep:=k _ x
theorem ud.lt(x:ud h d es ep):d<h.objs.size:=Yu x
theorem RB.is{n:Nat}(x:RB h it d i n ep):h.IsValIter it d i n ep:=⟨_,x,rfl,rfl⟩
section
variable{v:Yc}
theorem acn{Q:Ye->Yl->Prop}(hS:(d==eK)=false)(rd:ud s.heap d es ep)
  (q:Q (.ref s.heap.objs.size) {s with heap:=s.heap.push {cls:=.type "dict_values",data:=.fields #[.ref d]}}):Yn ?I A (call (.builtin "dict.values") [.ref d]) Q E s:=
 px F.slot_dict_values ⟨_,rd,rfl⟩ F.entry_dict_values (F.args_dict_values_1 _) (ajz d es ep hS) ⟨rd,q⟩
theorem ah6{Q:Ye->Yl->Prop}(hv:s.heap.IsValuesView v d)(rd:ud s.heap d es ep)
  (q:Q (.ref s.heap.objs.size) {s with heap:=s.heap.push (ach d 0 es.size ep)}):Yn ?I A (uj (.ref v)) Q E s:=by
 obtain⟨⟨c,di,dat,sl⟩,e,rfl,rfl⟩:=id hv;apply sf hv.typeIs F.slot_dict_values_iter;apply px F.slot_dict_values_iter hv.typeIs F.entry_dict_values_iter (F.args_dict_values_iter_1 _) (aeW v d ep es di sl);exact⟨e,rd,"dict_valueiterator",_,⟨_,Yq _ rfl,rfl⟩,F.slot_dict_valueiterator_next.lookup,q⟩
theorem ag6{R:pV->Yl->Prop}{S:Y7->(pV->Yl->Prop)->Yl->Prop}(hT:s.TypeIs (.ref it) "dict_valueiterator")(m:pk ?EE S)(h:S A R s):
  c5 ?I A (.call (.builtin "dict_valueiterator.__next__") ⟨[.ref it],[]⟩) R s:=
 lj F.slot_dict_valueiterator_next.plain F.entry_dict_valueiterator_next (F.slot_dict_valueiterator_next.check _ _ _ _ _ _ _ _ hT (F.args_dict_valueiterator_next_1 _) (m prog w A R s h))
theorem ah1{e:bE}(hit:RB s.heap it d i es.size ep)(rd:ud s.heap d es ep)(hx:es[i]?=Ya e)(hQ:∀g,RB g it d ?DP es.size ep->fm it s.heap g->Q (Ya e.val) ?B3):Yn ?I A (fF (.ref it)) Q E s:=by
 have hT:s.TypeIs (.ref it) "dict_valueiterator":=⟨_,hit,rfl⟩;have hk:=F.slot_dict_valueiterator_next.lookup;have hb:=F.slot_dict_valueiterator_next.bind (.ref it);unfold fF
 repeat' first|assumption|wp_step
 exact ag6 hT (ahe it d i ep es e hx) ⟨hit,rd,λg a b=>Yp (Yp (hQ g a b))⟩
theorem ajt(hh:A.handled=Yb)(hit:RB s.heap it d i es.size ep)(rd:ud s.heap d es ep)(hi:es.size<=i)(fin:∀g,wx it s.heap g->Q Yb ?B3):Yn ?I A (fF (.ref it)) Q E s:=by
 have hT:s.TypeIs (.ref it) "dict_valueiterator":=⟨_,hit,rfl⟩;have hk:=F.slot_dict_valueiterator_next.lookup;have hb:=F.slot_dict_valueiterator_next.bind (.ref it);have hst:isSubtype (.type "StopIteration") (.type "StopIteration")=pure true:=by rw[rS];kernel_rfl
 unfold fF
 repeat' first|assumption|wp_step
 refine ag6 hT (aiD it d i ep es hi) ⟨hh,hit,rd,λg e a b=>?_⟩;have hq:=fin g a
 repeat' first|assumption|wp_step
end
theorem aeP(hh:A.handled=Yb)(nd:d≠it):
  yy prog w A it [it,d] [it] es.size (λi x=>∃y:bE,es[i]?=Ya y/\x=y.val) (λi h=>RB h it d i es.size ep/\ud h d es ep):=by
 constructor
 case sub=>intro b hb;simp at hb;simp[hb]
 case frame=>exact λi h g x k=>⟨k it ?N _ x.1,k d ?N _ x.2⟩
 case self=>exact λi s Q E x q=>CH x.1.is q
 case done=>exact λs Q E x q=>ajt hh x.1 x.2 ?BU λg k=>q g s.toks λb o nb e=>k b o (by simpa using nb) e
 case item=>
  intro i s Q E hi x q;exact ah1 x.1 x.2 (YH hi) λg a k=>q _ g s.toks ⟨_,YH hi,rfl⟩ ⟨a,(k.2 d nd).trans x.2⟩ λb o nb e=>(k.2 b (by simpa using nb)).trans e
section
variable{K:Type}[DecidableEq K]{knd:HeapKind prog w K}{a:Yc}{xs:List (K×Yc×Ye)}{k:K}{j:Nat}{p:Yc×Ye}
end
end GX
namespace L2
open PySem PySem.Spec PyProof.Rows
variable{X:Cx}{P:YI}{w:YV}{d f b c a C:Yc}{H H':Hp}{h base:YT}{n k i:Nat}{A:Y7}{E:Ye->Yl->Prop}{s s':Yl}{pins:List ?AQ}{σ:St}{xs vs vals:List V}{fd:Yt}{ps N:List Ym}{sp:Sp}{cs:List Yc}{us:List Ye}{x qual m:Ym}{CX:CXT}{mg:Ym->Option Ye}{scope:jS}{cd:Ye}{cl:List ?GG}{outer:List m4}{ix:List Nat}{Q:VK}{OK:Yc->Sp->Prop}{pos:iL}{e:YZ}{es:List YZ}{tf ta:TE}{t:TA}{ms:List (Yc×Sp)}
section
variable{tg:YZ}
end
theorem ak6{r:Yc}{es:Array bE}{ep:Nat}:
  PySem.W.KdlSrc P w "dict_values" r d es.size (λi x=>∃y:bE,es[i]?=Ya y/\x=y.val) (λh=>h.IsValuesView r d/\GX.ud h d es ep):=by
 constructor
 case iter=>
  intro A s hh ⟨hv,rd⟩;refine⟨GX.ach d 0 es.size ep,λi h=>GX.RB h s.heap.objs.size d i es.size ep/\GX.ud h d es ep,λE Q q=>GX.ah6 hv rd q,GX.aeP hh (YF rd.lt),Yq _ rfl,rd.at λo e=>Yi _ e⟩
 case hint=>exact λA E s Q x q=>PySem.W.kdl_hint_values x.1.typeIs q
 case keep=>
  intro h g ⟨⟨o,e,c,dt⟩,rd⟩ k;exact⟨⟨o,k r ?E o e,c,dt⟩,rd.at (k d ?IC)⟩
 case there=>
  intro h ⟨⟨o,e,_⟩,rd⟩;exact And.intro (Yu e) rd.lt
 case type=>exact λs x=>x.1.typeIs
 case notList=>rfl
 case notTuple=>rfl
theorem aha{kvs:List ?BD}(ok:xP P w H h)(e:Rd H d (.dT kvs)):
  (d==eK)=false/\∃(es:Array bE) (ep:Nat),GX.ud h d es ep/\es.size=kvs.length/\∀(i:Nat) (k:List d9) (v:V),kvs[i]?=Ya (k,v)->∃y:bE,es[i]?=Ya y/\RelV v y.val:=by
 obtain⟨_,hS,xs,kt,o,es,ep,h1,h2,h3,h4,_⟩:=Tw ok e;refine⟨hS,es,ep,.of h1 h2 h3,?_,λi k v hv=>?_⟩
 ·rw[<-aE,h4,Yk];exact(bX kt).symm
 ·obtain⟨q,hq,_,_,rv⟩:=iZ kt hv;refine⟨BY (ke (bT P w)) q,?_,rv⟩;rw[<-Y4,h4,Yw,hq];rfl
section
theorem W4:MtR X "dict.values" (λx vs H Q=>∃d kvs,x=.ref d/\vs=[]/\H d=Ya (.dT kvs)/\∀v,H v=Yb->Q (.ref v) (upd H v (WN v d))):=by
 intro pins s σ H x xs v us Q I rx rv h;obtain⟨d,kvs,rfl,rfl,hd,q⟩:=h;cases rx;cases rv;obtain⟨hS,es,ep,rd,_⟩:=aha I.hok (.inl hd);refine GX.acn hS rd ?_;exact⟨.ref s.heap.objs.size,_,I.laid (o:=WN s.heap.objs.size d) (t':=s.toks) (λb ob e=>Yi _ e) ?BU ⟨⟨_,Yq _ rfl,rfl,rfl⟩,⟨_,Yq _ rfl⟩,λh1 h2 ⟨o,e1,e2,e3⟩ k=>⟨o,k o e1,e2,e3⟩⟩,rfl,q _ ?AL⟩
theorem NT(hc:X.calm=true):jQ X (.type "list") (λxs H Q=>∃(v d:Yc) (kvs:List ?BD),xs=[.ref v]/\H v=Ya (WN v d)/\Rd H d (.dT kvs)/\kvs.length<=1000/\∀l,H l=Yb->Q (.ref l) (upd H l (.lst (kvs.map (·.2))))):=by
 intro pins s σ H xs us Q I r h;obtain⟨v,d,kvs,rfl,hv,hd,hlen,q⟩:=h;obtain⟨u,rfl,rx⟩:=lQ r;cases rx;obtain⟨hS,es,ep,rd,sz,rel⟩:=aha I.hok hd;have hvw:s.heap.IsValuesView v d:=(I.hok v _ hv).1;refine tF (A:=X.A) (ak6 (es:=es) (ep:=ep)) ?BK ⟨hvw,rd⟩ (by rw[sz];exact Y5 (bx ?D)) λh' tk acc c hk he hacc=>?_;refine⟨.ref s.heap.objs.size,_,I.laid (o:=.lst (kvs.map (·.2))) (t':=tk) hk ?BU ⟨by rw[Yk];exact Y5 (bx hlen),acc.toList,c,Qx ?_ λi x u hx hu=>?_,he⟩,rfl,q _ ?AL⟩
 ·have e:acc.toList.length=es.size:=by rw[aE];exact hacc.1
  rw[Yk,e,sz]
 ·rw[Y4]at hu;obtain⟨y,hy,rfl⟩:=hacc.2 i u hu;rw[Yw]at hx;cases e:kvs[i]? with
  |none=>rw[e]at hx;cases hx
  |some p=>
   rw[e]at hx;cases hx;obtain⟨y',hy',ru⟩:=rel i p.1 p.2 e;rw[hy]at hy';cases hy';exact ru
end
section
end
section
end
section
variable(ky:Nat->Int)
variable{ky}(hn:0<n)
end
section
variable{prog:YI}
end
section
variable{D:Yc}{its:List Ye}{ks:List (List Int)}
end
section
end
section
end
noncomputable def Oh(cs:List Yc)(H:Hp):Hp:=λb=>if b∈cs then Yb else H b
noncomputable def rln(cs:List Yc)(H H':Hp):Hp:=λb=>if b∈cs then H b else H' b
theorem Ww(h:b∈cs):Oh cs H b=none:=if_pos h
theorem jO(h:b∉cs):Oh cs H b=H b:=if_neg h
theorem af2{o:HO}(h:Oh cs H b=Ya o):b∉cs/\H b=Ya o:=by
 by_cases z:b∈cs
 ·rw[Ww z]at h;cases h
 ·rw[jO z]at h;exact⟨z,h⟩
theorem acv(h:b∈cs):rln cs H H' b=H b:=if_pos h
theorem tV(h:b∉cs):rln cs H H' b=H' b:=if_neg h
noncomputable abbrev alT(c:Yc)(v:V):HO:=.ext λh=>∃u,RelV v u/\h.IsCell c (Ya u)
def apG(H:Hp)(c:Yc)(v:V):Prop:=∃o,H c=Ya (.frz o (alT c v))
noncomputable abbrev FnO(f:Yc)(fo:Y6):HO:=.ext λh=>h.get? f=Ya fo
noncomputable abbrev CdO(c:Yc)(qual:Ym):HO:=.ext λh=>h.CodeRec (.ref c) qual
section
variable{h':YT}{fs:List Yc}
theorem adW(hc:∀c∈cs,∃o φ,H c=Ya (.frz o (.ext φ)))(ok:xP P w H h):xP P w (Oh cs H) h:=λa o e=>by
 obtain⟨_,e⟩:=af2 e;refine(ok a o e).stay (λ_ _ _ q=>q) (λb q=>?_) λb xs q=>?_
 ·rw[jO λz=>by obtain⟨_,_,z⟩:=hc b z;rw[q]at z;cases z];exact q
 ·rw[jO λz=>by obtain⟨_,_,z⟩:=hc b z;rw[q]at z;cases z];exact q
theorem ail(hc:∀c∈cs,∃o φ,H c=Ya (.frz o (.ext φ)))(ok:xP P w H h)(ok':xP P w H' h')(fr:∀c∈cs,H' c=Yb)(kp:∀c∈cs,∀o,h.get? c=Ya o->h'.get? c=Ya o):xP P w (rln cs H H') h':=λa o e=>by
 by_cases z:a∈cs
 ·rw[acv z]at e;obtain⟨ob,φ,q⟩:=hc a z;rw[q]at e;cases e;obtain⟨e1,p,⟨o2,e2⟩,st⟩:=(show h.get? a=Ya ob/\(φ h/\(∃o,h.get? a=Ya o)/\∀h1 h2:YT,φ h1->(∀o,h1.get? a=Ya o->h2.get? a=Ya o)->φ h2)from ok a _ q);exact⟨kp a z _ e1,st _ _ p (kp a z),⟨o2,kp a z _ e2⟩,st⟩
 ·rw[tV z]at e;refine(ok' a o e).stay (λ_ _ _ q=>q) (λb q=>?_) λb xs q=>?_
  ·rw[tV λy=>by rw[fr b y]at q;cases q];exact q
  ·rw[tV λy=>by rw[fr b y]at q;cases q];exact q
theorem alB(hc:∀c∈cs,∃o φ,H c=Ya (.frz o (.ext φ)))(u:Un fs [] (Oh cs H) H' h h'):Un fs [] H (rln cs H H') h h' where
 keep:=λb o e n hb hx=>u.keep b o e (by unfold Oh;split<;>first|rfl|exact n) hb hx
 slot:=λb o e n hb hx=>u.slot b o e (by unfold Oh;split<;>first|rfl|exact n) hb hx
 free:=λb o e n hx=>by
  have nb:b∉cs:=λz=>by obtain⟨_,_,q⟩:=hc b z;rw[n]at q;cases q
  rw[tV nb];exact u.free b o e (by rw[jO nb];exact n) hx
 there:=u.there
 tups:=λb xs q=>by
  have nb:b∉cs:=λz=>by obtain⟨_,_,y⟩:=hc b z;rw[q]at y;cases y
  rw[tV nb];exact u.tups b xs (by rw[jO nb];exact q)
 frzs:=λb o x q=>by
  by_cases z:b∈cs
  ·rw[acv z];exact q
  ·rw[tV z];exact u.frzs b o x (by rw[jO z];exact q)
 tbls:=λb ps q=>by
  have nb:b∉cs:=λz=>by obtain⟨_,_,y⟩:=hc b z;rw[q]at y;cases y
  rw[tV nb];exact u.tbls b ps (by rw[jO nb];exact q)
end
structure ScM(N ps fr:List Ym)(sc:jS):Prop where
 kind:sc.kind=.function
 co:sc.isCoroutine=false
 gen:sc.isGenerator=false
 nd:N.Nodup
 pre:N.take (ps++fr).length=ps++fr
 par:∀x∈ps,sc.names.lookup x=Ya .local
 fre:∀x∈fr,sc.names.lookup x=Ya .free
 cel:∀y∈sc.names,y.2≠.cell
 all:∀y∈sc.names,y.2=.free->y.1∈fr
noncomputable def cxM(CX:CXT)(P:YI)(w:YV)(K:Yd)(mg:Ym->Option Ye)(base:YT)(N:List Ym)(qual:Ym)(scope:jS)(f:Yc)(cd:Ye)(cl:List ?GG)(A:Y7)(outer:List m4)(s:Yl)(H:Hp)(E:XK):Cx where
 prog:=P
 w:=w
 K:=K
 mg:=mg
 base:=base
 A:=A.deeper (oB qual scope s.heap.objs.size f cd cl)
 N:=N
 s₀:=s
 H₀:=Oh ?CT H
 env:=oB qual scope s.heap.objs.size f cd cl
 outer:=outer
 stack:=oB qual scope s.heap.objs.size f cd cl::outer
 ex:=[]
 calm:=true
 fn:=λ_=>false
 pn:=[]
 xe:=λe s'=>Yn (Yr P w) (A.deeper (oB qual scope s.heap.objs.size f cd cl)) (leaving (oB qual scope s.heap.objs.size f cd cl) e) (λ_ s''=>CX outer H s E e s'') (λe' s''=>CX outer H s E e' s'') s'
theorem K7{β:Type}:∀{l:List (Ym×β)} {x:Ym} {y:β},(l.map (·.1)).Nodup->(x,y)∈l->l.lookup x=Ya y
 |[],_,_,_,h=>nomatch h
 |(a,b)::l,x,y,nd,h=>by
  rw[YS,d5]at nd;rw[tj];rcases Yz.mp h with e|e
  ·cases e;rw[beq_self_eq_true]
  ·have:x≠a:=λz=>nd.1 (YD.mpr ⟨(x,y),e,z⟩);rw[beq_false_of_ne this];exact K7 nd.2 e
theorem agE(nd:ps.Nodup){u:Ye}(h1:ps[i]?=Ya x)(h2:us[i]?=Ya u):(ps.zip us).reverse.lookup x=Ya u:=by
 refine K7 ?_ (List.mem_reverse.mpr (YW (i:=i) (kX.mpr ⟨h1,h2⟩)));rw[List.map_reverse];refine(List.reverse_perm _).nodup_iff.mpr (nd.sublist ?_);have:∀(ps:List Ym) (us:List Ye),((ps.zip us).map (·.1)).Sublist ps:=by
  intro ps
  induction ps with
  |nil=>intro us;exact List.Sublist.refl _
  |cons p ps ih=>
   intro us;cases us with
   |nil=>exact List.nil_sublist _
   |cons u us=>exact(ih us).cons₂ _
 exact this ps us
section
variable{K:Yd}{E:XK}
def mK(H:Hp)(cl:List ?GG)(vals:List V):Prop:=cl.length=vals.length/\∀(i:Nat) x c v,cl[i]?=Ya (x,c)->vals[i]?=Ya v->apG H c v
theorem mK.frz(l:mK H cl vals):∀c∈cl.map (·.2),∃o φ,H c=Ya (.frz o (.ext φ)):=λc hc=>by
 obtain⟨p,hp,rfl⟩:=YD.mp hc;obtain⟨i,hi⟩:=lP hp;have il:=(Ys.mp hi).1;have iv:i<vals.length:=by have:=l.1;omega
 obtain⟨o,e⟩:=l.2 i p.1 p.2 vals[i] hi (Yv iv);exact⟨o,_,e⟩
theorem mK.cell(l:mK H cl vals)(ok:xP P w H h){v:V}(e1:cl[i]?=Ya (x,c))(e2:vals[i]?=Ya v):∃u,RelV v u/\h.IsCell c (Ya u):=by
 obtain⟨o,e⟩:=l.2 i x c v e1 e2;exact(show h.get? c=Ya o/\((∃u,RelV v u/\h.IsCell c (Ya u))/\_)from ok c _ e).2.1
theorem abY(S:ScM N ps (cl.map (·.1)) scope)(hd:A.handled=Yb)(e0:Wl P w K mg base A outer s H)(hl:vs.length=ps.length)(r:Vals vs us)(nd2:(cl.map (·.2)).Nodup)(ln:mK H cl vals){h₁:YT}{tk:Nat}
  (hns:h₁.Ns s.heap.objs.size (λx=>(ps.zip us).reverse.lookup x)) (hk:∀b o,s.heap.get? b=Ya o->h₁.get? b=Ya o):
  bH (cxM CX P w K mg base N qual scope f cd cl A outer s H E) [] (pJ N (vs++vals)) (Oh ?CT H) {s with heap:=h₁,toks:=tk}:=by
 have fz:=ln.frz;have noA:∀b:Yc,b∉(cxM CX P w K mg base N qual scope f cd cl A outer s H E).ex:=λb z=>absurd (show b∈([]:List Yc)from z) ?N;have lkc:∀x c,cl.lookup x=Ya c->∃(i:Nat) (v:V),cl[i]?=Ya (x,c)/\vals[i]?=Ya v:=λx c h=>by
  obtain⟨i,hi⟩:=lP (c6 h);have il:=(Ys.mp hi).1;exact⟨i,vals[i]'(by have:=ln.1;omega),hi,Yv _⟩
 have none_of:∀b,H b=Yb->Oh ?CT H b=none:=λb n=>by unfold Oh;split<;>first|rfl|exact n
 have hpl:(ps++cl.map (·.1)).length<=N.length:=by have:=congrArg JO S.pre;rw[eA]at this;omega
 have ndP:(ps++cl.map (·.1)).Nodup:=by rw[<-S.pre];exact S.nd.sublist (r9 _ _)
 rw[i9]at ndP;refine⟨⟨e0.mod,S.kind,rfl,rfl,Yo _,λy z c h1 h2=>?_,λy hy=>?_,λy c z _=>?_,λ_=>hd,Around.frames_deeper e0.frames,.inr ⟨rfl,rfl⟩,λb z=>absurd z (noA b),λb o e=>⟨(e0.bs b o e).1,none_of b (e0.bs b o e).2⟩,e0.bsz,λb _ _=>noA b,λb z=>absurd z (noA b),e0.funs,λb hb=>none_of b (e0.frf b hb)⟩,
  rfl,e0.bare,Un.kept hk,⟨_,hns,λi y v h1 h2 h3=>?_⟩,λy c h=>?_,none_of _ (e0.hok.fresh ?BU),λy c h=>?_,λp hp=>absurd ?GX ?N,(adW fz e0.hok).kept hk,?_⟩
 ·obtain⟨i,_,hi,_⟩:=lkc y c h1;obtain⟨j,_,hj,_⟩:=lkc z c h2;have il:=(Ys.mp hi).1;have:i=j:=(EU (by rw[Yk];exact il) nd2).mp (by rw[Yw,Yw,hi,hj];rfl);subst this;rw[hi]at hj;cases hj;rfl
 ·have hy:scope.names.lookup y=Ya .cell\/scope.names.lookup y=Ya .free:=hy;rcases hy with hy|hy
  ·exact absurd rfl (S.cel _ (c6 hy))
  ·obtain⟨p,hp,e⟩:=YD.mp (S.all _ (c6 hy) rfl);have e:p.1=y:=e;exact⟨p.2,K7 ndP.2.1 (by rw[<-e];exact hp)⟩
 ·exact absurd z YN
 ·have hi:i<(vs++vals).length:=by
   unfold pJ at h2;by_cases hi:i<(vs++vals).length
   ·exact hi
   ·rw[fu (by simpa using hi)]at h2;rw[Au]at h2;split at h2<;>cases h2
  have ha:(vs++vals)[i]?=Ya v:=by
   unfold pJ at h2;rw[fN (by simpa using hi),Yw]at h2;cases e:(vs++vals)[i]? with
   |none=>rw[e]at h2;cases h2
   |some a=>rw[e]at h2;cases h2;rfl
  have l1:=ln.1;rw[YE]at hi;have hp:(ps++cl.map (·.1))[i]?=Ya y:=by
   rw[<-S.pre,y6 (by rw[YE,Yk];omega)];exact h1
  by_cases z:i<vs.length
  ·rw[fN z]at ha;rw[fN ?D]at hp;obtain⟨u,hu,rv⟩:=r.get ha;exact⟨u,rv,.inl ⟨S.par y (YW hp),agE ndP.1 hp hu⟩⟩
  ·rw[fu ?D]at ha;rw[fu ?D,Yw,<-hl]at hp;cases e:cl[i-vs.length]? with
   |none=>rw[e]at hp;cases hp
   |some q=>
    rw[e]at hp;obtain⟨x,c⟩:=q;have hp:x=y:=YK hp;subst hp;obtain⟨u,rv,ic⟩:=ln.cell e0.hok e ha;have xm:x∈cl.map (·.1):=YD.mpr ⟨(x,c),YW e,rfl⟩;exact⟨u,rv,.inr ⟨.inr (S.fre x xm),c,K7 ndP.2.1 (YW e),ic.keeps hk⟩⟩
 ·obtain⟨i,v,e1,e2⟩:=lkc y c h;obtain⟨u,_,ic⟩:=ln.cell e0.hok e1 e2;exact⟨_,ic.keeps hk⟩
 ·obtain⟨i,v,e1,e2⟩:=lkc y c h;exact Ww (YD.mpr ⟨(y,c),YW e1,rfl⟩)
 ·unfold pJ;show _=N.length;rw[YE,Yk,BG,YE];rw[YE,Yk]at hpl;have:=ln.1;omega
end
def Wv(base:YT)(mg:Ym->Option Ye):Prop:=∃bm ob,mg "__builtins__"=Ya (.ref bm)/\bm≠ya/\bm≠Y3/\base.get? bm=Ya ob/\ob.cls=.type "module"/\ob.dict=Ya ya/\ob.data=.plain
section
end
def ahT(cs:List Yc)(Q:VK):VK:=λv H3=>Q v (Oh cs H3)
structure Lnd(H:Hp)(cl:List ?GG)(vals:List V)(H2:Hp):Prop where
 out:∀b,b∉cl.map (·.2)->H2 b=H b
 non:∀c∈cl.map (·.2),H c=Yb
 all:mK H2 cl vals
structure ala(X:Cx)(ix:List Nat)(cl:List ?GG):Prop where
 len:ix.length=cl.length
 nd:(cl.map (·.2)).Nodup
 at_:∀(j:Nat) i x c,ix[j]?=Ya i->cl[j]?=Ya (x,c)->X.N[i]?=Ya x/\X.env.scope.names.lookup x=Ya .cell/\X.env.cells.lookup x=Ya c/\X.fn x=true
def ah3(OK:Yc->Sp->Prop)(tf:TE)(t:TA):TE:=λσ H Q=>tf σ H λx H1=>∃f sp,x=.ref f/\OK f sp/\(∃fo:Y6,?G3/\H1 f=Ya (FnO f fo))/\t σ H1 λvs H2=>sp vs H2 Q E0
section
theorem aiG(F:aG X.prog X.w X.K X.mg X.base bJ k f fd ps sp)(hr:gJ k X.A)(hb:Binds X.K fd ps [])(hx:CT bJ X E0)(O:ala X ix cl)(I:bH X pins σ H s)(r:Vals vs us)(lv:cl.length=vals.length)(hv:∀(j:Nat) i v,ix[j]?=Ya i->vals[j]?=Ya v->σ[i]?=Ya (Ya v))(h:∀H2,Lnd H cl vals H2->sp vs H2 (ahT ?CT Q) E0):
  Yn ?M X.A (call (.ref f) us) ?BT X.xe s:=by
 have cell:∀(j:Nat) x c v,cl[j]?=Ya (x,c)->vals[j]?=Ya v->(∃u,RelV v u/\s.heap.IsCell c (Ya u))/\X.env.cells.lookup x=Ya c/\X.fn x=true:=λj x c v e1 e2=>by
  have jl:=(Ys.mp e1).1;have jx:j<ix.length:=by have:=O.len;omega
  have hj:ix[j]?=Ya ix[j]:=Yv jx;obtain⟨a1,a2,a3,a4⟩:=O.at_ j _ x c hj e1;obtain⟨m,hn,hl⟩:=I.loc;obtain⟨u,ru,lo⟩:=hl _ x v a1 (hv j _ v hj e2) (.inr (.inl a2));rcases lo with⟨z,_⟩|⟨_,c2,e3,ic⟩
  ·have z:X.env.scope.names.lookup x=Ya .local:=z;rw[a2]at z;cases z
  ·rw[a3]at e3;cases e3;exact⟨⟨u,ru,ic⟩,a3,a4⟩
 have cm:∀c∈cl.map (·.2),∃(j:Nat) (x:Ym) (v:V),cl[j]?=Ya (x,c)/\vals[j]?=Ya v:=λc hc=>by
  obtain⟨p,hp,rfl⟩:=YD.mp hc;obtain⟨j,hj⟩:=lP hp;have jl:=(Ys.mp hj).1;exact⟨j,p.1,vals[j]'(by omega),hj,Yv _⟩
 have cn:∀c∈cl.map (·.2),H c=none:=λc hc=>by
  obtain⟨j,x,v,e1,e2⟩:=cm c hc;exact I.freeC x c (cell j x c v e1 e2).2.1
 have cab:∀c∈cl.map (·.2),X.s₀.heap.objs.size<=c:=λc hc=>by
  obtain⟨j,x,v,e1,e2⟩:=cm c hc;exact I.ok.cab x c (cell j x c v e1 e2).2.2 (cell j x c v e1 e2).2.1
 have cns:∀c∈cl.map (·.2),c∉frs X.stack:=λc hc hb=>by
  rcases Yz.mp (I.stkSub c hb)with z|z
  ·obtain⟨j,x,v,e1,e2⟩:=cm c hc;exact I.cne x c (cell j x c v e1 e2).2.1 z
  ·obtain⟨_,o,ho,_⟩:=I.ok.funs.mem z;exact absurd (YM (Yu ho) (cab c hc)) (Y2 _)
 have ex:∃H2:Hp,(∀b,b∉cl.map (·.2)->H2 b=H b)/\∀(j:Nat) x c v,cl[j]?=Ya (x,c)->vals[j]?=Ya v->∃o,s.heap.get? c=Ya o/\H2 c=Ya (.frz o (alT c v)):=by
  refine⟨λb=>match(cl.zip vals).find? (λp=>decide (p.1.2=b))with|some p=>(s.heap.get? b).map λo=>.frz o (alT b p.2)|none=>H b,λb hb=>?_,λj x c v e1 e2=>?_⟩
  ·have:(cl.zip vals).find? (λp=>decide (p.1.2=b))=none:=DZ.mpr λp hp z=>hb (YD.mpr ⟨p.1,(qv (show(p.1,p.2)∈cl.zip vals from hp)).1,of_decide_eq_true z⟩);dsimp only;rw[this]
  ·obtain⟨⟨u,ru,o,eo,d⟩,_⟩:=cell j x c v e1 e2;refine⟨o,eo,?_⟩;have mz:((x,c),v)∈cl.zip vals:=YW (i:=j) (kX.mpr ⟨e1,e2⟩);cases hf:(cl.zip vals).find? (λp=>decide (p.1.2=c))with
   |none=>exact absurd (decide_eq_true rfl) (DZ.mp hf _ mz)
   |some p=>
    have pc:p.1.2=c:=by have:=List.find?_some hf;simpa using this
    obtain⟨j2,hj2⟩:=lP (List.mem_of_find?_eq_some hf);obtain⟨f1,f2⟩:=kX.mp hj2;have jl:=(Ys.mp e1).1;have:j=j2:=(EU (by rw[Yk];exact jl) O.nd).mp (by rw[Yw,Yw,e1,f1,<-pc];rfl);subst this;rw[e2]at f2;have pv:p.2=v:=(YK f2).symm;dsimp only;rw[hf];dsimp only;rw[eo,pv];rfl
 obtain⟨H2,out,inn⟩:=ex;have ln:mK H2 cl vals:=⟨lv,λj x c v e1 e2=>let ⟨o,_,e⟩:=inn j x c v e1 e2;⟨o,e⟩⟩;have ld:Lnd H cl vals H2:=⟨out,cn,ln⟩;have es:∀b u,H b=Ya u->b∉cl.map (·.2)/\H2 b=Ya u:=λb u e=>by
  have nb:b∉cl.map (·.2):=λz=>by rw[cn b z]at e;cases e
  exact⟨nb,by rw[out b nb];exact e⟩
 have ok2:xP X.prog X.w H2 s.heap:=λa o e=>by
  by_cases z:a∈cl.map (·.2)
  ·obtain⟨j,x,v,e1,e2⟩:=cm a z;obtain⟨ob,eo,e3⟩:=inn j x a v e1 e2;rw[e3]at e;cases e;refine⟨eo,(cell j x a v e1 e2).1,⟨ob,eo⟩,?_⟩;rintro h1 h2 ⟨u,ru,o,eo,d⟩ k;exact⟨u,ru,o,k _ eo,d⟩
  ·rw[out a z]at e;exact(I.hok a o e).stay (λ_ _ _ q=>q) (λb q=>(es b _ q).2) λb xs q=>(es b _ q).2
 have e0:Wl X.prog X.w X.K X.mg X.base X.A X.stack s H2:=⟨I.ok.frames,I.ok.mod,λb o e=>⟨(I.bs b o e).1,by
   rw[out b λz=>absurd (YM (Yu e) (bP I.ok.bsz (cab b z))) (Y2 _)];exact(I.bs b o e).2⟩,bP I.ok.bsz I.sz,I.stack,λb hb=>by rw[out b λz=>cns b z hb];exact I.stkFree b hb,ok2,I.bare⟩
 have hs:=h H2 ld;have hl:us.length=ps.length:=by rw[<-r.length];exact F.len _ _ _ _ hs
 refine Ck (codeAny_mono (F.run X.A X.stack s H2 ⟨us,[]⟩ us vs _ E0 hr e0 (by have:=hb s us I.kIn (by rw[dA];exact hl);rw[dA]at this;exact this) r hs) λr' s' hq=>?_);cases r' with
 |error e=>exact hx pins σ H s e s' I (by exact hq.elim)
 |ok fl=>
  cases fl with
  |next=>exact fh hq
  |brk=>exact fh hq
  |cont=>exact fh hq
  |ret u=>
   obtain⟨v,H3,os,bare,un,hok3,rv,q⟩:=hq;have fz:∀c∈cl.map (·.2),∃o φ,s.heap.get? c=Ya o/\H3 c=Ya (.frz o (.ext φ)):=λc hc=>by
    obtain⟨j,x,v,e1,e2⟩:=cm c hc;obtain⟨o,eo,e3⟩:=inn j x c v e1 e2;exact⟨o,_,eo,un.frzs c o _ e3⟩
   have fz':∀c∈cl.map (·.2),∃o φ,H3 c=Ya (.frz o (.ext φ)):=λc hc=>let ⟨o,φ,_,e⟩:=fz c hc;⟨o,φ,e⟩;have un2:Un (frs X.stack) [] H (Oh ?CT H3) s.heap s'.heap:=by
    refine⟨λb o e n hb hx=>?_,λb o e n hb hx=>?_,λb o e n hx=>?_,un.there,λb xs e=>?_,λb o u e=>?_,λb qs e=>?_⟩
    ·by_cases z:b∈cl.map (·.2)
     ·obtain⟨o',φ,eo,e3⟩:=fz b z;rw[e]at eo;cases eo;exact(show s'.heap.get? b=Ya o/\_ from hok3 b _ e3).1
     ·exact un.keep b o e (by rw[out b z];exact n) hb hx
    ·exact un.slot b o e (by rw[out b λz=>cns b z hb];exact n) hb hx
    ·by_cases z:b∈cl.map (·.2)
     ·exact Ww z
     ·rw[jO z];exact un.free b o e (by rw[out b z];exact n) hx
    ·obtain⟨nb,e2⟩:=es b _ e;rw[jO nb];exact un.tups b xs e2
    ·obtain⟨nb,e2⟩:=es b _ e;rw[jO nb];exact un.frzs b o u e2
    ·obtain⟨nb,e2⟩:=es b _ e;rw[jO nb];exact un.tbls b qs e2
   obtain⟨hh,g,d,t,os'⟩:=s';obtain rfl:os'=s.os:=os;exact⟨v,_,I.call (h':=hh) (g':=g) (d':=d) (t':=t) (ch:=[]) un2 (adW fz' hok3) bare (λb z=>absurd z ?N),rv,q⟩
theorem ahb{p:iL}(hOK:∀f sp,OK f sp->(∃fd ps,aG X.prog X.w X.K X.mg X.base bJ k f fd ps sp/\Binds X.K fd ps [])/\∀vs H Q E,sp vs H Q E->∃fo:Y6,?G3/\H f=Ya (FnO f fo))(hr:gJ k X.A)(hp:CT bJ X E0)(hf:PE X (.Name x p) tf)(ha:PA X (e::es) t)(he:YR (e::es) X.env=?A8::YR es X.env:=by rfl)(hpl:(dk pos ?CY).any (·.1)=false:=by rfl):
  PE X (.Call (.Name x p) (e::es) [] pos) (ah3 OK tf t):=by
 intro pins s σ H Q I h;refine ff (eZ (hf pins s σ H _ I h) λu s1 zz=>?_);obtain⟨v,H1,I1,r1,q1⟩:=zz;obtain⟨f,sp,rfl,ok,⟨fo1,⟨fd1,d1⟩,e1⟩,q⟩:=q1;cases r1;obtain⟨⟨fd,ps,F,hb⟩,hH⟩:=hOK f sp ok;have at1:∀{H1:Hp} {s1:Yl} {fo:Y6} {fd:Yt},xP X.prog X.w H1 s1.heap->H1 f=Ya (FnO f fo)->fo.data=.func fd->PySem.W.FnAt f s1.heap:=fun{H1 s1 fo fd} ok e d=>by
  have:=(show s1.heap.get? f=Ya fo/\_ from ok f _ e).1;obtain⟨c,di,dat,sl⟩:=fo;have d:dat=.func fd:=d;subst d;exact⟨c,di,fd,sl,this⟩
 refine PySem.W.callWith_F (first:=[]) (at1 I1.hok e1 d1) (eZ (ha pos pins s1 σ H1 _ I1 q) λus s2 zz=>?_) he hpl;obtain⟨vs,H2,I2,r,q2⟩:=zz;obtain⟨fo2,⟨fd2,d2⟩,e2⟩:=hH _ _ _ _ q2;exact⟨at1 I2.hok e2 d2,Eu F hr hb .nil hp I2 r (by rw[dA];exact q2)⟩
theorem ajv(h:tf σ H λx H1=>∃f sp,x=.ref f/\OK f sp/\(∃fo:Y6,?G3/\H1 f=Ya (FnO f fo))/\t σ H1 λvs H2=>sp vs H2 Q E0):ah3 OK tf t σ H Q:=h
end
def ahJ(ts:List Yc)(H:Hp):Prop:=(∀b,H b=Yb\/(∃o xs,H b=Ya (.frz o (.lst xs)))\/(b∈ts/\H b=Ya (.tbl #[])))/\∀t∈ts,H t=Ya (.tbl #[])
theorem aei{K:Yd}{mb:Ym->Option Ye}{fa:Yc}{s₁:Yl}{vs:List Ye}{ns:List Int}{ts:List Yc}(KX:K.In s₁.heap)(hns:s₁.heap.Ns Y3 mg)(hb:s₁.heap.Ns ya mb)(hbb:∀x:Ym,x≠"__name__"->mb x=i0 x)(hlim:s₁.heap.NoLimit)(hg:s₁.gens=#[])(hB:Wv s₁.heap mg)(ha:s₁.heap.get? a=Ya {cls:=.type "list",data:=.seq vs.toArray})(hi:aT vs ns)(hl:ns.length<=YB)(hr:gJ k yY)(hts:∀t∈ts,K.lookup t=Yb/\s₁.heap.get? t=Ya (oQ #[])/\isCodeTable s₁.heap t)(F:∀base:YT,K.In base->base.Ns Y3 mg->Wv base mg->aG P w K mg base bJ k fa fd [x] sp)(hbind:∀(s:Yl) (u:Ye),BF s fd ⟨[u],[]⟩ [(x,u)])(hsp:∀H:Hp,ahJ ts H->bK K H a ?A1->sp ?BV H (λv _=>v=.bl true) λ_ _ _=>False)(hCX:∀H e s',bJ [] H s₁ (λ_ _ _=>False) e s'->False):
  c5 (Yr P w) yY (.call (.ref fa) ⟨?BV,[]⟩) ?B1 s₁:=by
 have rv:=Ga hi;have lenV:=hi.length;have nta:∀t∈ts,t≠a:=λt ht z=>by
  have:=(hts t ht).2.1;rw[z,ha]at this;cases this
 have core:∀H:Hp,ahJ ts H->bK K H a ?A1->xP P w H s₁.heap->(∀b,H b≠Yb->b=a\/b∈ts)->(H a≠Yb->K.lookup a=Yb)->
   c5 (Yr P w) yY (.call (.ref fa) ⟨?BV,[]⟩) ?B1 s₁:=by
  intro H hO hS hok hA hK;have free:∀{b:Yc} {o:Y6},s₁.heap.get? b=Ya o->(∀it n,o.data≠.seq it n)->(∀fs,o.data≠.fields fs)->H b=none:=fun{b o} e n1 n2=>by
   cases q:H b with
   |none=>rfl
   |some u=>
    rcases hA b (by rw[q];simp)with z|z
    ·rw[z,ha]at e;cases e;exact absurd rfl (n1 _ _)
    ·rw[(hts b z).2.1]at e;cases e;exact absurd rfl (n2 _)
  have nsK:∀{b:Yc} {m:Ym->Option Ye},s₁.heap.Ns b m->(WK s₁.heap H).Ns b m:=fun{b m} ⟨o,es,ep,e,d,r⟩=>⟨o,es,ep,Py e (free e (λ_ _ z=>by rw[d]at z;cases z) λ_ z=>by rw[d]at z;cases z),d,r⟩;have hKb:K.In (WK s₁.heap H):=λb o e=>Py (KX b o e) (by
   cases q:H b with
   |none=>rfl
   |some u=>
    rcases hA b (by rw[q];simp)with z|z
    ·subst z;rw[hK (by rw[q];simp)]at e;cases e
    ·rw[(hts b z).1]at e;cases e)
  have hM:Mod K mg (WK s₁.heap H):=⟨hKb,nsK hns,⟨mb,nsK hb,hbb⟩,let ⟨mc,h1,h2⟩:=hlim;⟨mc,nsK h1,h2⟩⟩;have hB':Wv (WK s₁.heap H) mg:=let ⟨bm,ob,b1,b2,b3,b4,b5,b6,b7⟩:=hB;⟨bm,ob,b1,b2,b3,Py b4 (free b4 (λ_ _ z=>by rw[b7]at z;cases z) λ_ z=>by rw[b7]at z;cases z),b5,b6,b7⟩;have e0:Wl P w K mg (WK s₁.heap H) yY [] s₁ H:=⟨rfl,hM,λb o e=>ajN e,kg (afh _ _),trivial,λb hb=>absurd (show b∈([]:List Yc)from hb) ?N,hok,.of_eq hg⟩;refine codeAny_mono ((F _ hKb (nsK hns) hB').run yY [] s₁ H ⟨?BV,[]⟩ ?BV ?BV _ _ hr e0 (hbind s₁ (.ref a)) (.cons rfl .nil) (hsp H hO hS)) λr s' h=>?_;cases r with
  |error e=>exact(hCX H e s' h).elim
  |ok fl=>
   cases fl with
   |next=>exact fh h
   |brk=>exact fh h
   |cont=>exact fh h
   |ret u=>
    obtain⟨v,H',os,bare,un,hok',r',q⟩:=h;have q':v=.bl true:=q;subst q';obtain rfl:u=ua true:=r';have grown:∀t∈ts,∃ps,s'.heap.get? t=Ya (oQ ps):=λt ht=>by
     obtain⟨more,e⟩:=un.tbls t #[] (hO.2 t ht);exact⟨_,(show s'.heap.get? t=Ya {cls:=.none,data:=.fields (#[]++more)}from hok' t _ e)⟩
    have keep:∀b o,b∉ts->s₁.heap.get? b=Ya o->s'.heap.get? b=Ya o:=λb o nb e=>by
     rcases hO.1 b with z|⟨ob,xs,z⟩|⟨z,_⟩
     ·exact un.keep b o e z (by intro z;exact absurd (show b∈([]:List Yc)from z) ?N) ?N
     ·obtain⟨e1,_⟩:=hok b _ z;obtain⟨e2,_⟩:=hok' b _ (un.frzs b ob _ z);rw[e]at e1;cases e1;exact e2
     ·exact absurd z nb
    refine⟨rfl,⟨λb o e=>?_,λb o e=>?_⟩,os,bare⟩
    ·by_cases hb:b∈ts
     ·obtain⟨ps,hP⟩:=grown b hb;obtain⟨_,e2,ct⟩:=hts b hb;rw[e]at e2;cases e2;exact .inr (.inl ⟨ct,rfl,#[],ps,rfl,by rw[Array.empty_append];exact hP⟩)
     ·exact .inl (keep b o hb e)
    ·by_cases hb:b∈ts
     ·obtain⟨ps,hP⟩:=grown b hb;exact⟨_,hP⟩
     ·exact⟨o,keep b o hb e⟩
 cases hk:K.lookup a with
 |some o=>
  have e:=KX a o hk;rw[ha]at e;cases e;refine core (λb=>if b∈ts then Ya (.tbl #[])else Yb) ⟨λb=>?_,λt ht=>if_pos ht⟩ (.inr ⟨_,vs.toArray,_,hk,rfl,rfl,rfl,by rw[Yx,lenV];exact hl,by simpa using rv⟩) (λb u z=>?_) (λb z=>?_) λz=>?_
  ·by_cases hb:b∈ts
   ·exact .inr (.inr ⟨hb,if_pos hb⟩)
   ·exact .inl (if_neg hb)
  ·by_cases hb:b∈ts
   ·have z':=(if_pos hb).symm.trans z;cases z';exact(hts b hb).2.1
   ·have z':=(if_neg hb).symm.trans z;cases z'
  ·by_cases hb:b∈ts
   ·exact .inr hb
   ·exact absurd (if_neg hb) z
  ·exact absurd (if_neg λq=>nta a q rfl) z
 |none=>
  refine core (λb=>if b=a then Ya (.frz {cls:=.type "list",data:=.seq vs.toArray} (.lst ?A1))else if b∈ts then Ya (.tbl #[])else Yb) ⟨λb=>?_,λt ht=>?_⟩ (.inl (.inr ⟨{cls:=.type "list",data:=.seq vs.toArray},if_pos rfl⟩)) (λb u z=>?_) (λb z=>?_) λ_=>hk
  ·by_cases hb:b=a
   ·exact .inr (.inl ⟨_,_,if_pos hb⟩)
   ·by_cases ht:b∈ts
    ·exact .inr (.inr ⟨ht,by dsimp only;rw[if_neg hb,if_pos ht]⟩)
    ·exact .inl (by dsimp only;rw[if_neg hb,if_neg ht])
  ·dsimp only;rw[if_neg (nta t ht),if_pos ht]
  ·dsimp only at z;by_cases hb:b=a
   ·rw[if_pos hb]at z;cases z;subst hb;exact⟨ha,by rw[Yk];exact hl,vs,_,rv,ha⟩
   ·rw[if_neg hb]at z;by_cases ht:b∈ts
    ·rw[if_pos ht]at z;cases z;exact(hts b ht).2.1
    ·rw[if_neg ht]at z;cases z
  ·by_cases hb:b=a
   ·exact .inl hb
   ·rw[if_neg hb]at z;by_cases ht:b∈ts
    ·exact .inr ht
    ·rw[if_neg ht]at z;exact absurd rfl z
theorem agu{l:GL}{q:YI}{loose:List Ym}{XP:(Ym->Option Ye)->YT->Prop}{YP:YV->YT->Prop}{d:DefRec}{K:Params->Yd}{sp:YV->Sp}{tabs:List (Yc×Yc)}(hn:l.most=Ya n)(hn2:n<=YB)(hdf:d.params.defaults=[])(hr:gJ k yY)(hY:∀(w:YV) (h:YT),YP w h->(K w.params).In h/\∀t∈tabs.map (·.2),h.get? t=Ya (oQ #[]))(hK:∀(w:YV),∀q∈tabs,FG (K w.params) q.1 q.2=true/\(K w.params).lookup q.2=Yb)(F:∀(w:YV) (mg:Ym->Option Ye) (fa:Yc) (h:YT),(K w.params).In h->h.Ns Y3 mg->mg d.name=Ya (.ref fa)->
   ∃fd:Yt,(∀(s:Yl) (u:Ye),BF s fd ⟨[u],[]⟩ [(x,u)])/\
    ∀base:YT,(K w.params).In base->base.Ns Y3 mg->Wv base mg->aG l.prog w (K w.params) mg base bJ k fa fd [x] (sp w)) (hsp:∀(w:YV) (H:Hp) (a:Yc) (ns:List Int),ns.length<=n->ahJ (tabs.map (·.2)) H->bK (K w.params) H a ?A1->sp w ?BV H (λv _=>v=.bl true) λ_ _ _=>False) (hCX:∀(H:Hp) (s:Yl) (e:Ye) (s':Yl),bJ [] H s (λ_ _ _=>False) e s'->False):
  IE q loose XP YP l.row.toRowW d [] (λf vs=>PySem.call f vs):=by
 refine Att.attach_call hn hdf λw s₀ s₁ mg mb fa o pm cd doc a vs ns G Y ho hd hcd hmg hobj hints hlen hg=>?_;obtain⟨KX,hT⟩:=hY w _ Y;obtain⟨fd,hb,hF⟩:=F w mg fa _ KX G.T.g hmg;have hB:Wv s₁.heap mg:=by
  obtain⟨bm,ob,b1,b2,b3,b4,b5,b6⟩:=G.T.bmain;refine⟨bm,ob,b1,b2,λz=>?_,b3,b4,b5,b6⟩;obtain⟨o,es,ep,e,hd,_⟩:=G.T.g;rw[z,e]at b3;cases b3;rw[hd]at b6;cases b6
 refine aei (ts:=tabs.map (·.2)) KX G.T.g G.T.b G.T.builtins G.T.nolimit hg hB hobj hints (bP hlen hn2) hr (λt ht=>?_) hF hb (λH hO hS=>hsp w H a ns hlen hO hS) λH e s'=>hCX H s₁ e s';obtain⟨q,hq,rfl⟩:=YD.mp ht;obtain⟨h1,h2⟩:=hK w q hq;exact⟨h2,hT _ ht,((PySem.W.codeHd_of_K KX h1).tab (hT _ ht)).isCodeTable⟩
structure agC(K:Yd)(x qual:Ym)(st:YJ)(f:Yc)(fd:Yt)(c:Yc):Prop where
 ex:∃(oc:Ye) (od:Option Yc) (kV doc pm:Ye) (an:Option Yc) (ct:Ye) (osl:Array ?EV),
  fd=d6 x qual (jP st) (gK st) (az st) .none kV doc pm an (.ref c) ct/\K.lookup f=Ya ⟨oc,od,.func fd,osl⟩/\mh K (.ref c) qual=true
noncomputable def aoX(s:YJ)(j:Nat):YJ:=(gK s).getD j (.Pass ⟨0,0,0,0⟩)
section
variable{K:Yd}
theorem agC.ok{st:YJ}(F:agC K x qual st f fd c)(S:aF N ps (az st))(len:∀vs H Q E,sp vs H Q E->vs.length=ps.length)(hbody:∀(A:Y7) (outer:List m4) (s:Yl) (H:Hp) (vs:List V) (Q:VK) (E:XK),gJ k (A.deeper (nE qual (az st) s.heap.objs.size f (.ref c)))->sp vs H Q E->
   ∃t,PSs (Vo bJ P w K mg base N qual (az st) f (.ref c) A outer s H E).nox (gK st) t/\t {nx:=λ_ H'=>Q .non H',rt:=Q} (pJ N vs) H):aG P w K mg base bJ (k+ 1) f fd ps sp:=by
 obtain⟨oc,od,kV,doc,pm,an,ct,osl,rfl,lk,hcd⟩:=F.ex;refine afQ lk hcd S len λA outer s H vs Q E hr hsp=>?_;obtain⟨t,h,q⟩:=hbody A outer s H vs Q E hr hsp;exact⟨t,h.nox,q⟩
end
theorem adE{u:HO}(hc:∀c∈cs,∃o φ,H c=Ya (.frz o (.ext φ)))(e:H b=Ya u)(n:∀o φ,u≠.frz o (.ext φ)):Oh cs H b=Ya u:=by
 rw[jO λz=>by obtain⟨o,φ,q⟩:=hc b z;rw[e]at q;cases q;exact n _ _ rfl];exact e
theorem afT(s:aW (Oh cs H) H'):aW H (rln cs H H'):=λb o e=>by
 by_cases z:b∈cs
 ·rw[acv z];exact e
 ·rw[tV z];exact s b o (by rw[jO z];exact e)
theorem Lnd.same{H2:Hp}(l:Lnd H cl vals H2):aW H H2:=λb o e=>by
 rw[l.out b λz=>by rw[l.non b z]at e;cases e];exact e
theorem mK.up(l:mK H cl vals)(s:aW H H'):mK H' cl vals:=⟨l.1,λi x c v e1 e2=>let ⟨o,e⟩:=l.2 i x c v e1 e2;⟨o,s _ _ e⟩⟩
def amk(Pt:Yc)(pos:iL)(qual:Ym)(H:Hp):Prop:=H Pt=Ya (.tbl #[])\/∃c',H Pt=Ya (.tbl #[rawInt pos.line,rawInt pos.col,.ref c'])/\H c'=Ya (CdO c' qual)
section
end
section
variable{K:Yd}
end
section
theorem abV(hc:X.calm=true):jQ X (.type "list") (λxs H Q=>∃(d:Yc) (m:List ?BE),xs=[.ref d]/\Rd H d (.dK (dG m))/\m.length<=1000/\∀(l:Yc),H l=Yb->Q (.ref l) (upd H l (.lst ((m.map (·.1)).map V.int)))):=by
 intro pins s σ H xs us Q I r h;obtain⟨d,m,rfl,hd,hlen,q⟩:=h;obtain⟨u,rfl,rx⟩:=lQ r;cases rx;obtain⟨z,hS,vs,rel,dd⟩:=Di I.hok hd;obtain⟨ep,hat⟩:=dd.dictAt;have hl:vs.length=m.length:=by rw[<-rel.length,Lz]
 refine tF (A:=X.A) ?CS ?BK hat ?EN λh' tk acc c hk he hacc=>?_;have hi:aT acc.toList ?IR:=Jb (P:=X.prog) (w:=X.w) rel (by rw[aE];exact hacc.1) λj v e=>hacc.2 j v (by rw[<-Y4];exact e);exact⟨.ref s.heap.objs.size,_,I.lay_ints (tk:=tk) (e:=c) hk he hi (by rw[Yk];exact Y5 (bx ?D)),rfl,q _ ?AL⟩
end
section
variable{me hd ba ye vo re ag:V}
theorem Qi:(Gu me hd ba ye vo re ag).lookup ("has_enough":Ym)=none:=by kernel_rfl
theorem abn:(Gu me hd ba ye vo re ag).lookup ("made_by":Ym)=none:=by kernel_rfl
theorem aac:(Gu me hd ba ye vo re ag).lookup ("propose":Ym)=none:=by kernel_rfl
end
def mtL(ms:List (Yc×Sp))(m:Ym)(ix:List Nat)(cl:List ?GG)(t:TA)(σ:St)(x:V)(H:Hp)(Q:VK):Prop:=
 ∃cs∈ms,∃a dx fs,x=.ref a/\H a=Ya (.ins cs.1 dx fs)/\fs.lookup m=Yb/\t σ H λvs H2=>∃vals:List V,cl.length=vals.length/\(∀(j:Nat) i v,ix[j]?=Ya i->vals[j]?=Ya v->σ[i]?=Ya (Ya v))/\
  ∀H3,Lnd H2 cl vals H3->cs.2 (x::vs) H3 (ahT ?CT Q) E0
def ahv(ms:List (Yc×Sp))(m:Ym)(ix:List Nat)(cl:List ?GG)(ta:TE)(t:TA):TE:=λσ H Q=>ta σ H λx H1=>mtL ms m ix cl t σ x H1 Q
section
variable{apos:iL}{o:YZ}
theorem ago{pl:w4 Bool}(M:cj X.prog X.w X.K X.mg X.base k m ms)(he:PE X o ta)(hr:gJ k X.A)(O:ala X ix cl)(ha:PA X (e::es) t)(hst:YR (e::es) X.env=?A8::YR es X.env:=by rfl)(hpl:(dk pos ?CY).any (·.1)=false:=by rfl)(ht:ay (.Call (.Attribute o m apos) (e::es) [] pos) X.env=(do
   let ov<-ay o X.env
   rl apos.atName
   let (f,first)<-ny [ov] (qV ov m pl)
   vx pos f first (dk pos ?IX) ?DQ):=by rfl):
  PE X (.Call (.Attribute o m apos) (e::es) [] pos) (ahv ms m ix cl ta t):=by
 intro pins s σ H Q I h;refine iO (pl:=pl) (eZ ?AY λu s1 zz=>?_) ht;obtain⟨x,H1,I1,rx,cs,hcs,a,dx,fs,ex,ea,l,q⟩:=zz;subst ex;obtain rfl:u=Y0 a:=rx;obtain⟨f,fd,ps,c,hm,F,hb⟩:=M cs hcs;refine uN I1 ea c hm l ?_;refine nB (first:=?BV) (h₀:=X.base) I.ok.mod.kin hm.kp (eZ (ha pos pins s1 σ H1 _ I1 q) λus s2 ⟨vs,H2,I2,r,vals,lv,hv,q2⟩=>⟨I2.kIn,?_⟩) hst hpl;exact aiG (us:=.ref a::us) (vs:=.ref a::vs) F hr hb fc O I2 (.cons rfl r) lv hv q2
end
section
theorem aiB(h:ta σ H λx H1=>mtL ms m ix cl t σ x H1 Q):ahv ms m ix cl ta t σ H Q:=h
theorem aoL{dx:Yc}{fs:List ?GQ}(e:H a=Ya (.ins C dx fs))(l:fs.lookup m=Yb)(h:t σ H λvs H2=>∃vals:List V,cl.length=vals.length/\(∀(j:Nat) i v,ix[j]?=Ya i->vals[j]?=Ya v->σ[i]?=Ya (Ya v))/\
  ∀H3,Lnd H2 cl vals H3->sp (.ref a::vs) H3 (ahT ?CT Q) E0):mtL ((C,sp)::ms) m ix cl t σ (.ref a) H Q:=⟨_,Yf,a,dx,fs,rfl,e,l,h⟩
end
section
end
def spF(f c':Yc)(fo:Y6)(qual:Ym)(cl:List ?GG)(vals:List V)(sp:Sp):Sp:=λvs H Q E=>H f=Ya (FnO f fo)/\H c'=Ya (CdO c' qual)/\mK H cl vals/\sp vs (Oh ?CT H) (λv H'=>(∀c∈cl.map (·.2),H' c=Yb)->Q v (rln ?CT H H')) E
section
variable{K:Yd}{E:XK}
end
section
variable{K:Yd}
end
section
variable{K:Yd}
theorem O3{t:TGs}(hK:X.K=K)(hc:X.calm=true)(h:PGs X es t)(hn:(ir es X.env).length=n:=by rfl)(hst:(ir es X.env).findIdx? (·.1)=none:=by rfl):PG X (.Tuple es k pos) (alr K n t):=by subst hK;exact amU hc h hn hst
theorem Wg{t:TGs}{R:St->Hp->Prop}(h1:bK K H a xs)(h2:xs.length=n)(h:t xs σ H R):alr K n t (.ref a) σ H R:=⟨a,xs,rfl,h1,h2,h⟩
end
section
variable{K:Yd}{E:XK}
end
section
variable{B h2:YT}{ea:Yc}{a0:Ye}
end
section
end
section
variable{M:Model}
end
section
variable{pins':List ?AQ}{EE:St->XK}
end
end L2
namespace L2
open PySem PySem.Spec PyProof.Rows PySem.W
section
variable{prog:YI}{w:YV}{A:Y7}{E:Ye->Yl->Prop}{K:Yd}{x C:Yc}
end
end L2
namespace L2
open PySem PySem.Spec PyProof.Rows
variable{X:Cx}
section
variable{P:YI}{w:YV}{K:Yd}{mg:Ym->Option Ye}{base:YT}
end
section
variable{k:Nat}{f:Yc}{fd:Yt}{ps:List Ym}{sp:Sp}{x:Ym}{e:YZ}{es:List YZ}{t:TA}{p pos:iL}
end
section
variable{D:Iu}{σ:St}{H:Hp}{Q:VK}
end
section
variable{tg:YZ}
end
end L2
namespace L2
open PySem PySem.Spec PyProof.Rows PySem.W
variable{prog:YI}{w:YV}{A:Y7}{E:Ye->Yl->Prop}{x C f:Yc}{name:Ym}{v:Ye}{s:Yl}{X:Cx}{H:Hp}{B newId initId:String}{bmB:List Ye}
section
variable{K:Yd}
end
section
variable{K:Yd}{vs:Array Ye}{sl:Array ?EV}
end
section
variable{pins:List ?AQ}{σ:St}{e dx:Yc}{f:Ym}{y:V}{u:Ye}
end
section
variable{K:Yd}{fI:Yc}{h:YT}{g:Array GenState}{d:IG}{t:Nat}{os:OsState}
end
section
variable{k:Nat}{fd:Yt}{ps:List Ym}{sp:Sp}
end
section
variable{env:m4}
end
section
variable{P:YI}{K:Yd}{mg:Ym->Option Ye}{base:YT}{N:List Ym}{qual:Ym}{scope:jS}{cd:Ye}{outer:List m4}{E:XK}
end
end L2
namespace L2
open PySem PySem.Spec PyProof.Rows
variable{f C:Yc}{fd:Yt}{ps:List Ym}{k:Nat}{sp:Sp}{m:Ym}{ta:TE}{t:TA}
structure Mi(K:Yd)(x qual:Ym)(st:YJ)(f:Yc)(fd:Yt)(ds:List Ye):Prop where
 ex:∃(oc:Ye) (od:Option Yc) (kV doc pm:Ye) (an:Option Yc) (cdv ct:Ye) (osl:Array ?EV) (T:Yc) (tc:Ye) (td:Option Yc) (tn:Nat) (tsl:Array ?EV),
  fd=d6 x qual (jP st) (gK st) (az st) (.ref T) kV doc pm an cdv ct/\K.lookup f=Ya ⟨oc,od,.func fd,osl⟩/\mh K cdv qual=true/\K.lookup T=Ya ⟨tc,td,.seq ds.toArray tn,tsl⟩
section
variable{P:YI}{w:YV}{K:Yd}{mg:Ym->Option Ye}{base:YT}{x qual:Ym}{st:YJ}{ds ds':List Ye}
theorem Mi.ok{N:List Ym}(F:Mi K x qual st f fd ds)(S:aF N ps (az st))(len:∀vs H Q E,sp vs H Q E->vs.length=ps.length)(hbody:∀(cdv:Ye) (A:Y7) (outer:List m4) (s:Yl) (H:Hp) (vs:List V) (Q:VK) (E:XK),gJ k (A.deeper ?BR)->sp vs H Q E->
   ∃t,PSs (Vo bJ P w K mg base N qual (az st) f cdv A outer s H E).nox (gK st) t/\t {nx:=λ_ H'=>Q .non H',rt:=Q} (pJ N vs) H):aG P w K mg base bJ (k+ 1) f fd ps sp:=by
 obtain⟨oc,od,kV,doc,pm,an,cdv,ct,osl,T,tc,td,tn,tsl,rfl,lk,hcd,_⟩:=F.ex;refine afQ lk hcd S len λA outer s H vs Q E hr hsp=>?_;obtain⟨t,h,q⟩:=hbody cdv A outer s H vs Q E hr hsp;exact⟨t,h.nox,q⟩
theorem Mi.binds(F:Mi K x qual st f fd ds)(h:∀(kV doc pm:Ye) (an:Option Yc) (cdv ct:Ye) (T:Yc) (us:List Ye),(us++ds').length=ps.length->∃k,Cf ?DA ⟨us,[]⟩=AK (.ref T) >>= k/\k (Ya ds.toArray)=pure (ps.zip (us++ds'))):Binds K fd ps ds':=by
 obtain⟨oc,od,kV,doc,pm,an,cdv,ct,osl,T,tc,td,tn,tsl,rfl,lk,hcd,lT⟩:=F.ex;intro s us X hl;obtain⟨k,h1,h2⟩:=h kV doc pm an cdv ct T us hl;exact .of_defaults rfl (X _ _ lT) rfl h1 h2
theorem O9{oc:Ye}{od an:Option Yc}{osl:Array ?EV}{kV doc pm cdv ct:Ye}{T:Yc}{tc:Ye}{td:Option Yc}{tn:Nat}{tsl:Array ?EV}(l:K.lookup f=Ya ⟨oc,od,.func ?DA,osl⟩)
  (c:mh K cdv qual=true) (t:K.lookup T=Ya ⟨tc,td,.seq ds.toArray tn,tsl⟩):Mi K x qual st f ?DA ds:=⟨⟨oc,od,kV,doc,pm,an,cdv,ct,osl,T,tc,td,tn,tsl,rfl,l,c,t⟩⟩
end
section
variable{X:Cx}{e o:YZ}{es:List YZ}{p pos apos:iL}
end
section
variable{D:Iu}{σ:St}{H:Hp}{Q:VK}
theorem V3{dvs:List V}{E:XK}(h:ta σ H λx H1=>∃a dx fs,x=.ref a/\H1 a=Ya (.ins C dx fs)/\fs.lookup m=Yb/\t σ H1 λvs H2=>sp (x::(vs++dvs)) H2 Q E):NZ C m sp dvs E ta t σ H Q:=h
theorem aoD{r:List V->List V->Hp->VK->Prop}{tk:TA}(h:t σ H λvs H1=>tk σ H1 λzs H2=>r vs zs H2 Q):anU r t tk σ H Q:=h
end
noncomputable def MN(me nu ha ro ma dn tk kp od tb ab:V):List ?GQ:=[("me",me),("number",nu),("hands",ha),("room",ro),("made",ma),("done",dn),("took",tk),("keeps",kp),("order",od),("taken_by",tb),("able_by",ab)]
structure U3(K:Yd)(C:Yc):Prop where
 cl:T4 K C
 n1:cH K C "me"
 n2:cH K C "number"
 n3:cH K C "hands"
 n4:cH K C "room"
 n5:cH K C "made"
 n6:cH K C "done"
 n7:cH K C "took"
 n8:cH K C "keeps"
 n9:cH K C "order"
 n10:cH K C "taken_by"
 n11:cH K C "able_by"
section
variable{me nu ha ro ma dn tk kp od tb ab v:V}
theorem aiZ:dD "able_by" ab (dD "taken_by" tb (dD "order" od (dD "keeps" kp (dD "took" tk (dD "done" dn (dD "made" ma (dD "room" ro (dD "hands" ha (dD "number" nu (dD "me" me []))))))))))=MN me nu ha ro ma dn tk kp od tb ab:=by kernel_rfl
theorem acq:dD "keeps" v (MN me nu ha ro ma dn tk kp od tb ab)=MN me nu ha ro ma dn tk v od tb ab:=by kernel_rfl
theorem abQ:dD "order" v (MN me nu ha ro ma dn tk kp od tb ab)=MN me nu ha ro ma dn tk kp v tb ab:=by kernel_rfl
theorem alo:(MN me nu ha ro ma dn tk kp od tb ab).lookup ("me":Ym)=Ya me:=by kernel_rfl
theorem abz:(MN me nu ha ro ma dn tk kp od tb ab).lookup ("number":Ym)=Ya nu:=by kernel_rfl
theorem aeN:(MN me nu ha ro ma dn tk kp od tb ab).lookup ("hands":Ym)=Ya ha:=by kernel_rfl
theorem ahz:(MN me nu ha ro ma dn tk kp od tb ab).lookup ("done":Ym)=Ya dn:=by kernel_rfl
theorem agr:(MN me nu ha ro ma dn tk kp od tb ab).lookup ("took":Ym)=Ya tk:=by kernel_rfl
theorem afo:(MN me nu ha ro ma dn tk kp od tb ab).lookup ("keeps":Ym)=Ya kp:=by kernel_rfl
theorem aeE:(MN me nu ha ro ma dn tk kp od tb ab).lookup ("order":Ym)=Ya od:=by kernel_rfl
theorem V2:(MN me nu ha ro ma dn tk kp od tb ab).lookup ("taken_by":Ym)=Ya tb:=by kernel_rfl
theorem W2:(MN me nu ha ro ma dn tk kp od tb ab).lookup ("able_by":Ym)=Ya ab:=by kernel_rfl
theorem Q9:(MN me nu ha ro ma dn tk kp od tb ab).lookup ("kept_calls":Ym)=none:=by kernel_rfl
theorem agl:(MN me nu ha ro ma dn tk kp od tb ab).lookup ("step":Ym)=none:=by kernel_rfl
theorem abU:(MN me nu ha ro ma dn tk kp od tb ab).lookup ("let_go":Ym)=none:=by kernel_rfl
theorem aeF:(MN me nu ha ro ma dn tk kp od tb ab).lookup ("piece":Ym)=none:=by kernel_rfl
theorem acb:(MN me nu ha ro ma dn tk kp od tb ab).lookup ("listen":Ym)=none:=by kernel_rfl
theorem V1:(MN me nu ha ro ma dn tk kp od tb ab).lookup ("keep_new":Ym)=none:=by kernel_rfl
theorem acH:(MN me nu ha ro ma dn tk kp od tb ab).lookup ("report":Ym)=none:=by kernel_rfl
theorem acI:(MN me nu ha ro ma dn tk kp od tb ab).lookup ("finish":Ym)=none:=by kernel_rfl
theorem ag2:(MN me nu ha ro ma dn tk kp od tb ab).lookup ("rows":Ym)=none:=by kernel_rfl
theorem ajG:(MN me nu ha ro ma dn tk kp od tb ab).length<1000:=by show 11<1000;decide
end
end L2
namespace GX
open PySem PySem.Spec PyProof.Rows
variable{prog:YI}{w:YV}{A:Y7}{s:Yl}{it:Yc}{Q:Option Ye->Yl->Prop}
noncomputable abbrev Rj(f0:Ye)(d:Yc)(i n ep:Nat)(ok ov:Ye):Y6:={cls:=.type "dict_itemiterator",data:=.fields #[f0,.bool false,.ref d,.int i 0,.int n 0,.int ep 0,ok,ov]}
noncomputable abbrev ama(d:Yc)(i n ep:Nat):Y6:={cls:=.type "dict_keyiterator",data:=.fields #[.ref d,.int i 0,.int n 0,.int ep 0]}
theorem aoU(it d:Yc)(i ep:Nat)(es:Array bE)(e:bE)(hx:es[i]?=Ya e):
  pk (bS.«dict_keyiterator.__next__» ⟨[.ref it],[]⟩) (λ_ R s=>s.heap.get? it=Ya (ama d i es.size ep)/\s.heap.get? d=Ya (zP es ep)/\
   ∀g,g.get? it=Ya (ama d ?DP es.size ep)->fm it s.heap g->R (.ok (.ret e.key)) ?B3):=
 .of_wp λprog w A R s ⟨h1,h2,q⟩=>by
  obtain⟨h,g,dr,tk,os⟩:=s;have hT:cg {heap:=h,gens:=g,drawn:=dr,toks:=tk,os:=os} (.ref it) "dict_keyiterator":=⟨_,h1,rfl⟩
  wp_walk
  rw[if_neg ?D,Yy,hx]
  wp_walk
  have ow:gN ((Manifest.find? "dict_keyiterator").elim "dict_keyiterator" λx=>x.tpName)=false:=by decide +kernel
  refine⟨_,rfl,q _ ?_ (dE ..)⟩;rw[eW _ h1 rfl,ow];simp[sP,rawInt];intro x hx hm;exfalso
  revert x hx hm
  decide +kernel
theorem ao8(it d:Yc)(i ep:Nat)(es:Array bE)(hi:es.size<=i):
  pk (bS.«dict_keyiterator.__next__» ⟨[.ref it],[]⟩) (λA R s=>A.handled=Yb/\s.heap.get? it=Ya (ama d i es.size ep)/\s.heap.get? d=Ya (zP es ep)/\
   ∀g e,wx it s.heap g->cg ?B3 (.ref e) "StopIteration"->R (.error (.ref e)) ?B3):=
 .of_wp λprog w A R s ⟨h0,h1,h2,q⟩=>by
  obtain⟨h,g,dr,tk,os⟩:=s;have hT:cg {heap:=h,gens:=g,drawn:=dr,toks:=tk,os:=os} (.ref it) "dict_keyiterator":=⟨_,h1,rfl⟩;have h0':A.in1.handled=none:=h0
  wp_walk
  rw[if_neg ?D,Yy,eB hi]
  wp_walk
  simp only[FE]
  wp_walk
  exact q _ _ (λb o nb e=>Yi _ (Yi _ (((dE ..).2 b nb).trans e))) ⟨_,Yq _ rfl,rfl⟩
theorem ah7(it d:Yc)(i ep:Nat)(ok ov:Ye)(es:Array bE)(e:bE)(hx:es[i]?=Ya e):
  pk ?EI (λ_ R s=>s.heap.get? it=Ya ?G4/\s.heap.get? d=Ya (zP es ep)/\
   ∀g,g.get? it=Ya (Rj (rawInt s.heap.objs.size) d ?DP es.size ep e.key e.val)->g.get? s.heap.objs.size=Ya {cls:=.type "tuple",data:=.seq #[e.key,e.val]}->(∀b o,b≠it->s.heap.get? b=Ya o->g.get? b=Ya o)->R (.ok (.ret (.ref s.heap.objs.size))) ?B3):=
 .of_wp λprog w A R s ⟨h1,h2,q⟩=>by
  obtain⟨h,g,dr,tk,os⟩:=s;have hT:cg {heap:=h,gens:=g,drawn:=dr,toks:=tk,os:=os} (.ref it) "dict_itemiterator":=⟨_,h1,rfl⟩;have ow:gN ((Manifest.find? "dict_itemiterator").elim "dict_itemiterator" λx=>x.tpName)=true:=by decide +kernel
  wp_walk
  rw[if_neg ?D,Yy,hx];have lt:it<h.objs.size:=Yu h1;have up:((i:Int)+ 1)=((i+ 1:Nat):Int):=by omega
  refine Yg (Yg (vc hT (Yp ?_)));refine Yg (sC hT ?_);show Yn _ _ (CF (.ref it) 3 (rawInt ((i:Int)+ 1)) >>= _) _ _ ⟨h,g,dr,tk,os⟩;rw[up];refine Yg (kr h1 ?N λg1 e1 b1=>?_);have e1:g1.get? it=Ya (Rj .none d ?DP es.size ep ok ov):=e1;have T1:cg ⟨g1,g,dr,tk,os⟩ (.ref it) "dict_itemiterator":=⟨_,e1,rfl⟩;refine Yg (cE (Yg (sC T1 (Yg (sC T1 ?_)))));show Yn _ _ (FH (.ref it) 6 e.key e.val) _ _ ⟨g1,g,dr,tk,os⟩;refine Yg (BP ?_);have z1:g1.objs.size=h.objs.size:=b1.1;have k2:∀b o,b≠it->h.get? b=Ya o->(g1.push {cls:=.type "tuple",data:=.seq #[e.key,e.val]}).get? b=Ya o:=λb o nb q=>Yi _ ((b1.2 b nb).trans q);have e2:(g1.push {cls:=.type "tuple",data:=.seq #[e.key,e.val]}).get? it=Ya (Rj .none d ?DP es.size ep ok ov):=Yi _ e1;have t2:(g1.push {cls:=.type "tuple",data:=.seq #[e.key,e.val]}).get? h.objs.size=Ya {cls:=.type "tuple",data:=.seq #[e.key,e.val]}:=by rw[<-z1];exact Yq _ rfl
  rw[z1];generalize g1.push {cls:=.type "tuple",data:=.seq #[e.key,e.val]}=g2 at k2 e2 t2⊢;show Yn _ _ (ED (.ref it) >>= _) _ _ ⟨g2,g,dr,tk,os⟩;refine Yg (Yg (sj e2 rfl (x:=.none) rfl (Yp ?_)));rw[if_pos rfl];refine Yg (sj e2 rfl (x:=ok) rfl (Yg (sj e2 rfl (x:=ov) rfl ?_)));refine Yg (kr e2 ?N λg3 e3 b3=>Yg (kr e3 ?N λg4 e4 b4=>Yg (kr e4 ?N λg5 e5 b5=>Yg (kr e5 ?N λg6 e6 b6=>?_))));have bb:∀b o,b≠it->g2.get? b=Ya o->g6.get? b=Ya o:=λb o nb q=>(b6.2 b nb).trans ((b5.2 b nb).trans ((b4.2 b nb).trans ((b3.2 b nb).trans q)));exact Yg (wpAny_letGo (Yp (Yp ⟨_,rfl,q g6 e6 (bb _ _ (kf lt) t2) λb o nb w=>bb b o nb (k2 b o nb w)⟩)))
theorem ajK(it d:Yc)(i ep:Nat)(ok ov:Ye)(es:Array bE)(hi:es.size<=i):
  pk ?EI (λA R s=>A.handled=Yb/\s.heap.get? it=Ya ?G4/\s.heap.get? d=Ya (zP es ep)/\
   ∀g e,wx it s.heap g->cg ?B3 (.ref e) "StopIteration"->R (.error (.ref e)) ?B3):=
 .of_wp λprog w A R s ⟨h0,h1,h2,q⟩=>by
  obtain⟨h,g,dr,tk,os⟩:=s;have hT:cg {heap:=h,gens:=g,drawn:=dr,toks:=tk,os:=os} (.ref it) "dict_itemiterator":=⟨_,h1,rfl⟩;have h0':A.in1.handled=none:=h0
  wp_walk
  rw[if_neg ?D,Yy,eB hi];refine Yg (Yg (vc hT (Yp ?_)));refine Yg (kr h1 (by show _<8;split<;>decide) λg1 e1 b1=>?_)
  wp_walk
  simp only[FE]
  wp_walk
  exact q _ _ (λb o nb e=>Yi _ (Yi _ ((b1.2 b nb).trans e))) ⟨_,Yq _ rfl,rfl⟩
theorem alf(d:Yc)(es:Array bE)(ep:Nat)(hd:(d==eK)=false):
  pk (bS.«dict.items» ⟨[.ref d],[]⟩) (λ_ R s=>s.heap.get? d=Ya (zP es ep)/\R (.ok (.ret (.ref s.heap.objs.size))) {s with heap:=s.heap.push {cls:=.type "dict_items",data:=.fields #[.ref d]}}):=
 .of_wp λprog w A R s ⟨h1,q⟩=>by
  obtain⟨h,g,dr,tk,os⟩:=s;have hT:cg {heap:=h,gens:=g,drawn:=dr,toks:=tk,os:=os} (.ref d) "dict":=⟨_,h1,rfl⟩
  wp_walk
  exact⟨_,rfl,q⟩
theorem agR(v d:Yc)(ep:Nat)(es:Array bE):
  pk (bS.«dict_items.__iter__» ⟨[.ref v],[]⟩) (λA R s=>s.heap.get? v=Ya {cls:=.type "dict_items",data:=.fields #[.ref d]}/\s.heap.get? d=Ya (zP es ep)/\
   R (.ok (.ret (.ref s.heap.objs.size))) {s with heap:=s.heap.push (Rj .none d 0 es.size ep .none .none)}):=
 .of_wp λprog w A R s ⟨h1,h2,q⟩=>by
  obtain⟨h,g,dr,tk,os⟩:=s;have hT:cg {heap:=h,gens:=g,drawn:=dr,toks:=tk,os:=os} (.ref v) "dict_items":=⟨_,h1,rfl⟩
  wp_walk
  have ow:gN "dict_itemiterator"=true:=by decide +kernel
  rw[ow];exact⟨_,rfl,q⟩
theorem agt{R:pV->Yl->Prop}{S:Y7->(pV->Yl->Prop)->Yl->Prop}(hT:s.TypeIs (.ref it) "dict_itemiterator")(m:pk ?EI S)(h:S A R s):
  c5 ?I A (.call (.builtin "dict_itemiterator.__next__") ⟨[.ref it],[]⟩) R s:=
 lj F.slot_dict_itemiterator_next.plain F.entry_dict_itemiterator_next (F.slot_dict_itemiterator_next.check _ _ _ _ _ _ _ _ hT (F.args_dict_itemiterator_next_1 _) (m prog w A R s h))
section
variable{E:Ye->Yl->Prop}{v d:Yc}{es:Array bE}{i ep:Nat}{ok ov:Ye}
theorem aeX{Q:Ye->Yl->Prop}(hS:(d==eK)=false)(rd:ud s.heap d es ep)
  (q:Q (.ref s.heap.objs.size) {s with heap:=s.heap.push {cls:=.type "dict_items",data:=.fields #[.ref d]}}):Yn ?I A (call (.builtin "dict.items") [.ref d]) Q E s:=
 px F.slot_dict_items ⟨_,rd,rfl⟩ F.entry_dict_items (F.args_dict_items_1 _) (alf d es ep hS) ⟨rd,q⟩
theorem afs{Q:Ye->Yl->Prop}(hv:s.heap.get? v=Ya {cls:=.type "dict_items",data:=.fields #[.ref d]})(rd:ud s.heap d es ep)
  (q:Q (.ref s.heap.objs.size) {s with heap:=s.heap.push (Rj .none d 0 es.size ep .none .none)}):Yn ?I A (uj (.ref v)) Q E s:=by
 have T:s.TypeIs (.ref v) "dict_items":=⟨_,hv,rfl⟩;apply sf T F.slot_dict_items_iter;apply px F.slot_dict_items_iter T F.entry_dict_items_iter (F.args_dict_items_iter_1 _) (agR v d ep es);exact⟨hv,rd,"dict_itemiterator",_,⟨_,Yq _ rfl,rfl⟩,F.slot_dict_itemiterator_next.lookup,q⟩
theorem afu{e:bE}(hit:s.heap.get? it=Ya ?G4)(rd:ud s.heap d es ep)(hx:es[i]?=Ya e)(hQ:∀g,g.get? it=Ya (Rj (rawInt s.heap.objs.size) d ?DP es.size ep e.key e.val)->g.get? s.heap.objs.size=Ya {cls:=.type "tuple",data:=.seq #[e.key,e.val]}->(∀b o,b≠it->s.heap.get? b=Ya o->g.get? b=Ya o)->Q (Ya (.ref s.heap.objs.size)) ?B3):Yn ?I A (fF (.ref it)) Q E s:=by
 have hT:s.TypeIs (.ref it) "dict_itemiterator":=⟨_,hit,rfl⟩;have hk:=F.slot_dict_itemiterator_next.lookup;have hb:=F.slot_dict_itemiterator_next.bind (.ref it);unfold fF
 repeat' first|assumption|wp_step
 exact agt hT (ah7 it d i ep ok ov es e hx) ⟨hit,rd,λg a b c=>Yp (Yp (hQ g a b c))⟩
theorem af6(hh:A.handled=Yb)(hit:s.heap.get? it=Ya ?G4)(rd:ud s.heap d es ep)(hi:es.size<=i)(fin:∀g,wx it s.heap g->Q Yb ?B3):Yn ?I A (fF (.ref it)) Q E s:=by
 have hT:s.TypeIs (.ref it) "dict_itemiterator":=⟨_,hit,rfl⟩;have hk:=F.slot_dict_itemiterator_next.lookup;have hb:=F.slot_dict_itemiterator_next.bind (.ref it);have hst:isSubtype (.type "StopIteration") (.type "StopIteration")=pure true:=by rw[rS];kernel_rfl
 unfold fF
 repeat' first|assumption|wp_step
 refine agt hT (ajK it d i ep ok ov es hi) ⟨hh,hit,rd,λg e a b=>?_⟩;have hq:=fin g a
 repeat' first|assumption|wp_step
end
end GX
namespace L2
open PySem PySem.Spec PyProof.Rows
variable{P prog:YI}{w:YV}{H:Hp}{h:YT}{d:Yc}{kvs:List ?BD}{es:Array bE}{ep x1:Nat}{elts:List YZ}{tp:iL}{o:Y6}{X:Cx}{σ:St}{td:TE}{R:It->Hp->Prop}{A:Y7}{E:Ye->Yl->Prop}{s:Yl}
theorem adu(ok:xP P w H h)(e:Rd H d (.dT kvs)):
  (d==eK)=false/\∃(es:Array bE) (ep:Nat),GX.ud h d es ep/\es.size=kvs.length/\∀(i:Nat) (k:List d9) (v:V),kvs[i]?=Ya (k,v)->∃(y:bE) (b:Yc),es[i]?=Ya y/\y.key=.ref b/\H b=Ya (.tup (k.map kV))/\RelV v y.val:=by
 obtain⟨_,hS,xs,kt,o,es,ep,h1,h2,h3,h4,_⟩:=Tw ok e;refine⟨hS,es,ep,.of h1 h2 h3,?_,λi k v hv=>?_⟩
 ·rw[<-aE,h4,Yk];exact(bX kt).symm
 ·obtain⟨q,hq,ek,hb,rv⟩:=iZ kt hv;refine⟨BY (ke (bT P w)) q,q.2.1,?_,rfl,hb,rv⟩;rw[<-Y4,h4,Yw,hq];rfl
noncomputable def abZ(d:Yc)(o:Y6)(kvs:List ?BD):It:=
 ⟨λi H=>i<kvs.length/\H d=Ya (.frz o (.dT kvs)),λi H x H'=>∃k v a b,kvs[i]?=Ya (k,v)/\H a=Yb/\H b=Ya (.tup (k.map kV))/\x=.ref a/\H'=upd H a (.tup [.ref b,v]),λi H=>kvs.length<=i/\H d=Ya (.frz o (.dT kvs))⟩
theorem afZ{es':Array bE}{ep':Nat}(a:GX.ud h d es ep)(b:GX.ud h d es' ep'):es=es':=by
 have e:GX.zP es ep=GX.zP es' ep':=YK (a.symm.trans b);cases e;rfl
theorem X5{K:Yd}{it:Yc}(sz:es.size=kvs.length)(fz:∀h:YT,h.get? d=Ya o->GX.ud h d es ep):
  Turn P w K (.Tuple elts x1 tp) (abZ d o kvs) [it] it (λi h=>∃ok ov,h.get? it=Ya (GX.Rj .none d i es.size ep ok ov)) where
 mem:=by simp
 obj:=λi h ⟨ok,ov,st⟩ b hb=>by
  have e:b=it:=by simpa using hb
  subst e;exact⟨_,st,λv z=>by cases z⟩
 keep:=λi h h' ⟨ok,ov,st⟩ k=>⟨ok,ov,k it ?N _ st⟩
 item:=by
  intro X hP hw hK hc i pins s σ H E I hf st hg;subst hP hw hK;obtain⟨ok,ov,hit⟩:=st;obtain⟨hi,hd⟩:=hg;have hdo:s.heap.get? d=Ya o:=(show s.heap.get? d=Ya o/\_ from I.hok d _ hd).1;have hx:kvs[i]?=Ya kvs[i]:=Yv hi;obtain⟨_,es',ep',rd',_,rel⟩:=adu I.hok (.inr ⟨o,hd⟩);obtain rfl:=afZ (fz _ hdo) rd';obtain⟨y,b,hy,yk,hb,ru⟩:=rel i kvs[i].1 kvs[i].2 hx;refine GX.afu hit (fz _ hdo) hy λh' hit' htup kp=>?_;have hai:s.heap.objs.size≠it:=λz=>by
   have:=Yu hit;rw[<-z]at this;exact Y2 _ this
  have hfi:=hf it ?N;have I1:bH X pins σ (upd H s.heap.objs.size (.tup [.ref b,kvs[i].2])) ?AM:=
   I.turnLay kp hfi ⟨_,hit'⟩ ?BU hai ⟨by show 2<=YB;decide,[y.key,y.val],.cons yk (.cons ru .nil),_,htup,rfl,0,rfl,rfl,rfl⟩
  refine⟨_,rfl,xc hit' λh2 hit2 sb=>?_⟩;obtain⟨f0,f1,f2,f3,f4,f5⟩:=hfi;have f0':(upd H s.heap.objs.size (.tup [.ref b,kvs[i].2])) it=none:=by rw[aQ (Ne.symm hai)];exact f0
  refine⟨.ref s.heap.objs.size,_,I1.turned (t':=s.toks) ?DB f0' f1 f3 f4 f5,rfl,⟨_,_,_,b,hx,I.hok.fresh ?BU,hb,rfl,rfl⟩,⟨y.key,y.val,hit2⟩,λc hc=>?_⟩;have e:c=it:=by simpa using hc
  rw[e];exact f0'
 done:=by
  intro X hP hw hK hc i pins s σ H E I hf st hg;subst hP hw hK;obtain⟨ok,ov,hit⟩:=st;obtain⟨hi,hd⟩:=hg;have hdo:s.heap.get? d=Ya o:=(show s.heap.get? d=Ya o/\_ from I.hok d _ hd).1;obtain⟨f0,f1,f2,f3,f4,f5⟩:=hf it ?N;exact GX.af6 ?BK hit (fz _ hdo) ?D λh' eb=>⟨rfl,I.turned (t':=s.toks) ?D1 f0 f1 f3 f4 f5⟩
 self:=λ_ _ _ _ _ ⟨ok,ov,st⟩ h=>FA st h
section
theorem bH.freezeT{pins:List ?AQ}{H1:Hp}{s1:Yl}(I2:bH X pins σ H1 s1)(hd:H1 d=Ya (.dT kvs))(ho:s1.heap.get? d=Ya o):bH X pins σ (upd H1 d (.frz o (.dT kvs))) s1:=
 I2.write (t':=s1.toks) (x:=d) (e:=d) (by rw[hd];trivial) (.inl rfl) ?IQ ⟨o,ho⟩ ⟨ho,by
  obtain⟨z,y,xs,kt,rest⟩:=(show gQ X.prog X.w H1 _ d (.dT kvs)from I2.hok d _ hd);exact⟨z,y,xs,dQ.mapP kt λ_ _ ⟨a1,a2,a3⟩=>⟨a1,by rw[aQ (bD a2 hd ?C)];exact a2,a3⟩,rest⟩⟩
def adL(td:TE):TI:=λσ H R=>td σ H λx H1=>∃d kvs,x=.ref d/\H1 d=Ya (.dT kvs)/\∀o,R (abZ d o kvs) (upd H1 d (.frz o (.dT kvs)))
theorem aeS{e:YZ}{apos cpos:iL}(he:PE X e td)(hbase:kH e "items" X.env (ay e X.env)=ay e X.env:=by rfl)(hline:(apos.endLine==cpos.line)=true:=by rfl):
  PI X (.Tuple elts x1 tp) (.Call (.Attribute e "items" apos) [] [] cpos) (adL td):=by
 intro pins s σ H R I h;refine nh hbase hline (eZ ?AY λv s1 zz=>?_);obtain⟨x,H1,I1,r1,d,kvs,ex,hd,q⟩:=zz;subst ex;obtain rfl:v=Y0 d:=r1;obtain⟨hS,es,ep,rd,sz,_⟩:=adu I1.hok (.inl hd);obtain⟨h1,h2⟩:=Ln (T:="dict") I1 (x:=.ref d) rfl (.inr (.inr (.inl ⟨rfl,.inr ⟨kvs,hd⟩⟩)));refine⟨"dict","dict.items",gX,r6,AA,h1,h2,j3 rfl (qo ?_)⟩;refine GX.aeX hS rd ?_;have rd':GX.ud (s1.heap.push {cls:=.type "dict_items",data:=.fields #[.ref d]}) d es ep:=rd.at λo e=>Yi _ e;have I2:bH X pins σ H1 {s1 with heap:=s1.heap.push {cls:=.type "dict_items",data:=.fields #[.ref d]}}:=I1.kept (t':=s1.toks) λb ob e=>Yi _ e;refine GX.afs (Yq _ rfl) rd' ?_;have I3:=I2.freezeT hd rd';refine⟨_,[_],_,abZ d _ kvs,_,rfl,I3.kept (t':=s1.toks) λb ob e=>Yi _ e,X5 sz (λ_ e=>e),⟨_,_,Yq _ rfl⟩,λb hb=>?_,q _⟩;have eb:b=(s1.heap.push {cls:=.type "dict_items",data:=.fields #[.ref d]}).objs.size:=by simpa using hb
 subst eb;exact I3.fpOk ?BU (I3.hok.fresh ?BU)
end
def aoe(It':Yc->Y6->List ?BD->It)(x:V)(H:Hp)(R:It->Hp->Prop):Prop:=∃d kvs,x=.ref d/\H d=Ya (.dT kvs)/\∀o,R (It' d o kvs) (upd H d (.frz o (.dT kvs)))
theorem ael(h:td σ H λx H1=>aoe abZ x H1 R):adL td σ H R:=h
theorem akV{It':Yc->Y6->List ?BD->It}(hd:H d=Ya (.dT kvs))(h:∀o A,A d=Ya (.frz o (.dT kvs))->SmB d H A->R (It' d o kvs) A):aoe It' (.ref d) H R:=
 ⟨d,kvs,rfl,hd,λo=>h o _ aA λb u n e=>by rw[aQ n];exact e⟩
theorem aag{g:TG}{tt:TT}{te:TE}{D:Yc}{Qe:Hp->Prop}(Pv:Nat->St->Hp->Prop)(h0:Pv 0 σ H)(hl:∀i σ H,i<=kvs.length->Pv i σ H->H d=Ya (.frz o (.dT kvs)))(hs:∀i k v t b σ H H1,kvs[i]?=Ya (k,v)->Pv i σ H->H t=Yb->aW H H1->H1 t=Ya (.tup [.ref b,v])->H b=Ya (.tup (k.map kV))->pL g tt te D (Pv ?DP) (.ref t) σ H1)(hd:∀σ H,Pv kvs.length σ H->Qe H):
  ∃W:Nat->Nat->St->Hp->Prop,?ES/\∀i m σ' H',W i m σ' H'->((abZ d o kvs).stop i H'/\Qe H')\/((abZ d o kvs).go i H'/\∃N:St->Hp->Prop,?V/\
   ∀x H'',(abZ d o kvs).yld i H' x H''->pL g tt te D N x σ' H''):=by
 refine⟨λi m σ H=>m=kvs.length-i/\i<=kvs.length/\Pv i σ H,⟨kvs.length,by simp,YX _,h0⟩,?_⟩;rintro i m σ H ⟨rfl,hi,p⟩;have q:=hl i σ H hi p;by_cases hlt:i<kvs.length
 ·refine .inr ⟨⟨hlt,q⟩,Pv ?DP,λσ' H' p'=>⟨kvs.length-(i+ 1),by omega,rfl,hlt,p'⟩,λx H' y=>?_⟩;obtain⟨k,v,a,b,e1,e2,e3,rfl,rfl⟩:=y;exact hs i k v a b σ _ _ e1 p e2 (aH e2) aA e3
 ·have e:i=kvs.length:=by omega
  subst e;exact .inl ⟨⟨Yo _,q⟩,hd σ H p⟩
section
end
section
end
section
end
section
end
section
end
end L2
namespace GX
open PySem PyProof.Rows
variable{prog:YI}{w:YV}{A:Y7}{E:Ye->Yl->Prop}{s:Yl}
section
variable{K:Type}[DecidableEq K]{knd:rV prog w K}
end
section
variable{K:Type}[DecidableEq K]{knd:rV prog w K}
end
end GX
namespace L2
open PySem PySem.Spec PyProof.Rows
section
variable{X:Cx}
end
end L2
namespace GX
open PySem PySem.Spec PyProof.Rows
section
variable{prog:YI}{w:YV}{K:Type}[DecidableEq K]{knd:HeapKind prog w K}{d a:Yc}{xs:List (K×Yc×Ye)}{k:K}{dflt:Ye}
end
end GX
namespace L2
open PySem PySem.Spec PyProof.Rows
variable{X:Cx}{i1 i2 i3:Nat}{w:YV}{a:Yc}
section
end
section
variable{elts:List YZ}{x1:Nat}{tp:iL}
end
theorem apu{x1 x2 x3:Ym}{c1 c2 c3:Yc}(n1:c1≠c2)(n2:c1≠c3)(n3:c2≠c3)(a1:X.N[i1]?=Ya x1)(a2:X.N[i2]?=Ya x2)(a3:X.N[i3]?=Ya x3)(k1:X.env.scope.names.lookup x1=Ya .cell)(k2:X.env.scope.names.lookup x2=Ya .cell)(k3:X.env.scope.names.lookup x3=Ya .cell)(l1:X.env.cells.lookup x1=Ya c1)(l2:X.env.cells.lookup x2=Ya c2)(l3:X.env.cells.lookup x3=Ya c3)(f1:X.fn x1=true)(f2:X.fn x2=true)(f3:X.fn x3=true):
  ala X [i1,i2,i3] [(x1,c1),(x2,c2),(x3,c3)]:=by
 refine⟨rfl,by simp[n1,n2,n3],λj i x c h1 h2=>?_⟩
 match j with
 |0=>cases h1;cases h2;exact⟨a1,k1,l1,f1⟩
 |1=>cases h1;cases h2;exact⟨a2,k2,l2,f2⟩
 |2=>cases h1;cases h2;exact⟨a3,k3,l3,f3⟩
 |j+ 3=>cases h1
theorem an0{σ:St}{v1 v2 v3:V}(h1:σ[i1]?=Ya (Ya v1))(h2:σ[i2]?=Ya (Ya v2))(h3:σ[i3]?=Ya (Ya v3)):∀(j:Nat) i v,[i1,i2,i3][j]?=Ya i->[v1,v2,v3][j]?=Ya v->σ[i]?=Ya (Ya v)
 |0,i,v,e1,e2=>by cases e1;cases e2;exact h1
 |1,i,v,e1,e2=>by cases e1;cases e2;exact h2
 |2,i,v,e1,e2=>by cases e1;cases e2;exact h3
 |j+ 3,i,v,e1,e2=>by cases e1
theorem ag0(x:Nat):x+ 1≠x+ 1+ 1+ 1:=by omega
section
end
section
variable{prog:YI}
variable{A:Y7}{E:Ye->Yl->Prop}{s:Yl}{k:Int×List d9}
end
section
variable{P:YI}{H:Hp}{h:YT}
end
section
variable{o i value:YZ}{pos pos':iL}{td ty tv:TE}
end
end L2
namespace L2
open PySem
end L2
namespace L2
open PySem PySem.Spec PyProof.Rows
variable{X:Cx}{params:DI}{body e:YZ}{scope:jS}{pos:iL}{Pt:Yc}{qual:Ym}{σ:St}{H:Hp}{v:V}{pins:List ?AQ}{s:Yl}
def aky(Pt:Yc)(pos:iL)(qual:Ym)(mk:Yc->Ye->Y6):TE:=λ_ H Q=>amk Pt pos qual H/\
 ∀f c' ctv H',H f=Yb->SmB Pt H H'->H' f=Ya (FnO f (mk c' ctv))->H' c'=Ya (CdO c' qual)->H' Pt=Ya (.tbl #[rawInt pos.line,rawInt pos.col,.ref c'])->Q (.ref f) H'
section
theorem ajH{c:Yc}{clos:List ?GG}(hd0:defaultsOf params X.env=([],[]))(hcl:CA scope X.env=pure clos)(hcode:X.env.code=.ref c)(hC:HK X.base c Pt)(hB:Wv X.base X.mg):
  PE X (.Lambda params body scope pos) (aky Pt pos (X.env.qual++"<lambda>") λc' ctv=>kG "<lambda>" (X.env.qual++"<lambda>") params body scope clos ((X.mg "__name__").getD .none) c' ctv):=by
 intro pins s σ H Q I h;obtain⟨tb,q⟩:=h;generalize hq:X.env.qual++"<lambda>"=qual at tb q;have hg:s.heap.Ns Y3 X.mg:=I.mod.glob.keeps I.bk;obtain⟨bm,ob,b1,b2,b3,b4,b5⟩:=hB;refine PySem.W.kla_eval hd0 ?_;rw[hq];rcases tb with hP|⟨c',hP,hc'⟩
 ·have oP:s.heap.get? Pt=Ya (oQ #[]):=I.hok Pt _ hP;have nb:∀b o,X.base.get? b=Ya o->b≠Pt:=λb o e z=>by have:=(I.bs b o e).2;rw[z,hP]at this;cases this
  refine PySem.W.kla_makeFunction (mg:=X.mg) hcl I.ok.glob hg hcode (hC.keeps I.bk) oP gB rfl (by obtain⟨o,_,_,e,_⟩:=I.mod.glob;exact nb _ _ e) ⟨bm,ob,b1,b2,b3,nb _ _ b4,I.bk _ _ b4,b5⟩ λc' ctv h' tk hx' hge hlt hrec htb=>?_;obtain⟨fo,hfo⟩:∃fo,fo=kG "<lambda>" qual params body scope clos ((X.mg "__name__").getD .none) c' ctv:=⟨_,rfl⟩;have nf:fo.isFreed=false:=by rw[hfo];rfl
  have q:=q h'.objs.size c' ctv;dsimp only at q;rw[<-hfo]at q⊢;have hsz:s.heap.objs.size<=h'.objs.size:=Y5 (iP hge hlt);have Hf:H h'.objs.size=none:=I.hok.fresh hsz;have Hc:H c'=none:=I.hok.fresh hge;have nfc:h'.objs.size≠c':=kf hlt;have nfP:h'.objs.size≠Pt:=λz=>by rw[z,hP]at Hf;cases Hf
  have ncP:c'≠Pt:=λz=>by rw[z,hP]at Hc;cases Hc
  obtain⟨H',eH⟩:∃H':Hp,H'=upd (upd (upd H Pt (.tbl #[rawInt pos.line,rawInt pos.col,.ref c'])) c' (CdO c' qual)) h'.objs.size (FnO h'.objs.size fo):=⟨_,rfl⟩;have ef:H' h'.objs.size=Ya (FnO h'.objs.size fo):=by rw[eH];exact aA
  have ec:H' c'=Ya (CdO c' qual):=by rw[eH,aQ nfc.symm,aA]
  have eP:H' Pt=Ya (.tbl #[rawInt pos.line,rawInt pos.col,.ref c']):=by rw[eH,aQ nfP.symm,aQ ncP.symm,aA]
  have eo:∀b,b≠h'.objs.size->b≠c'->b≠Pt->H' b=H b:=λb n1 n2 n3=>by rw[eH,aQ n1,aQ n2,aQ n3]
  have es:∀b u,H b=Ya u->b≠Pt->H' b=Ya u:=λb u e n=>by rw[eo b (bB e Hf) (bB e Hc) n];exact e
  have old:∀b o,b≠Pt->s.heap.get? b=Ya o->(h'.push fo).get? b=Ya o:=λb o n e=>Yi _ (hx' b o n e);have np:∀b,H b=Yb->b≠Pt:=λb n z=>by rw[z,hP]at n;cases n
  have I2:bH X pins σ H' {s with heap:=h'.push fo,toks:=tk}:=by
   refine I.step (g':=s.gens) (d':=s.drawn) (t':=tk) (ch:=[]) (λ_ z=>nomatch z) (λb o _ _ _ e n=>old b o (np b n) e) (λb o _ _ _ e n=>⟨o.slots,old b o (np b n) e⟩) (λb o _ e n=>?_) (λb o _ e=>?_) (λb xs e=>es b _ e λz=>by rw[z,hP]at e;cases e) (λb o u e=>es b _ e λz=>by rw[z,hP]at e;cases e) (λb qs e=>?_) (λm hm=>?_) (λa u e=>?_) I.bare
   ·have lt:=Yu e;rw[eo b (YF (YM lt hsz)) (YF (YM lt hge)) (np b n)];exact n
   ·by_cases z:b=Pt
    ·rw[z];exact⟨_,Yi _ htb⟩
    ·exact⟨o,old b o z e⟩
   ·by_cases z:b=Pt
    ·rw[z,hP]at e;cases e;exact⟨#[rawInt pos.line,rawInt pos.col,.ref c'],by rw[z,eP];rfl⟩
    ·exact⟨#[],by rw[es b _ e z];simp⟩
   ·exact(hm.extBut hx' (np _ I.free)).push _
   ·by_cases z1:a=h'.objs.size
    ·rw[z1,ef]at e;cases e;rw[z1];exact⟨Yq _ nf,⟨_,Yq _ nf⟩,λh1 h2 e k=>k _ e⟩
    by_cases z2:a=c'
    ·rw[z2,ec]at e;cases e;rw[z2];obtain⟨c2,oc,vs,t,e2,hoc,hd,hv⟩:=id hrec;cases e2;refine⟨⟨_,oc,vs,t,rfl,Yi _ hoc,hd,hv⟩,⟨oc,Yi _ hoc⟩,?_⟩;rintro h1 h2 ⟨c2,oc,vs,t,e2,hoc,hd,hv⟩ k;cases e2;exact⟨_,oc,vs,t,rfl,k _ hoc,hd,hv⟩
    by_cases z3:a=Pt
    ·rw[z3,eP]at e;cases e;rw[z3];exact Yi _ htb
    ·rw[eo a z1 z2 z3]at e;refine(I.hok a u e).stay (λb v hb r=>old b v ?_ r) (λb r=>es b _ r λz=>by rw[z,hP]at r;cases r) λb xs r=>es b _ r λz=>by rw[z,hP]at r;cases r
     rcases hb with z|z
     ·rw[z];exact z3
     ·exact λy=>by rw[y,hP]at z;cases z
  exact⟨.ref h'.objs.size,H',I2,rfl,q H' Hf (λb v n e=>es b v e n) ef ec eP⟩
 ·have oP:s.heap.get? Pt=Ya (oQ #[rawInt pos.line,rawInt pos.col,.ref c']):=I.hok Pt _ hP;have nb:∀b o,X.base.get? b=Ya o->b≠Pt:=λb o e z=>by have:=(I.bs b o e).2;rw[z,hP]at this;cases this
  refine PySem.W.kla_makeFunctionHit (mg:=X.mg) (cv:=.ref c') hcl I.ok.glob hg hcode (hC.keeps I.bk) oP (by simp[TriplesOk,rawInt]) (by simp[codeAmong,rawInt]) ⟨bm,ob,b1,b2,b3,nb _ _ b4,I.bk _ _ b4,b5⟩ λctv h' tk hk hsz=>?_;obtain⟨fo,hfo⟩:∃fo,fo=kG "<lambda>" qual params body scope clos ((X.mg "__name__").getD .none) c' ctv:=⟨_,rfl⟩;have nf:fo.isFreed=false:=by rw[hfo];rfl
  have q:=q h'.objs.size c' ctv;dsimp only at q;rw[<-hfo]at q;show EP X pins σ Q (.ref h'.objs.size) {s with heap:=h'.push (kG "<lambda>" qual params body scope clos ((X.mg "__name__").getD .none) c' ctv),toks:=tk};rw[<-hfo];have Hf:H h'.objs.size=none:=I.hok.fresh hsz;have I2:=I.laid (a:=h'.objs.size) (t':=tk) (o:=FnO h'.objs.size fo) (h':=h'.push fo) (λb u e=>Yi _ (hk b u e)) hsz
   ⟨Yq _ nf,⟨_,Yq _ nf⟩,λh1 h2 e k=>k _ e⟩
  have es:=aH (o:=FnO h'.objs.size fo) Hf;exact⟨.ref h'.objs.size,_,I2,rfl,q _ Hf (λb v _ e=>es b v e) aA (es _ _ hc') (es _ _ hP)⟩
end
theorem amz{mk:Yc->Ye->Y6}{Q:VK}(hT:amk Pt pos qual H)(h:∀f c' ctv H',H f=Yb->SmB Pt H H'->H' f=Ya (FnO f (mk c' ctv))->H' c'=Ya (CdO c' qual)->H' Pt=Ya (.tbl #[rawInt pos.line,rawInt pos.col,.ref c'])->Q (.ref f) H'):aky Pt pos qual mk σ H Q:=⟨hT,h⟩
section
variable{CX:CXT}{P:YI}{w:YV}{K:Yd}{mg:Ym->Option Ye}{base:YT}{N ps:List Ym}{f:Yc}{cl:List ?GG}{vals:List V}
theorem alv{k:Nat}{name:Ym}{c':Yc}{pm ctv:Ye}{sp:Sp}(S:ScM N ps (cl.map (·.1)) scope)(nd2:(cl.map (·.2)).Nodup)(len:∀vs H Q E,sp vs H Q E->vs.length=ps.length)(hbody:∀(A:Y7) (outer:List m4) (s:Yl) (H:Hp) (vs:List V) (Q:VK) (E:XK),gJ k (A.deeper (oB qual scope s.heap.objs.size f (.ref c') cl))->sp vs (Oh ?CT H) Q E->
   ∃t,PE (cxM CX P w K mg base N qual scope f (.ref c') cl A outer s H E) body t/\t (pJ N (vs++vals)) (Oh ?CT H) Q):
  aG P w K mg base CX (k+ 1) f (BU name qual params body scope cl pm (.ref c') ctv) ps (spF f c' (kG name qual params body scope cl pm c' ctv) qual cl vals sp):=by
 refine⟨λvs H Q E h=>len _ _ _ _ h.2.2.2,λA outer s H args us vs Q E hr e0 hb r hsp=>?_⟩;obtain⟨hf,hc,ln,hs⟩:=hsp;have hl:=len _ _ _ _ hs;have fz:=ln.frz;have lim:s.heap.NoLimit:=e0.mod.nolimit.keeps λb o e=>(e0.bs b o e).1;have of:s.heap.get? f=Ya (kG name qual params body scope cl pm c' ctv):=(show s.heap.get? f=Ya _/\_ from e0.hok f _ hf).1;have oc:s.heap.CodeRec (.ref c') qual:=(show s.heap.CodeRec (.ref c') qual/\_ from e0.hok c' _ hc).1;refine PySem.W.kla_callFunE (fd:=BU name qual params body scope cl pm (.ref c') ctv) hr.depth of rfl S.co S.gen rfl oc (hb _ _ _ _ ?_);refine CB S.cel (λy hy=>S.par y.1 (qv (show(y.1,y.2)∈ps.zip us from hy)).1) (λh₁ hns hsb=>?_) S.kind;have kept:∀a u,s.heap.get? a=Ya u->h₁.get? a=Ya u:=λa u q=>by
  have na:a≠s.heap.objs.size:=YF (Yu q);exact hsb.extBut a u na (by exact Yi _ q)
 refine⟨lim.keeps kept,?_⟩;obtain⟨t,ht,hq⟩:=hbody A outer s H vs _ E (hr.deeper _) hs;have I:bH (cxM CX P w K mg base N qual scope f (.ref c') cl A outer s H E) [] (pJ N (vs++vals)) (Oh ?CT H) {s with heap:=h₁,toks:=s.toks+ (ps.zip us).length}:=abY S hr.hd e0 hl r nd2 ln hns kept;refine PySem.W.kla_codeExpr (e:=body) (env:=oB qual scope s.heap.objs.size f (.ref c') cl) (ai (ht [] _ (pJ N (vs++vals)) _ _ I hq) (λu s' hs=>?_) λe s' hs=>hs);obtain⟨v,H',J,rv,q⟩:=hs;have fr:∀c∈cl.map (·.2),H' c=none:=λc hc=>by
  obtain⟨p,hp,rfl⟩:=YD.mp hc;have nd1:(cl.map (·.1)).Nodup:=by
   have:=S.nd.sublist (r9 (ps++cl.map (·.1)).length N);rw[S.pre,i9]at this;exact this.2.1
  exact J.freeC p.1 p.2 (K7 nd1 hp)
 have kp:∀c∈cl.map (·.2),∀o,s.heap.get? c=Ya o->s'.heap.get? c=Ya o:=λc hc o e=>by
  refine J.base.keep c o e (Ww hc) (λz=>?_) (λz=>absurd (show c∈([]:List Yc)from z) ?N);obtain⟨_,_,q⟩:=fz c hc;rw[e0.frf c z]at q;cases q
 exact⟨v,_,J.os,J.bare,alB fz J.base,ail fz e0.hok J.hok fr kp,rv,q fr⟩
end
noncomputable def pH(me ro nw pg ch cb wb pa lg lo db nt wo wi:V):List ?GQ:=[("me",me),("room",ro),("newest",nw),("page",pg),("change",ch),("came_by",cb),("went_by",wb),("past",pa),("log",lg),("lost",lo),("doubts",db),("noted",nt),("wants_out",wo),("wants_in",wi)]
structure Rx(K:Yd)(C:Yc):Prop where
 cl:T4 K C
 n1:cH K C "me"
 n2:cH K C "room"
 n3:cH K C "newest"
 n4:cH K C "page"
 n5:cH K C "change"
 n6:cH K C "came_by"
 n7:cH K C "went_by"
 n8:cH K C "past"
 n9:cH K C "log"
 n10:cH K C "lost"
 n11:cH K C "doubts"
 n12:cH K C "noted"
 n13:cH K C "wants_out"
 n14:cH K C "wants_in"
section
variable{me ro nw pg ch cb wb pa lg lo db nt wo wi:V}
theorem aiY:dD "wants_in" wi (dD "wants_out" wo (dD "noted" nt (dD "doubts" db (dD "lost" lo (dD "log" lg (dD "past" pa (dD "went_by" wb (dD "came_by" cb (dD "change" ch (dD "page" pg (dD "newest" nw (dD "room" ro (dD "me" me [])))))))))))))=pH me ro nw pg ch cb wb pa lg lo db nt wo wi:=by kernel_rfl
theorem adB:dD "newest" v (pH me ro nw pg ch cb wb pa lg lo db nt wo wi)=pH me ro v pg ch cb wb pa lg lo db nt wo wi:=by kernel_rfl
theorem adP:dD "page" v (pH me ro nw pg ch cb wb pa lg lo db nt wo wi)=pH me ro nw v ch cb wb pa lg lo db nt wo wi:=by kernel_rfl
theorem ac3:dD "change" v (pH me ro nw pg ch cb wb pa lg lo db nt wo wi)=pH me ro nw pg v cb wb pa lg lo db nt wo wi:=by kernel_rfl
theorem acZ:dD "came_by" v (pH me ro nw pg ch cb wb pa lg lo db nt wo wi)=pH me ro nw pg ch v wb pa lg lo db nt wo wi:=by kernel_rfl
theorem ady:dD "went_by" v (pH me ro nw pg ch cb wb pa lg lo db nt wo wi)=pH me ro nw pg ch cb v pa lg lo db nt wo wi:=by kernel_rfl
theorem ad5:dD "past" v (pH me ro nw pg ch cb wb pa lg lo db nt wo wi)=pH me ro nw pg ch cb wb v lg lo db nt wo wi:=by kernel_rfl
theorem ajI:dD "lost" v (pH me ro nw pg ch cb wb pa lg lo db nt wo wi)=pH me ro nw pg ch cb wb pa lg v db nt wo wi:=by kernel_rfl
theorem aiX:dD "doubts" v (pH me ro nw pg ch cb wb pa lg lo db nt wo wi)=pH me ro nw pg ch cb wb pa lg lo v nt wo wi:=by kernel_rfl
theorem adk:dD "noted" v (pH me ro nw pg ch cb wb pa lg lo db nt wo wi)=pH me ro nw pg ch cb wb pa lg lo db v wo wi:=by kernel_rfl
theorem adh:dD "wants_out" v (pH me ro nw pg ch cb wb pa lg lo db nt wo wi)=pH me ro nw pg ch cb wb pa lg lo db nt v wi:=by kernel_rfl
theorem ad4:dD "wants_in" v (pH me ro nw pg ch cb wb pa lg lo db nt wo wi)=pH me ro nw pg ch cb wb pa lg lo db nt wo v:=by kernel_rfl
theorem al5:(pH me ro nw pg ch cb wb pa lg lo db nt wo wi).lookup ("me":Ym)=Ya me:=by kernel_rfl
theorem agg:(pH me ro nw pg ch cb wb pa lg lo db nt wo wi).lookup ("room":Ym)=Ya ro:=by kernel_rfl
theorem acj:(pH me ro nw pg ch cb wb pa lg lo db nt wo wi).lookup ("newest":Ym)=Ya nw:=by kernel_rfl
theorem ahX:(pH me ro nw pg ch cb wb pa lg lo db nt wo wi).lookup ("page":Ym)=Ya pg:=by kernel_rfl
theorem acJ:(pH me ro nw pg ch cb wb pa lg lo db nt wo wi).lookup ("change":Ym)=Ya ch:=by kernel_rfl
theorem aaF:(pH me ro nw pg ch cb wb pa lg lo db nt wo wi).lookup ("came_by":Ym)=Ya cb:=by kernel_rfl
theorem abl:(pH me ro nw pg ch cb wb pa lg lo db nt wo wi).lookup ("went_by":Ym)=Ya wb:=by kernel_rfl
theorem ahD:(pH me ro nw pg ch cb wb pa lg lo db nt wo wi).lookup ("past":Ym)=Ya pa:=by kernel_rfl
theorem aiI:(pH me ro nw pg ch cb wb pa lg lo db nt wo wi).lookup ("log":Ym)=Ya lg:=by kernel_rfl
theorem ag5:(pH me ro nw pg ch cb wb pa lg lo db nt wo wi).lookup ("lost":Ym)=Ya lo:=by kernel_rfl
theorem acp:(pH me ro nw pg ch cb wb pa lg lo db nt wo wi).lookup ("doubts":Ym)=Ya db:=by kernel_rfl
theorem aeG:(pH me ro nw pg ch cb wb pa lg lo db nt wo wi).lookup ("noted":Ym)=Ya nt:=by kernel_rfl
theorem Ti:(pH me ro nw pg ch cb wb pa lg lo db nt wo wi).lookup ("wants_out":Ym)=Ya wo:=by kernel_rfl
theorem VF:(pH me ro nw pg ch cb wb pa lg lo db nt wo wi).lookup ("wants_in":Ym)=Ya wi:=by kernel_rfl
theorem Wy:(pH me ro nw pg ch cb wb pa lg lo db nt wo wi).lookup ("check_in":Ym)=none:=by kernel_rfl
theorem RL:(pH me ro nw pg ch cb wb pa lg lo db nt wo wi).lookup ("check_free":Ym)=none:=by kernel_rfl
theorem S7:(pH me ro nw pg ch cb wb pa lg lo db nt wo wi).lookup ("stands_in":Ym)=none:=by kernel_rfl
theorem QW:(pH me ro nw pg ch cb wb pa lg lo db nt wo wi).lookup ("note_taken":Ym)=none:=by kernel_rfl
theorem afm:(pH me ro nw pg ch cb wb pa lg lo db nt wo wi).lookup ("enter":Ym)=none:=by kernel_rfl
theorem abS:(pH me ro nw pg ch cb wb pa lg lo db nt wo wi).lookup ("go_out":Ym)=none:=by kernel_rfl
theorem aeK:(pH me ro nw pg ch cb wb pa lg lo db nt wo wi).lookup ("go_by":Ym)=none:=by kernel_rfl
theorem abX:(pH me ro nw pg ch cb wb pa lg lo db nt wo wi).lookup ("settle":Ym)=none:=by kernel_rfl
theorem Tf:(pH me ro nw pg ch cb wb pa lg lo db nt wo wi).lookup ("hear_away":Ym)=none:=by kernel_rfl
theorem Jx:(pH me ro nw pg ch cb wb pa lg lo db nt wo wi).lookup ("hear_standing":Ym)=none:=by kernel_rfl
theorem Vx:(pH me ro nw pg ch cb wb pa lg lo db nt wo wi).lookup ("come_new":Ym)=none:=by kernel_rfl
theorem Ot:(pH me ro nw pg ch cb wb pa lg lo db nt wo wi).lookup ("hear_fellow":Ym)=none:=by kernel_rfl
theorem Xj:(pH me ro nw pg ch cb wb pa lg lo db nt wo wi).lookup ("stopped":Ym)=none:=by kernel_rfl
theorem ais:(pH me ro nw pg ch cb wb pa lg lo db nt wo wi).length<1000:=by show 14<1000;decide
end
noncomputable def aod(s:YJ)(i:Nat):YZ:=match s with
 | .Expr (.Call _ as _ _) _=>as.getD i (.Constant .none 0 ⟨0,0,0,0⟩)
 |_=>.Constant .none 0 ⟨0,0,0,0⟩
noncomputable def adx(e:YZ):DI:=match e with
 | .Lambda a _ _ _=>a
 |_=>⟨[],[],Yb,[],[],Yb,[]⟩
noncomputable def adf(e:YZ):YZ:=match e with
 | .Lambda _ b _ _=>b
 |e=>e
noncomputable def alU(e:YZ):iL:=match e with
 | .Lambda _ _ _ p=>p
 |_=>⟨0,0,0,0⟩
noncomputable def Qc(e:YZ):jS:=match e with
 | .Lambda _ _ s _=>s
 |_=>default
section
theorem iz:PE X e (λ_ _ _=>False):=λ_ _ _ _ _ _ h=>h.elim
theorem Fx:PT X e (λ_ _ _=>False):=λ_ _ _ _ _ _ h=>h.elim
end
section
variable{a b c d h r n e o:V}
end
section
variable{o f:YZ}{apos cpos:iL}{td ty tx:TE}
end
section
end
section
end
section
end
section
variable{K:Yd}
end
end L2
namespace HT
open PySem PySem.Spec PyProof.Rows
section
variable{prog:YI}{w:YV}{A:Y7}{E:Ye->Yl->Prop}{s:Yl}
end
end HT
namespace L2
open PySem PySem.Spec PyProof.Rows
variable{X:Cx}
section
def aoF(K:Yd):R2:=λx y H Q=>∃a b xs ys,x=.ref a/\y=.ref b/\dC K H a xs/\dC K H b ys/\xs.length+ ys.length<=YB/\(xs=[]->Q (.ref b) H)/\
 (xs≠[]->ys=[]->Q (.ref a) H)/\(xs≠[]->ys≠[]->∀p,H p=Yb->Q (.ref p) (upd H p (.tup (xs++ys))))
theorem ahP{K:Yd}(hK:X.K=K):Fb X (i5 .Add) (aoF K):=by
 subst hK;intro pins s σ H x y v u Q I rx ry h;obtain⟨a,b,xs,ys,rfl,rfl,ha,hb,hz,q0,q1,q2⟩:=h;by_cases hx:xs=[]
 ·cases rx;cases ry;obtain⟨its,r1,p1,_⟩:=I.tuple ha;obtain⟨its2,r2,p2,_⟩:=I.tuple hb;have e0:its=[]:=r1.nil_iff.mpr hx;obtain⟨⟨cls,dd,data,sl⟩,ho,hc,n,hd⟩:=id p1;obtain⟨⟨cls2,dd2,data2,sl2⟩,ho2,hc2,n2,hd2⟩:=id p2;simp only at hc hd hc2 hd2;subst hc hd hc2 hd2;exact DM ⟨_,ho,rfl⟩ ⟨_,ho2,rfl⟩ y9 CM si rX (rh _ _)
   (tuple_addW0 a b its.toArray its2.toArray n n2 dd dd2 sl sl2 (by simp[e0])) ⟨ho,ho2,.ref b,H,I,rfl,q0 hx⟩
 ·exact ajw pins s σ H _ _ v u Q I rx ry ⟨a,b,xs,ys,rfl,rfl,ha,hb,hx,hz,q1 hx,q2 hx⟩
end
section
variable{K:Yd}
end
end L2
namespace L2
inductive E2 {α0 α1:Sort _} (p:α0->α1->Prop):Prop
 |mk (a0:α0) (a1:α1):p a0 a1->E2 p
inductive E3 {α0 α1 α2:Sort _} (p:α0->α1->α2->Prop):Prop
 |mk (a0:α0) (a1:α1) (a2:α2):p a0 a1 a2->E3 p
inductive E4 {α0 α1 α2 α3:Sort _} (p:α0->α1->α2->α3->Prop):Prop
 |mk (a0:α0) (a1:α1) (a2:α2) (a3:α3):p a0 a1 a2 a3->E4 p
inductive E5 {α0 α1 α2 α3 α4:Sort _} (p:α0->α1->α2->α3->α4->Prop):Prop
 |mk (a0:α0) (a1:α1) (a2:α2) (a3:α3) (a4:α4):p a0 a1 a2 a3 a4->E5 p
inductive E6 {α0 α1 α2 α3 α4 α5:Sort _} (p:α0->α1->α2->α3->α4->α5->Prop):Prop
 |mk (a0:α0) (a1:α1) (a2:α2) (a3:α3) (a4:α4) (a5:α5):p a0 a1 a2 a3 a4 a5->E6 p
inductive E7 {α0 α1 α2 α3 α4 α5 α6:Sort _} (p:α0->α1->α2->α3->α4->α5->α6->Prop):Prop
 |mk (a0:α0) (a1:α1) (a2:α2) (a3:α3) (a4:α4) (a5:α5) (a6:α6):p a0 a1 a2 a3 a4 a5 a6->E7 p
inductive E8 {α0 α1 α2 α3 α4 α5 α6 α7:Sort _} (p:α0->α1->α2->α3->α4->α5->α6->α7->Prop):Prop
 |mk (a0:α0) (a1:α1) (a2:α2) (a3:α3) (a4:α4) (a5:α5) (a6:α6) (a7:α7):p a0 a1 a2 a3 a4 a5 a6 a7->E8 p
inductive E9 {α0 α1 α2 α3 α4 α5 α6 α7 α8:Sort _} (p:α0->α1->α2->α3->α4->α5->α6->α7->α8->Prop):Prop
 |mk (a0:α0) (a1:α1) (a2:α2) (a3:α3) (a4:α4) (a5:α5) (a6:α6) (a7:α7) (a8:α8):p a0 a1 a2 a3 a4 a5 a6 a7 a8->E9 p
inductive E10 {α0 α1 α2 α3 α4 α5 α6 α7 α8 α9:Sort _} (p:α0->α1->α2->α3->α4->α5->α6->α7->α8->α9->Prop):Prop
 |mk (a0:α0) (a1:α1) (a2:α2) (a3:α3) (a4:α4) (a5:α5) (a6:α6) (a7:α7) (a8:α8) (a9:α9):p a0 a1 a2 a3 a4 a5 a6 a7 a8 a9->E10 p
inductive E12 {α0 α1 α2 α3 α4 α5 α6 α7 α8 α9 α10 α11:Sort _} (p:α0->α1->α2->α3->α4->α5->α6->α7->α8->α9->α10->α11->Prop):Prop
 |mk (a0:α0) (a1:α1) (a2:α2) (a3:α3) (a4:α4) (a5:α5) (a6:α6) (a7:α7) (a8:α8) (a9:α9) (a10:α10) (a11:α11):p a0 a1 a2 a3 a4 a5 a6 a7 a8 a9 a10 a11->E12 p
inductive A3 (p0 p1 p2:Prop):Prop
 |mk:p0->p1->p2->A3 p0 p1 p2
inductive A4 (p0 p1 p2 p3:Prop):Prop
 |mk:p0->p1->p2->p3->A4 p0 p1 p2 p3
inductive A5 (p0 p1 p2 p3 p4:Prop):Prop
 |mk:p0->p1->p2->p3->p4->A5 p0 p1 p2 p3 p4
inductive A6 (p0 p1 p2 p3 p4 p5:Prop):Prop
 |mk:p0->p1->p2->p3->p4->p5->A6 p0 p1 p2 p3 p4 p5
inductive A7 (p0 p1 p2 p3 p4 p5 p6:Prop):Prop
 |mk:p0->p1->p2->p3->p4->p5->p6->A7 p0 p1 p2 p3 p4 p5 p6
inductive A8 (p0 p1 p2 p3 p4 p5 p6 p7:Prop):Prop
 |mk:p0->p1->p2->p3->p4->p5->p6->p7->A8 p0 p1 p2 p3 p4 p5 p6 p7
inductive A9 (p0 p1 p2 p3 p4 p5 p6 p7 p8:Prop):Prop
 |mk:p0->p1->p2->p3->p4->p5->p6->p7->p8->A9 p0 p1 p2 p3 p4 p5 p6 p7 p8
inductive A12 (p0 p1 p2 p3 p4 p5 p6 p7 p8 p9 p10 p11:Prop):Prop
 |mk:p0->p1->p2->p3->p4->p5->p6->p7->p8->p9->p10->p11->A12 p0 p1 p2 p3 p4 p5 p6 p7 p8 p9 p10 p11
end L2
namespace L2
variable{a0 a1 a5 a6 a7 a8 a9 a10 a11 a12 a13 a14 a15 a16 a17 a18:TS}{D:Iu}{σ:St}{H:Hp}
theorem xl3{a2:TS}(h:let R1:=aJ a1 a2;aJ a0 R1 D σ H):aJ a0 (aJ a1 a2) D σ H:=h
theorem xl4{a2 a3:TS}(h:let R2:=aJ a2 a3;let R1:=aJ a1 R2;aJ a0 R1 D σ H):aJ a0 (aJ a1 (aJ a2 a3)) D σ H:=h
theorem xl5{a2 a3 a4:TS}(h:let R3:=aJ a3 a4;let R2:=aJ a2 R3;let R1:=aJ a1 R2;aJ a0 R1 D σ H):aJ a0 (aJ a1 (aJ a2 (aJ a3 a4))) D σ H:=h
theorem xl6{a2 a3 a4:TS}(h:let R4:=aJ a4 a5;let R3:=aJ a3 R4;let R2:=aJ a2 R3;let R1:=aJ a1 R2;aJ a0 R1 D σ H):aJ a0 (aJ a1 (aJ a2 (aJ a3 (aJ a4 a5)))) D σ H:=h
theorem xl7{a2 a3 a4:TS}(h:let R5:=aJ a5 a6;let R4:=aJ a4 R5;let R3:=aJ a3 R4;let R2:=aJ a2 R3;let R1:=aJ a1 R2;aJ a0 R1 D σ H):aJ a0 (aJ a1 (aJ a2 (aJ a3 (aJ a4 (aJ a5 a6))))) D σ H:=h
theorem xl8{a2 a3 a4:TS}(h:let R6:=aJ a6 a7;let R5:=aJ a5 R6;let R4:=aJ a4 R5;let R3:=aJ a3 R4;let R2:=aJ a2 R3;let R1:=aJ a1 R2;aJ a0 R1 D σ H):aJ a0 (aJ a1 (aJ a2 (aJ a3 (aJ a4 (aJ a5 (aJ a6 a7)))))) D σ H:=h
theorem ap5{a2 a3 a4:TS}(h:let R9:=aJ a9 a10;let R8:=aJ a8 R9;let R7:=aJ a7 R8;let R6:=aJ a6 R7;let R5:=aJ a5 R6;let R4:=aJ a4 R5;let R3:=aJ a3 R4;let R2:=aJ a2 R3;let R1:=aJ a1 R2;aJ a0 R1 D σ H):aJ a0 (aJ a1 (aJ a2 (aJ a3 (aJ a4 (aJ a5 (aJ a6 (aJ a7 (aJ a8 (aJ a9 a10))))))))) D σ H:=h
theorem ani{a2 a3 a4:TS}(h:let R11:=aJ a11 a12;let R10:=aJ a10 R11;let R9:=aJ a9 R10;let R8:=aJ a8 R9;let R7:=aJ a7 R8;let R6:=aJ a6 R7;let R5:=aJ a5 R6;let R4:=aJ a4 R5;let R3:=aJ a3 R4;let R2:=aJ a2 R3;let R1:=aJ a1 R2;aJ a0 R1 D σ H):aJ a0 (aJ a1 (aJ a2 (aJ a3 (aJ a4 (aJ a5 (aJ a6 (aJ a7 (aJ a8 (aJ a9 (aJ a10 (aJ a11 a12))))))))))) D σ H:=h
theorem apo{a2 a3 a4:TS}(h:let R15:=aJ a15 a16;let R14:=aJ a14 R15;let R13:=aJ a13 R14;let R12:=aJ a12 R13;let R11:=aJ a11 R12;let R10:=aJ a10 R11;let R9:=aJ a9 R10;let R8:=aJ a8 R9;let R7:=aJ a7 R8;let R6:=aJ a6 R7;let R5:=aJ a5 R6;let R4:=aJ a4 R5;let R3:=aJ a3 R4;let R2:=aJ a2 R3;let R1:=aJ a1 R2;aJ a0 R1 D σ H):aJ a0 (aJ a1 (aJ a2 (aJ a3 (aJ a4 (aJ a5 (aJ a6 (aJ a7 (aJ a8 (aJ a9 (aJ a10 (aJ a11 (aJ a12 (aJ a13 (aJ a14 (aJ a15 a16))))))))))))))) D σ H:=h
theorem apA{a2 a3 a4:TS}(h:let R17:=aJ a17 a18;let R16:=aJ a16 R17;let R15:=aJ a15 R16;let R14:=aJ a14 R15;let R13:=aJ a13 R14;let R12:=aJ a12 R13;let R11:=aJ a11 R12;let R10:=aJ a10 R11;let R9:=aJ a9 R10;let R8:=aJ a8 R9;let R7:=aJ a7 R8;let R6:=aJ a6 R7;let R5:=aJ a5 R6;let R4:=aJ a4 R5;let R3:=aJ a3 R4;let R2:=aJ a2 R3;let R1:=aJ a1 R2;aJ a0 R1 D σ H):aJ a0 (aJ a1 (aJ a2 (aJ a3 (aJ a4 (aJ a5 (aJ a6 (aJ a7 (aJ a8 (aJ a9 (aJ a10 (aJ a11 (aJ a12 (aJ a13 (aJ a14 (aJ a15 (aJ a16 (aJ a17 a18))))))))))))))))) D σ H:=h
theorem apZ{a2 a3 a4 a19 a20:TS}(h:let R19:=aJ a19 a20;let R18:=aJ a18 R19;let R17:=aJ a17 R18;let R16:=aJ a16 R17;let R15:=aJ a15 R16;let R14:=aJ a14 R15;let R13:=aJ a13 R14;let R12:=aJ a12 R13;let R11:=aJ a11 R12;let R10:=aJ a10 R11;let R9:=aJ a9 R10;let R8:=aJ a8 R9;let R7:=aJ a7 R8;let R6:=aJ a6 R7;let R5:=aJ a5 R6;let R4:=aJ a4 R5;let R3:=aJ a3 R4;let R2:=aJ a2 R3;let R1:=aJ a1 R2;aJ a0 R1 D σ H):aJ a0 (aJ a1 (aJ a2 (aJ a3 (aJ a4 (aJ a5 (aJ a6 (aJ a7 (aJ a8 (aJ a9 (aJ a10 (aJ a11 (aJ a12 (aJ a13 (aJ a14 (aJ a15 (aJ a16 (aJ a17 (aJ a18 (aJ a19 a20))))))))))))))))))) D σ H:=h
end L2
namespace L2
open PySem PySem.Spec PyProof.Rows
variable{N:List Ym}{u:TS}{D:Iu}{σ:St}{H:Hp}
theorem iw{P:List Ym}{sc:jS}(a:sc.kind=.function:=by rfl)(b:sc.isCoroutine=false:=by rfl)(c:sc.isGenerator=false:=by rfl)(d:N.Nodup:=by decide +kernel)(e:N.take P.length=P:=by rfl)(f:∀x∈P,sc.names.lookup x=Ya .local\/sc.names.lookup x=Ya .cell:=by decide +kernel)(g:∀y∈sc.names,y.2≠.free:=by decide +kernel):aF N P sc:=⟨a,b,c,d,e,f,g⟩
def Tg(_:YI)(_:YV)(_:Ym->Option Ye)(_:YT):Prop:=True
abbrev nI(K:Yd)(x:Ym)(f:Yc):Prop:=PySem.W.nsIn K Y3 x=Ya (Ya (.ref f))
def qa:List Ym->(List Ye->Prop)->Prop
 |[],p=>p []
 |_::r,p=>∀v,qa r λus=>p (v::us)
theorem aj8:∀{ps:List Ym} {p:List Ye->Prop},qa ps p->∀us:List Ye,us.length=ps.length->p us
 |[],_,h,[],_=>h
 |_::_,_,h,v::us,e=>aj8 (h v) us (zk e)
section
variable{P:YI}{w:YV}{K:Yd}{mg:Ym->Option Ye}{base h:YT}{x qual:Ym}{st:YJ}{f:Yc}{fd:Yt}{ps:List Ym}{k:Nat}{sp:Sp}
theorem cB.oj(F:cB K x qual st f fd)(S:aF N ps (az st))
  (hbody:∀(cdv:Ye) (A:Y7) (outer:List m4) (s:Yl) (H:Hp) (vs:List V) (Q:VK) (E:XK),gJ k (A.deeper ?BR)->(A.deeper ?BR).units+ 64<hV->(A.deeper ?BR).units<hV->(A.deeper ?BR).units+ 1<hV->sp vs H Q E->
   ∃t,PSs (Vo bJ P w K mg base N qual (az st) f cdv A outer s H E).nox (gK st) t/\t {nx:=λ_ H'=>Q .non H',rt:=Q} (pJ N vs) H)
  (len:∀vs H Q E,sp vs H Q E->vs.length=ps.length:=by intro _ _ _ _ h;(repeat(cases h;rename_i h))<;>(subst_vars;rfl)):aG P w K mg base bJ (k+ 1) f fd ps sp:=F.ok S len λc A o s H vs Q E hr h=>hbody c A o s H vs Q E hr hr.units hr.units0 (Ql hr) h
theorem cB.bq(F:cB K x qual st f fd)(h:∀(kV doc pm:Ye) (an:Option Yc) (cdv ct:Ye),qa ps λus=>Cf ?A4 ⟨us,[]⟩=pure (ps.zip us):=by(repeat refine λ_=>?_);rfl):Binds K fd ps []:=F.binds λa b c d e g us hl=>aj8 (h a b c d e g) us hl
theorem cB.cal(F:cB K x qual st f fd)(X:K.In h)(G:h.Ns Y3 mg)(a:nI K x f)(q:∀(kV doc pm:Ye) (an:Option Yc) (cdv ct:Ye),qa ps λus=>Cf ?A4 ⟨us,[]⟩=pure (ps.zip us):=by(repeat refine λ_=>?_);rfl):iU K mg x f fd ps:=⟨PySem.W.mg_of X G a,F.kp,F.bq q⟩
end
theorem ln1{α:Type}:∀{us:List α},us.length=1->∃a0,us=[a0]|[a0],_=>⟨a0,rfl⟩
theorem ln3{α:Type}:∀{us:List α},us.length=3->∃a0 a1 a2,us=[a0,a1,a2]|[a0,a1,a2],_=>⟨a0,a1,a2,rfl⟩
theorem apH{a b c:TS}(h:∀R:TS,R=aJ c u->aJ a (aJ b R) D σ H):aJ a (aJ b (aJ c u)) D σ H:=h _ rfl
theorem aql{R:TS}(e:R=u)(h:u D σ H):R D σ H:=e▸h
end L2
end
namespace K68
open PySem L2
noncomputable def ik(i:Nat):YJ:=zC.main.body.getD i (.Pass ⟨0,0,0,0⟩)
noncomputable abbrev Qn:YJ:=ik 6
noncomputable abbrev ahU:YJ:=ik 7
noncomputable abbrev Ia:YJ:=ik 8
noncomputable abbrev Ay:YJ:=ik 17
noncomputable abbrev Be:YJ:=ik 14
noncomputable abbrev Dr:YJ:=ik 15
noncomputable abbrev uX:YJ:=ik 16
noncomputable abbrev abO:YJ:=ik 10
noncomputable abbrev qu:YJ:=ik 12
noncomputable abbrev QK:YJ:=ik 9
noncomputable abbrev oN:YJ:=bF (ik 18) 0
noncomputable abbrev vq:YJ:=bF (ik 18) 1
noncomputable abbrev qH:YJ:=bF (ik 18) 2
noncomputable abbrev lH:YJ:=bF (ik 18) 4
noncomputable abbrev qp:YJ:=bF (ik 18) 5
noncomputable abbrev qD:YJ:=bF (ik 18) 6
noncomputable abbrev mZ:YJ:=bF (ik 18) 10
noncomputable abbrev qw:YJ:=bF (ik 18) 11
noncomputable abbrev pZ:YJ:=bF (ik 18) 3
noncomputable abbrev lL:YJ:=bF (ik 18) 8
noncomputable abbrev xO:YJ:=ik 31
noncomputable abbrev IW:YJ:=ik 37
noncomputable abbrev Qf:YJ:=ik 33
noncomputable abbrev Pz:YJ:=ik 35
noncomputable abbrev Qj:YJ:=ik 36
noncomputable abbrev Lk:YJ:=ik 51
noncomputable abbrev Ls:YJ:=ik 52
noncomputable abbrev Ae:YJ:=ik 53
noncomputable abbrev Mr:YJ:=ik 54
noncomputable abbrev rT:YJ:=ik 56
noncomputable abbrev agJ:YJ:=ik 58
noncomputable abbrev vD:YJ:=ik 59
noncomputable abbrev QB:YJ:=ik 60
noncomputable abbrev Lw:YJ:=ik 65
noncomputable abbrev DR:YJ:=ik 66
noncomputable abbrev vG:YJ:=ik 67
noncomputable abbrev Bc:YJ:=ik 68
noncomputable abbrev qb:YJ:=bF (ik 18) 9
noncomputable abbrev qG:YJ:=bF (ik 18) 7
noncomputable abbrev pY:YJ:=bF (ik 49) 0
noncomputable abbrev yw:YJ:=bF (ik 49) 1
noncomputable abbrev yD:YJ:=bF (ik 49) 3
noncomputable abbrev Ai:YJ:=bF (ik 49) 5
noncomputable abbrev yc:YJ:=bF (ik 49) 7
noncomputable abbrev vM:YJ:=bF (ik 49) 6
noncomputable abbrev sH:YJ:=bF (ik 63) 0
noncomputable abbrev oE:YJ:=bF (ik 63) 3
noncomputable abbrev xQ:YJ:=bF (ik 63) 7
noncomputable abbrev Wi:YJ:=ik 11
noncomputable abbrev Dh:YJ:=bF (ik 63) 5
noncomputable abbrev Ag:YJ:=bF (ik 63) 8
noncomputable abbrev rR:YJ:=bF (ik 63) 10
noncomputable abbrev yE:YJ:=bF (ik 63) 9
noncomputable abbrev yj:YJ:=bF (ik 63) 11
noncomputable abbrev yq:YJ:=bF (ik 63) 12
noncomputable abbrev DQ:YJ:=bF (ik 63) 13
noncomputable abbrev yu:YJ:=bF ?E7 20
noncomputable abbrev vp:YJ:=bF ?E7 26
noncomputable abbrev qm:YJ:=bF ?E7 10
noncomputable abbrev sy:YJ:=bF ?E7 21
noncomputable abbrev pA:YJ:=bF ?E7 11
noncomputable abbrev Ak:YJ:=bF ?E7 12
noncomputable abbrev yt:YJ:=bF ?E7 13
noncomputable abbrev Af:YJ:=bF ?E7 14
noncomputable abbrev qL:YJ:=bF ?E7 15
noncomputable abbrev yh:YJ:=bF ?E7 6
noncomputable abbrev rY:YJ:=bF ?E7 8
noncomputable abbrev Ba:YJ:=bF ?E7 2
noncomputable abbrev uW:YJ:=bF ?E7 3
noncomputable abbrev sW:YJ:=ik 71
noncomputable abbrev sV:YJ:=bF ?E7 18
noncomputable abbrev m6:YJ:=bF ?E7 19
noncomputable abbrev jY:YJ:=bF ?E7 17
noncomputable abbrev qz:YJ:=bF ?E7 16
noncomputable abbrev Eh:YJ:=bF ?E7 7
noncomputable abbrev Ji:YJ:=ik 3
noncomputable abbrev Mj:YJ:=ik 4
noncomputable abbrev Ri:YJ:=ik 5
noncomputable abbrev sI:YJ:=bF ?E7 0
noncomputable abbrev z6:YJ:=ik 75
noncomputable abbrev oG:YJ:=bF ?E7 9
noncomputable abbrev An:YJ:=bF ?E7 4
noncomputable abbrev DK:YJ:=bF ?E7 5
noncomputable abbrev xU:YJ:=bF ?E7 25
noncomputable abbrev Dz:YJ:=ik 77
noncomputable abbrev xX:YJ:=ik 76
noncomputable abbrev jG:YJ:=ik 78
noncomputable abbrev pq:YJ:=ik 79
noncomputable abbrev kh:YJ:=ik 80
noncomputable abbrev ju:YJ:=ik 81
noncomputable abbrev u6:YJ:=ik 74
noncomputable abbrev Ut:YJ:=ik 82
def Ws(K:Yd)(P_mk:Yc):Sp:=λvs H Q _=>E2 fun(a:Yc) (ns:List Int)=>vs=?BV/\(A4 (bK K H a ?A1) (ns.length<=63) (H P_mk=Ya (.tbl #[])) (∀H',Q (.bl true) H'))
theorem ajT{K:Yd}{x qual:Ym}{st:YJ}{f c:Yc}{oc:Ye}{od an:Option Yc}{osl:Array ?EV}{kV doc pm ct:Ye}(l:K.lookup f=Ya ⟨oc,od,.func (d6 x qual (jP st) (gK st) (az st) .none kV doc pm an (.ref c) ct),osl⟩)(h:mh K (.ref c) qual=true):agC K x qual st f (d6 x qual (jP st) (gK st) (az st) .none kV doc pm an (.ref c) ct) c:=⟨⟨oc,od,kV,doc,pm,an,ct,osl,rfl,l,h⟩⟩
theorem apJ{l:GL}{q:YI}{loose:List Ym}{XP:(Ym->Option Ye)->YT->Prop}{YP:YV->YT->Prop}{d:DefRec}{K:Params->Yd}{c P:Yc}(hn:l.most=Ya 63)(hdf:d.params.defaults=[])
  (hY:∀(w:YV) (h:YT),YP w h->(K w.params).In h/\∀t∈[P],h.get? t=Ya (oQ #[])) (hK:∀w:YV,FG (K w.params) c P=true/\(K w.params).lookup P=Yb)
  (F:∀(w:YV) (mg:Ym->Option Ye) (fa:Yc) (h:YT),(K w.params).In h->h.Ns Y3 mg->mg d.name=Ya (.ref fa)->
   ∃fd:Yt,(∀(s:Yl) (u:Ye),BF s fd ⟨[u],[]⟩ [("_law_script",u)])/\∀base:YT,(K w.params).In base->base.Ns Y3 mg->Wv base mg->aG l.prog w (K w.params) mg base bJ 16 fa fd ["_law_script"] (Ws (K w.params) P)):
  IE q loose XP YP l.row.toRowW d [] (λf vs=>PySem.call f vs):=
 L2.agu (n:=63) (k:=16) (x:="_law_script") (tabs:=[(c,P)]) (sp:=λw=>Ws (K w.params) P) hn ?B hdf ⟨rfl,by decide,by decide⟩ hY (λw q hq=>by rw[YU.mp hq];exact hK w) F (λ_ _ a ns hl hO hS=>⟨a,ns,rfl,hS,hl,hO.2 P ?N,λ_=>rfl⟩) λ_ _ _ _ z=>z
def AM:Prop:=∀{l:W.OpenLaw} {w:YV} {K:W.Frag} {h:YT} {mg:Ym->Option Ye} {fa f_0 f_1 f_2 f_3 f_4 f_5 f_6 f_7 f_8 f_9 f_10 f_11 f_12 f_13 f_14 f_15 f_16 f_17 f_18 f_19 f_20 f_21 f_22 f_23 f_24 f_25 f_26 f_27 f_28 f_29 f_30 f_31 f_32 f_33 f_34 f_35 f_36 f_37 f_38 f_39 f_40 f_41 f_42 f_43 f_44 f_45 f_46 f_47 f_48 f_49 f_50 f_51 f_52 f_53 f_54 f_55 f_56 f_57 f_58 f_59 f_60 f_61 f_62 f_63 f_64 f_65 f_66 f_67 f_68 f_69 f_70 f_71 f_72 f_73 f_74 f_75 f_76 f_77 f_78 f_79 f_80 f_81 f_82 f_83 f_84 f_85 f_86 f_87 f_88 f_89 f_90 f_91 bZ bf ig fK abF P_mk:Yc} {d_0 d_1 d_2 d_3 d_4 d_5 d_6 d_7 d_8 d_9 d_10 d_11 d_12 d_13 d_14 d_15 d_16 d_17 d_18 d_19 d_20 d_21 d_22 d_23 d_24 d_25 d_26 d_27 d_28 d_29 d_30 d_31 d_32 d_33 d_34 d_35 d_36 d_37 d_38 d_39 d_40 d_41 d_42 d_43 d_44 d_45 d_46 d_47 d_48 d_49 d_50 d_51 d_52 d_53 d_54 d_55 d_56 d_57 d_58 d_59 d_60 d_61 d_62 d_63 d_64 d_65 d_66 d_67 d_68 d_69 d_70 d_71 d_72 d_73 d_74 d_75 d_76 d_77 d_78 d_79 d_80 d_81 d_82 d_83 d_84 d_85 d_86 d_87 d_88 d_89 d_90 d_91:Yt} (X:K.In h) (G:h.Ns Y3 mg) (hfa:mg "law"=Ya (.ref fa))
  {oU:ml} {dX:ml} {fJ:ml} {jM iM:ml} {tk_LAST_HAND:ml}
  (a_0:nI K "bit_of" f_0)
  (a_1:nI K "has" f_1)
  (a_2:nI K "hands_of" f_2)
  (a_3:nI K "own_copy" f_3)
  (a_4:nI K "is_greater" f_4)
  (a_5:nI K "ballot_of" f_5)
  (a_6:nI K "greatest_yes" f_6)
  (a_7:nI K "many" f_7)
  (a_8:nI K "more_than_half" f_8)
  (a_9:nI K "set_of" f_9)
  (a_20:nI K "hands_among" f_20)
  (a_21:nI K "unpacked" f_21)
  (a_22:nI K "joined" f_22)
  (a_23:nI K "common" f_23)
  (a_24:nI K "packed" f_24)
  (a_25:nI K "rank_of" f_25)
  (a_26:nI K "by_rank" f_26)
  (a_27:nI K "first_open" f_27)
  (a_28:nI K "name_at" f_28)
  (a_29:nI K "first_to_take" f_29)
  (a_30:nI K "run" f_30)
  (a_31:nI K "least_asking" f_31)
  (a_32:nI K "placed" f_32)
  (a_33:nI K "base_of" f_33)
  (a_34:nI K "places_of" f_34)
  (a_35:nI K "calls_beyond" f_35)
  (a_36:nI K "first_plan" f_36)
  (a_48:nI K "least" f_48)
  (a_69:nI K "names_lacking" f_69)
  (a_75:nI K "is_whole" f_75)
  (a_76:nI K "is_hand" f_76)
  (a_77:nI K "is_set" f_77)
  (a_79:nI K "_law_hands" f_79)
  (a_84:nI K "_law_bits" f_84)
  (a_85:nI K "_law_rounds" f_85)
  (a_86:nI K "_law_plan_handed_on" f_86)
  (a_87:nI K "_law_out_and_in" f_87)
  (a_88:nI K "_law_heard_outside" f_88)
  (a_89:nI K "_law_out_by_the_same" f_89)
  (a_90:nI K "_law_cell_at" f_90)
  (a_91:nI K "law" f_91)
  (Xh:nI K "Change" bZ)
  (afX:nI K "Hand" bf)
  (ac9:nI K "Known" ig)
  (ahd:nI K "Page" fK)
  (Hv:W.nsIn K Y3 "LAST_HAND"=Ya (Ya (.int 62 tk_LAST_HAND)))
  (ah2:W.nsIn K Y3 "bool"=Ya Yb)
  (agd:W.nsIn K Y3 "dict"=Ya Yb)
  (akt:W.nsIn K Y3 "int"=Ya Yb)
  (J4:W.nsIn K Y3 "isinstance"=Ya Yb)
  (akg:W.nsIn K Y3 "len"=Ya Yb)
  (agn:W.nsIn K Y3 "list"=Ya Yb)
  (ake:W.nsIn K Y3 "max"=Ya Yb)
  (akm:W.nsIn K Y3 "min"=Ya Yb)
  (adC:W.nsIn K Y3 "range"=Ya Yb)
  (aka:W.nsIn K Y3 "set"=Ya Yb)
  (Xm:W.nsIn K Y3 "sorted"=Ya Yb)
  (akC:W.nsIn K Y3 "sum"=Ya Yb)
  (adi:W.nsIn K Y3 "tuple"=Ya Yb)
  (jB:bY K bZ "begin" f_11)
  (dJ:bY K bZ "gathers" f_15)
  (fX:bY K bZ "has_enough" f_19)
  (iK:bY K bZ "made_by" f_37)
  (iQ:bY K bZ "message" f_12)
  (iR:bY K bZ "propose" f_38)
  (iJ:bY K bZ "receive" f_18)
  (fU:bY K bZ "see_ballot" f_13)
  (cW:bY K bZ "see_votes" f_16)
  (iT:bY K bZ "see_yes" f_14)
  (iH:bY K bZ "settled" f_17)
  (gY:bY K bf "check_free" f_80)
  (d8:bY K bf "check_in" f_66)
  (dB:bY K bf "come" f_82)
  (je:bY K bf "come_new" f_70)
  (dM:bY K bf "enter" f_61)
  (eE:bY K bf "events" f_56)
  (dO:bY K bf "go_by" f_63)
  (fM:bY K bf "go_out" f_62)
  (bC:bY K bf "hear" f_74)
  (iI:bY K bf "hear_away" f_73)
  (gH:bY K bf "hear_fellow" f_71)
  (eQ:bY K bf "hear_standing" f_72)
  (jF:bY K bf "leave" f_81)
  (aY:bY K bf "letter" f_65)
  (dw:bY K bf "note_taken" f_60)
  (bR:bY K bf "renew" f_67)
  (dh:bY K bf "settle" f_64)
  (cN:bY K bf "standing" f_59)
  (cY:bY K bf "stands_in" f_58)
  (cT:bY K bf "stopped" f_57)
  (jW:bY K bf "strays" f_83)
  (cR:bY K bf "suspect" f_68)
  (fG:bY K ig "floor" f_41)
  (jf:bY K ig "learn" f_40)
  (iD:bY K ig "listed" f_44)
  (iY:bY K ig "merge" f_43)
  (mj:bY K ig "sure" f_42)
  (jZ:bY K fK "finish" f_54)
  (iW:bY K fK "keep_new" f_51)
  (cu:bY K fK "kept_calls" f_46)
  (j9:bY K fK "let_go" f_47)
  (jX:bY K fK "listen" f_52)
  (lU:bY K fK "piece" f_50)
  (fj:bY K fK "report" f_53)
  (oX:bY K fK "rows" f_55)
  (nU:bY K fK "step" f_49)
  (Ez:Mk K bZ f_10)
  (nJ:Mk K bf f_78)
  (Gj:Mk K ig f_39)
  (Qh:Mk K fK f_45)
  (F_0:cB K "bit_of" "bit_of" Qn f_0 d_0)
  (F_1:cB K "has" "has" ahU f_1 d_1)
  (F_2:cB K "hands_of" "hands_of" Ia f_2 d_2)
  (F_3:cB K "own_copy" "own_copy" Ay f_3 d_3)
  (F_4:cB K "is_greater" "is_greater" Be f_4 d_4)
  (F_5:cB K "ballot_of" "ballot_of" Dr f_5 d_5)
  (F_6:cB K "greatest_yes" "greatest_yes" uX f_6 d_6)
  (F_7:cB K "many" "many" abO f_7 d_7)
  (F_8:cB K "more_than_half" "more_than_half" qu f_8 d_8)
  (F_9:cB K "set_of" "set_of" QK f_9 d_9)
  (F_10:cB K "__init__" "Change.__init__" oN f_10 d_10)
  (F_11:cB K "begin" "Change.begin" vq f_11 d_11)
  (F_12:cB K "message" "Change.message" qH f_12 d_12)
  (F_13:cB K "see_ballot" "Change.see_ballot" lH f_13 d_13)
  (F_14:cB K "see_yes" "Change.see_yes" qp f_14 d_14)
  (F_15:cB K "gathers" "Change.gathers" qD f_15 d_15)
  (F_16:cB K "see_votes" "Change.see_votes" mZ f_16 d_16)
  (F_17:cB K "settled" "Change.settled" qw f_17 d_17)
  (F_18:cB K "receive" "Change.receive" pZ f_18 d_18)
  (F_19:cB K "has_enough" "Change.has_enough" lL f_19 d_19)
  (F_20:cB K "hands_among" "hands_among" xO f_20 d_20)
  (F_21:cB K "unpacked" "unpacked" IW f_21 d_21)
  (F_22:cB K "joined" "joined" Qf f_22 d_22)
  (F_23:cB K "common" "common" Pz f_23 d_23)
  (F_24:cB K "packed" "packed" Qj f_24 d_24)
  (F_25:cB K "rank_of" "rank_of" Lk f_25 d_25)
  (F_26:cB K "by_rank" "by_rank" Ls f_26 d_26)
  (F_27:cB K "first_open" "first_open" Ae f_27 d_27)
  (F_28:cB K "name_at" "name_at" Mr f_28 d_28)
  (F_29:cB K "first_to_take" "first_to_take" rT f_29 d_29)
  (F_30:cB K "run" "run" agJ f_30 d_30)
  (F_31:cB K "least_asking" "least_asking" vD f_31 d_31)
  (F_32:cB K "placed" "placed" QB f_32 d_32)
  (F_33:cB K "base_of" "base_of" Lw f_33 d_33)
  (F_34:cB K "places_of" "places_of" DR f_34 d_34)
  (F_35:cB K "calls_beyond" "calls_beyond" vG f_35 d_35)
  (F_36:cB K "first_plan" "first_plan" Bc f_36 d_36)
  (F_37:cB K "made_by" "Change.made_by" qb f_37 d_37)
  (F_38:cB K "propose" "Change.propose" qG f_38 d_38)
  (F_39:cB K "__init__" "Known.__init__" pY f_39 d_39)
  (F_40:cB K "learn" "Known.learn" yw f_40 d_40)
  (F_41:cB K "floor" "Known.floor" yD f_41 d_41)
  (F_42:cB K "sure" "Known.sure" Ai f_42 d_42)
  (F_43:cB K "merge" "Known.merge" yc f_43 d_43)
  (F_44:cB K "listed" "Known.listed" vM f_44 d_44)
  (F_45:cB K "__init__" "Page.__init__" sH f_45 d_45)
  (F_46:cB K "kept_calls" "Page.kept_calls" oE f_46 d_46)
  (F_47:cB K "let_go" "Page.let_go" xQ f_47 d_47)
  (F_48:cB K "least" "least" Wi f_48 d_48)
  (F_49:cB K "step" "Page.step" Dh f_49 d_49)
  (F_50:Mi K "piece" "Page.piece" Ag f_50 d_50 [.int 0 oU,.none])
  (F_51:cB K "keep_new" "Page.keep_new" rR f_51 d_51)
  (F_52:cB K "listen" "Page.listen" yE f_52 d_52)
  (F_53:cB K "report" "Page.report" yj f_53 d_53)
  (F_54:cB K "finish" "Page.finish" yq f_54 d_54)
  (F_55:cB K "rows" "Page.rows" DQ f_55 d_55)
  (F_56:cB K "events" "Hand.events" yu f_56 d_56)
  (F_57:cB K "stopped" "Hand.stopped" vp f_57 d_57)
  (F_58:cB K "stands_in" "Hand.stands_in" qm f_58 d_58)
  (F_59:cB K "standing" "Hand.standing" sy f_59 d_59)
  (F_60:cB K "note_taken" "Hand.note_taken" pA f_60 d_60)
  (F_61:cB K "enter" "Hand.enter" Ak f_61 d_61)
  (F_62:cB K "go_out" "Hand.go_out" yt f_62 d_62)
  (F_63:cB K "go_by" "Hand.go_by" Af f_63 d_63)
  (F_64:cB K "settle" "Hand.settle" qL f_64 d_64)
  (F_65:Mi K "letter" "Hand.letter" yh f_65 d_65 [.int 0 dX,.none])
  (F_66:cB K "check_in" "Hand.check_in" rY f_66 d_66)
  (F_67:Mi K "renew" "Hand.renew" Ba f_67 d_67 [.int 1 fJ])
  (F_68:cB K "suspect" "Hand.suspect" uW f_68 d_68)
  (F_69:cB K "names_lacking" "names_lacking" sW f_69 d_69)
  (F_70:cB K "come_new" "Hand.come_new" sV f_70 d_70)
  (F_71:cB K "hear_fellow" "Hand.hear_fellow" m6 f_71 d_71)
  (F_72:cB K "hear_standing" "Hand.hear_standing" jY f_72 d_72)
  (F_73:cB K "hear_away" "Hand.hear_away" qz f_73 d_73)
  (F_74:cB K "hear" "Hand.hear" Eh f_74 d_74)
  (F_75:cB K "is_whole" "is_whole" Ji f_75 d_75)
  (F_76:cB K "is_hand" "is_hand" Mj f_76 d_76)
  (F_77:cB K "is_set" "is_set" Ri f_77 d_77)
  (F_78:Mi K "__init__" "Hand.__init__" sI f_78 d_78 [.int 1 jM,.int 8 iM])
  (F_79:cB K "_law_hands" "_law_hands" z6 f_79 d_79)
  (F_80:cB K "check_free" "Hand.check_free" oG f_80 d_80)
  (F_81:cB K "leave" "Hand.leave" An f_81 d_81)
  (F_82:cB K "come" "Hand.come" DK f_82 d_82)
  (F_83:cB K "strays" "Hand.strays" xU f_83 d_83)
  (F_84:cB K "_law_bits" "_law_bits" Dz f_84 d_84)
  (F_85:cB K "_law_rounds" "_law_rounds" xX f_85 d_85)
  (F_86:cB K "_law_plan_handed_on" "_law_plan_handed_on" jG f_86 d_86)
  (F_87:cB K "_law_out_and_in" "_law_out_and_in" pq f_87 d_87)
  (F_88:cB K "_law_heard_outside" "_law_heard_outside" kh f_88 d_88)
  (F_89:cB K "_law_out_by_the_same" "_law_out_by_the_same" ju f_89 d_89)
  (F_90:cB K "_law_cell_at" "_law_cell_at" u6 f_90 d_90)
  (F_91:cB K "law" "law" Ut f_91 d_91)
  (aL:VH K bZ)
  (aC:Rx K bf)
  (bO:abx K ig)
  (bj:U3 K fK)
  (FC:agC K "settle" "Hand.settle" qL f_64 d_64 abF)
  (hcd:W.codeHdIn K abF P_mk=true),
  ∃fd:Yt,(∀(s:Yl) (v:Ye),BF s fd ⟨[v],[]⟩ [("_law_script",v)])/\∀base:YT,K.In base->base.Ns Y3 mg->Wv base mg->aG l.prog w K mg base bJ 16 fa fd ["_law_script"] (Ws K P_mk)
end K68
def Zq.D(_:K68.AM)(p:Prop):Prop:=p
theorem Zq.dep(h:K68.AM){p:Prop}(x:Zq.D h p):p:=x
theorem Zq.un{h:K68.AM}{p:Prop}(x:p):Zq.D h p:=x
section
open Lean in
local macro_rules | `(#synth $f $k*) => return mkNullNode (<- k.mapM λi => `(def $(mkIdent (.mkSimple s!"tw{(`PySem.Challenge.hd_K68 ++ .mkSimple s!"{f.raw.getId}_{i.raw.toNat}").hash}")) := Nat))
namespace PySem.W.Fast
#synth heap 39 46 1471
#synth tree 47 132 153 249 264 279 294 309 324 339 354 376 427 452 531 560 589 639 705 778 902 982 1023 1236 1323 1414 1470
#synth view 39
#synth sts 49 133 154 250 265 280 295 310 325 340 355 377 428 453 532 561 590 640 706 779 986 1024 1418
#synth o 43 45 46 49 51 53 54 55 56 57 58 60 61 62 63 64 65 67 68 69 70 71 72 74 75 76 77 78 79 81 82 83 84 85 86 88 89 90 91 92 93 95 96 97 98 100 101 102 103 104 105 107 108 109 110 111 112 114 115 116 117 118 119 121 122 123 124 125 126 128 129 130 131 132 133 135 137 138 139 140 141 142 144 145 146 147 148 149 151 152 153 154 156 157 158 159 161 162 163 165 166 167 168 169 170 172 173 174 175 176 177 179 180 181 182 183 184 186 187 188 189 190 191 193 194 195 196 197 198 200 201 202 203 204 205 207 208 209 210 211 212 214 215 216 217 219 220 221 222 223 224 226 227 228 229 231 232 233 234 235 236 238 239 240 241 242 243 244 245 246 247 248 249 250 252 253 254 255 257 258 259 260 261 262 263 264 265 267 268 269 270 271 273 274 275 276 277 278 279 280 282 283 284 285 286 288 289 290 291 292 293 294 295 297 298 299 300 301 303 304 305 306 307 308 309 310 312 313 314 315 316 318 319 320 321 322 323 324 325 327 328 329 330 331 333 334 335 336 337 338 339 340 342 343 344 345 346 348 349 350 351 352 353 354 355 357 358 359 360 361 363 364 365 367 368 369 370 371 372 373 374 375 376 377 379 380 381 382 383 385 386 387 389 390 391 392 393 394 395 396 397 398 399 401 402 403 404 405 406 408 409 410 411 412 413 415 416 417 418 420 421 422 423 425 426 427 428 430 432 433 434 435 437 438 439 440 442 443 444 445 447 448 449 450 451 452 453 455 456 457 458 460 461 462 464 465 466 467 468 469 471 472 473 474 475 476 478 479 480 481 482 483 485 486 487 488 489 490 492 493 494 495 496 497 499 500 501 502 503 504 506 507 508 509 510 511 513 514 515 516 517 518 520 521 522 523 524 525 526 527 528 529 530 531 532 534 535 536 537 538 540 541 542 544 545 546 547 548 549 551 552 553 554 555 556 557 558 559 560 561 563 564 565 566 567 569 570 571 573 574 575 576 577 578 580 581 582 583 584 585 586 587 588 589 590 592 593 594 595 596 598 599 600 602 603 604 605 606 607 609 610 611 612 613 614 615 616 617 618 619 621 622 623 624 625 626 628 629 630 631 632 633 635 636 637 638 639 640 642 643 644 645 647 648 649 651 652 653 654 656 657 658 659 660 661 663 664 665 666 667 668 670 671 672 673 674 675 677 678 679 680 682 683 684 685 686 687 689 690 691 692 694 695 696 697 698 699 700 701 702 703 704 705 706 708 710 711 712 713 714 715 717 718 719 720 721 722 724 725 726 727 728 729 731 732 733 734 735 736 738 739 740 741 742 743 745 746 747 748 749 750 752 753 754 755 757 758 759 760 762 763 764 765 767 768 769 770 771 772 774 775 776 777 778 779 781 782 783 784 786 787 788 790 791 792 793 794 795 797 798 799 800 801 802 804 805 806 807 808 809 811 812 813 814 815 816 818 819 820 821 822 823 825 826 827 828 830 831 832 833 834 835 837 838 839 840 841 843 844 845 846 848 849 850 851 852 853 855 856 857 858 859 860 862 863 864 865 867 868 869 870 872 873 874 875 877 878 879 880 881 882 884 885 886 887 888 889 891 892 893 894 895 896 897 898 899 900 901 902 904 905 906 907 909 910 911 913 914 915 916 917 918 920 921 922 923 924 925 927 928 929 930 931 932 934 935 936 937 938 939 941 942 943 944 945 946 948 949 950 951 953 954 955 956 957 958 960 961 962 963 964 966 967 968 969 971 972 973 974 975 976 978 979 980 981 982 986 988 990 991 992 993 994 995 997 998 999 1000 1002 1003 1004 1005 1006 1007 1009 1010 1011 1012 1014 1015 1016 1017 1018 1019 1021 1022 1023 1024 1026 1027 1028 1029 1031 1032 1033 1034 1036 1037 1038 1039 1040 1041 1043 1044 1045 1046 1047 1048 1049 1051 1052 1053 1054 1055 1056 1058 1059 1060 1061 1062 1063 1065 1066 1067 1068 1069 1070 1072 1073 1074 1075 1076 1077 1078 1080 1081 1082 1083 1084 1085 1087 1088 1089 1090 1091 1092 1094 1095 1096 1097 1098 1099 1101 1102 1103 1104 1105 1106 1108 1109 1110 1111 1112 1113 1115 1116 1117 1118 1120 1121 1122 1123 1124 1125 1127 1128 1129 1130 1131 1132 1134 1135 1136 1137 1138 1139 1141 1142 1143 1144 1145 1146 1148 1149 1150 1151 1152 1153 1155 1156 1157 1158 1159 1160 1162 1163 1164 1165 1166 1167 1169 1170 1171 1172 1173 1174 1176 1177 1178 1179 1180 1181 1183 1184 1185 1186 1187 1188 1190 1191 1192 1193 1194 1195 1197 1198 1199 1200 1201 1202 1204 1205 1206 1207 1208 1209 1211 1212 1213 1214 1215 1216 1218 1219 1220 1221 1222 1223 1225 1226 1227 1228 1229 1230 1231 1232 1233 1234 1235 1236 1238 1239 1240 1241 1243 1244 1245 1246 1248 1249 1250 1251 1252 1253 1255 1256 1257 1258 1259 1260 1261 1263 1264 1265 1266 1267 1268 1270 1271 1272 1273 1274 1275 1277 1278 1279 1280 1281 1282 1284 1285 1286 1287 1288 1289 1290 1292 1293 1294 1295 1296 1297 1299 1300 1301 1302 1303 1304 1306 1307 1308 1309 1310 1311 1313 1314 1315 1316 1317 1318 1320 1321 1322 1323 1324 1326 1327 1329 1330 1331 1332 1334 1335 1336 1337 1338 1339 1341 1342 1343 1344 1345 1346 1348 1349 1350 1351 1352 1353 1355 1356 1357 1358 1359 1360 1362 1363 1364 1365 1366 1367 1369 1370 1371 1372 1373 1374 1376 1377 1378 1379 1380 1381 1383 1384 1385 1386 1387 1388 1390 1391 1392 1393 1394 1395 1397 1398 1399 1400 1401 1402 1404 1405 1406 1407 1408 1409 1411 1412 1413 1414 1418 1420 1422 1423 1424 1425 1426 1427 1429 1430 1431 1432 1434 1435 1436 1437 1438 1439 1441 1442 1443 1444 1446 1447 1448 1449 1451 1452 1453 1454 1456 1457 1458 1459 1461 1462 1463 1464 1466 1467 1468 1469 1470
#synth env 41
def tw12131520681590030149:=Nat
end PySem.W.Fast
end
section
set_option hygiene false in
local macro_rules|`(tactic|first|refine $t|fail $m)=>`(tactic|(refine $t;rotate_right;refine Zq.dep (by assumption) ?_;rotate_left))
open PySem PySem.W PyProof.Rows
set_option maxRecDepth 100000 in
set_option maxHeartbeats 0 in
theorem PySem.Challenge.hd_K68(hAllMk:K68.AM):mI.Holds:=by
 w_on;o_law;k_head;(case hw=>w_witness2)
 refine Zq.un ?_
 k_fill
 refine K68.apJ (l:=mI) (c:=972) (P:=968) rfl rfl (λw h Y=>⟨PySem.W.km_in_of Y,PySem.W.km_tabs_of Y⟩) ?H ?F
 case H=>
  intro w;refine⟨?_,?_⟩
  ·first|k_is|kernel_rfl|rfl
  ·first|k_is|kernel_rfl|rfl
 case F=>
  intro w mg fa h KX G hmg;refine'(by assumption:K68.AM) KX G hmg ?h0 ?h1 ?h2 ?h3 ?h4 ?h5 ?h6 ?h7 ?h8 ?h9 ?h10 ?h11 ?h12 ?h13 ?h14 ?h15 ?h16 ?h17 ?h18 ?h19 ?h20 ?h21 ?h22 ?h23 ?h24 ?h25 ?h26 ?h27 ?h28 ?h29 ?h30 ?h31 ?h32 ?h33 ?h34 ?h35 ?h36 ?h37 ?h38 ?h39 ?h40 ?h41 ?h42 ?h43 ?h44 ?h45 ?h46 ?h47 ?h48 ?h49 ?h50 ?h51 ?h52 ?h53 ?h54 ?h55 ?h56 ?h57 ?h58 ?h59 ?h60 ?h61 ?h62 ?h63 ?h64 ?h65 ?h66 ?h67 ?h68 ?h69 ?h70 ?h71 ?h72 ?h73 ?h74 ?h75 ?h76 ?h77 ?h78 ?h79 ?h80 ?h81 ?h82 ?h83 ?h84 ?h85 ?h86 ?h87 ?h88 ?h89 ?h90 ?h91 ?h92 ?h93 ?h94 ?h95 ?h96 ?h97 ?h98 ?h99 ?h100 ?h101 ?h102 ?h103 ?h104 ?h105 ?h106 ?h107 ?h108 ?h109 ?h110 ?h111 ?h112 ?h113 ?h114 ?h115 ?h116 ?h117 ?h118 ?h119 ?h120 ?h121 ?h122 ?h123 ?h124 ?h125 ?h126 ?h127 ?h128 ?h129 ?h130 ?h131 ?h132 ?h133 ?h134 ?h135 ?h136 ?h137 ?h138 ?h139 ?h140 ?h141 ?h142 ?h143 ?h144 ?h145 ?h146 ?h147 ?h148 ?h149 ?h150 ?h151 ?h152 ?h153 ?h154 ?h155 ?h156 ?h157 ?h158 ?h159 ?h160 ?h161 ?h162 ?h163 ?h164 ?h165 ?h166 ?h167 ?h168 ?h169 ?h170 ?h171 ?h172 ?h173 ?h174 ?h175 ?h176 ?h177 ?h178 ?h179 ?h180 ?h181 ?h182 ?h183 ?h184 ?h185 ?h186 ?h187 ?h188 ?h189 ?h190 ?h191 ?h192 ?h193 ?h194 ?h195 ?h196 ?h197 ?h198 ?h199 ?h200 ?h201 ?h202 ?h203 ?h204 ?h205 ?hFC ?hcd
  (case h0|h1|h2|h3|h4|h5|h6|h7|h8|h9|h10|h11|h12|h13|h14|h15|h16|h17|h18|h19|h20|h21|h22|h23|h24|h25|h26|h27|h28|h29|h30|h31|h32|h33|h34|h35|h36|h37|h38|h39|h40|h41|h42|h43|h44=>show _=_;k_is)
  (case h45|h46|h47|h48|h49|h50|h51|h52|h53|h54|h55|h56|h57|h58=>first|k_is|rfl|decide)
  (case h59|h60|h61|h62|h63|h64|h65|h66|h67|h68|h69|h70|h71|h72|h73|h74|h75|h76|h77|h78|h79|h80|h81|h82|h83|h84|h85|h86|h87|h88|h89|h90|h91|h92|h93|h94|h95|h96|h97|h98|h99|h100|h101|h102|h103|h104|h105|h106|h107|h108|h109=>constructor<;>k_is)
  (case h110|h111|h112|h113|h114|h115|h116|h117|h118|h119|h120|h121|h122|h123|h124|h125|h126|h127|h128|h129|h130|h131|h132|h133|h134|h135|h136|h137|h138|h139|h140|h141|h142|h143|h144|h145|h146|h147|h148|h149|h150|h151|h152|h153|h154|h155|h156|h157|h158|h159=>exact L2.RJ (by k_is) (by k_is) (by k_is))
  (case h160=>exact L2.O9 (by k_is) (by k_is) (by k_is))
  (case h161|h162|h163|h164|h165|h166|h167|h168|h169|h170|h171|h172|h173|h174=>exact L2.RJ (by k_is) (by k_is) (by k_is))
  (case h175=>exact L2.O9 (by k_is) (by k_is) (by k_is))
  (case h176=>exact L2.RJ (by k_is) (by k_is) (by k_is))
  (case h177=>exact L2.O9 (by k_is) (by k_is) (by k_is))
  (case h178|h179|h180|h181|h182|h183|h184|h185|h186|h187=>exact L2.RJ (by k_is) (by k_is) (by k_is))
  (case h188=>exact L2.O9 (by k_is) (by k_is) (by k_is))
  (case h189|h190|h191|h192|h193|h194|h195|h196|h197|h198|h199|h200|h201=>exact L2.RJ (by k_is) (by k_is) (by k_is))
  (case h202|h203|h204|h205=>constructor;(constructor<;>k_is);all_goals(show _=_;k_is))
  (case hFC=>exact K68.ajT (by k_is) (by k_is))
  (case hcd=>first|k_is|kernel_rfl|rfl|decide)
end
section
local macro_rules|`(tactic|omega)=>`(tactic|first|lia|omega +splitNatSub)
local macro_rules|`(tactic|sizeOf_list_dec)=>`(tactic|first|exact Nat.le_of_ble_eq_true rfl|exact L2.bx ?D|omega)
local macro_rules|`(tactic|sizeOf_list_dec)=>`(tactic|first|assumption|decide|exact ⟨by decide, by decide⟩|exact ⟨by decide, by decide, by decide⟩)
local macro_rules|`(tactic|sizeOf_list_dec)=>`(tactic|with_reducible first|exact L2.aeh|exact L2.agK|exact L2.agy|exact L2.ain)
local macro_rules|`(tactic|sizeOf_list_dec)=>`(tactic|with_reducible first|exact L2.aew|exact L2.agI)
local macro_rules|`(tactic|sizeOf_list_dec)=>`(tactic|with_reducible first|exact L2.SM|exact L2.abm|exact L2.aav|exact L2.ajM)
local macro_rules|`(tactic|sizeOf_list_dec)=>`(tactic|with_reducible first|exact L2.abi|exact L2.aba|exact L2.Q5|exact L2.XH)
local macro_rules|`(tactic|sizeOf_list_dec)=>`(tactic|with_reducible first|exact L2.aeq|exact L2.aaR|exact L2.ab4|exact L2.afd)
local macro_rules|`(tactic|sizeOf_list_dec)=>`(tactic|with_reducible first|exact L2.ak9|exact L2.afi|exact L2.abu|exact L2.ajd)
local macro_rules|`(tactic|sizeOf_list_dec)=>`(tactic|with_reducible first|exact L2.Qi|exact L2.abn|exact L2.aac)
local macro_rules|`(tactic|sizeOf_list_dec)=>`(tactic|with_reducible first|exact L2.acI|exact L2.ag2|exact L2.ajG)
local macro_rules|`(tactic|sizeOf_list_dec)=>`(tactic|with_reducible first|exact L2.aeF|exact L2.acb|exact L2.V1|exact L2.acH)
local macro_rules|`(tactic|sizeOf_list_dec)=>`(tactic|with_reducible first|exact L2.W2|exact L2.Q9|exact L2.agl|exact L2.abU)
local macro_rules|`(tactic|sizeOf_list_dec)=>`(tactic|with_reducible first|exact L2.agr|exact L2.afo|exact L2.aeE|exact L2.V2)
local macro_rules|`(tactic|sizeOf_list_dec)=>`(tactic|with_reducible first|exact L2.alo|exact L2.abz|exact L2.aeN|exact L2.ahz)
local macro_rules|`(tactic|sizeOf_list_dec)=>`(tactic|with_reducible first|exact L2.Vx|exact L2.Ot|exact L2.Xj|exact L2.ais)
local macro_rules|`(tactic|sizeOf_list_dec)=>`(tactic|with_reducible first|exact L2.aeK|exact L2.abX|exact L2.Tf|exact L2.Jx)
local macro_rules|`(tactic|sizeOf_list_dec)=>`(tactic|with_reducible first|exact L2.S7|exact L2.QW|exact L2.afm|exact L2.abS)
local macro_rules|`(tactic|sizeOf_list_dec)=>`(tactic|with_reducible first|exact L2.Ti|exact L2.VF|exact L2.Wy|exact L2.RL)
local macro_rules|`(tactic|sizeOf_list_dec)=>`(tactic|with_reducible first|exact L2.aiI|exact L2.ag5|exact L2.acp|exact L2.aeG)
local macro_rules|`(tactic|sizeOf_list_dec)=>`(tactic|with_reducible first|exact L2.acJ|exact L2.aaF|exact L2.abl|exact L2.ahD)
local macro_rules|`(tactic|sizeOf_list_dec)=>`(tactic|with_reducible first|exact L2.al5|exact L2.agg|exact L2.acj|exact L2.ahX)
local macro_rules|`(tactic|decreasing_trivial_pre_omega)=>`(tactic|first|assumption|(apply L2.bK.of;assumption)|(apply L2.dC.of;assumption)|(refine Or.inl ?_;assumption)|(refine Or.inl ?_;apply L2.bK.of;assumption)|(refine Or.inr ?_;apply L2.dC.of;assumption))
local macro_rules|`(tactic|bv_omega)=>`(tactic|first|assumption|exact L2.eN (j := 0) rfl|exact L2.eN (j := 1) rfl|exact L2.eN (j := 2) rfl|exact L2.eN (j := 3) rfl|exact L2.eN (j := 4) rfl|exact L2.eN (j := 5) rfl)
local macro_rules|`(tactic|array_get_dec)=>`(tactic|array_mem_dec)
local macro_rules|`(tactic|array_get_dec)=>`(tactic|with_reducible first|refine L2.anr ?_|refine L2.ana ?_|refine L2.anA ?_)
local macro_rules|`(tactic|array_get_dec)=>`(tactic|with_reducible first|refine L2.amI ?_|refine L2.aiz ?_|refine L2.amu ?_|refine L2.ame ?_)
local macro_rules|`(tactic|array_get_dec)=>`(tactic|with_reducible first|refine L2.alk ?_|refine L2.am5 ?_|refine L2.apK ?_|refine L2.anb ?_)
local macro_rules|`(tactic|array_get_dec)=>`(tactic|with_reducible first|refine L2.anH ?_|refine L2.amj ?_|refine L2.aor ?_|refine L2.ajW ?_)
local macro_rules|`(tactic|array_get_dec)=>`(tactic|with_reducible first|refine L2.ahu ?_|refine L2.amE ?_|refine L2.ajf ?_|refine L2.alG ?_)
local macro_rules|`(tactic|array_get_dec)=>`(tactic|with_reducible first|refine L2.aot ?_|refine L2.an5 ?_|refine L2.alz ?_|refine L2.apr ?_)
local macro_rules|`(tactic|array_get_dec)=>`(tactic|with_reducible first|refine L2.x_U ?_|refine L2.anQ ?_|refine L2.aoi ?_|refine L2.anm ?_)
local macro_rules|`(tactic|array_get_dec)=>`(tactic|with_reducible first|refine L2.aox ?_|refine L2.akU ?_|refine L2.alN ?_|refine L2.apv ?_)
local macro_rules|`(tactic|array_get_dec)=>`(tactic|with_reducible first|refine L2.anj ?_|refine L2.amg ?_|refine L2.ang ?_|refine L2.aml ?_)
local macro_rules|`(tactic|array_get_dec)=>`(tactic|with_reducible first|refine L2.amZ ?_|refine L2.aiA ?_|refine L2.anG ?_|refine L2.apl ?_)
local macro_rules|`(tactic|array_get_dec)=>`(tactic|with_reducible first|refine L2.ap2 ?_|refine L2.amQ ?_|refine L2.aol ?_|refine L2.x_b ?_)
local macro_rules|`(tactic|array_get_dec)=>`(tactic|with_reducible first|refine L2.alV ?_|refine L2.aoh ?_|refine L2.alY ?_|refine L2.ap1 ?_)
local macro_rules|`(tactic|array_get_dec)=>`(tactic|with_reducible first|refine L2.x_c ?_|refine L2.anJ ?_|refine L2.aop ?_|refine L2.akR ?_)
local macro_rules|`(tactic|array_get_dec)=>`(tactic|with_reducible first|refine L2.alc ?_|refine L2.amA ?_|refine L2.anV ?_|refine L2.ajm ?_)
local macro_rules|`(tactic|array_get_dec)=>`(tactic|with_reducible first|refine L2.al6 ?_|refine L2.alh ?_|refine L2.alR ?_|refine L2.al8 ?_)
local macro_rules|`(tactic|array_mem_dec)=>`(tactic|((with_reducible apply L2.amh);decreasing_trivial_pre_omega;rfl))
local macro_rules|`(tactic|array_mem_dec)=>`(tactic|((with_reducible apply L2.Q3);exact rfl))
local macro_rules|`(tactic|array_mem_dec)=>`(tactic|((with_reducible apply L2.x_I);sizeOf_list_dec))
local macro_rules|`(tactic|array_mem_dec)=>`(tactic|((with_reducible apply L2.anE);decreasing_trivial_pre_omega;bv_omega))
local macro_rules|`(tactic|array_mem_dec)=>`(tactic|((with_reducible apply L2.uK);decreasing_trivial_pre_omega;bv_omega))
local macro_rules|`(tactic|array_mem_dec)=>`(tactic|((with_reducible apply L2.anK);decreasing_trivial_pre_omega))
local macro_rules|`(tactic|array_mem_dec)=>`(tactic|((with_reducible apply L2.akW);decreasing_trivial_pre_omega))
local macro_rules|`(tactic|array_mem_dec)=>`(tactic|((with_reducible apply L2.alF);decreasing_trivial_pre_omega))
local macro_rules|`(tactic|array_mem_dec)=>`(tactic|((with_reducible apply L2.aoG);decreasing_trivial_pre_omega))
local macro_rules|`(tactic|array_mem_dec)=>`(tactic|((with_reducible apply L2.aoM);sizeOf_list_dec))
local macro_rules|`(tactic|array_mem_dec)=>`(tactic|((with_reducible apply L2.aoW);sizeOf_list_dec))
local macro_rules|`(tactic|array_mem_dec)=>`(tactic|((with_reducible apply L2.ahI);assumption;sizeOf_list_dec))
local macro_rules|`(tactic|array_mem_dec)=>`(tactic|((with_reducible apply L2.ag3);decreasing_trivial_pre_omega))
local macro_rules|`(tactic|array_mem_dec)=>`(tactic|((with_reducible apply L2.ajR);decreasing_trivial_pre_omega))
local macro_rules|`(tactic|array_mem_dec)=>`(tactic|with_reducible refine L2.ahl ?_)
local macro_rules|`(tactic|array_mem_dec)=>`(tactic|((with_reducible apply L2.ajj);decreasing_trivial_pre_omega))
local macro_rules|`(tactic|array_mem_dec)=>`(tactic|with_reducible refine L2.apw ?_)
local macro_rules|`(tactic|array_mem_dec)=>`(tactic|with_reducible first|refine L2.an8 ?_|refine L2.amY ?_|refine L2.ai1 ?_|refine L2.ald ?_)
local macro_rules|`(tactic|array_mem_dec)=>`(tactic|with_reducible first|refine L2.apz ?_|refine L2.anM ?_|refine L2.alC ?_|refine L2.amH ?_)
local macro_rules|`(tactic|array_mem_dec)=>`(tactic|((with_reducible apply L2.Aa);assumption;sizeOf_list_dec))
local macro_rules|`(tactic|array_mem_dec)=>`(tactic|((with_reducible apply L2.alA);assumption;sizeOf_list_dec;sizeOf_list_dec;sizeOf_list_dec))
local macro_rules|`(tactic|array_mem_dec)=>`(tactic|((with_reducible apply L2.anW);assumption;sizeOf_list_dec;sizeOf_list_dec;sizeOf_list_dec))
local macro_rules|`(tactic|array_mem_dec)=>`(tactic|((with_reducible apply L2.anZ);decreasing_trivial_pre_omega;assumption))
local macro_rules|`(tactic|array_mem_dec)=>`(tactic|((with_reducible apply L2.ami);decreasing_trivial_pre_omega))
local macro_rules|`(tactic|array_mem_dec)=>`(tactic|((with_reducible apply L2.ajA);assumption;assumption;sizeOf_list_dec))
local macro_rules|`(tactic|array_mem_dec)=>`(tactic|with_reducible refine L2.ajQ ?_)
local macro_rules|`(tactic|array_mem_dec)=>`(tactic|((with_reducible apply L2.anu);assumption))
local macro_rules|`(tactic|array_mem_dec)=>`(tactic|with_reducible refine L2.ahO ?_)
local macro_rules|`(tactic|array_mem_dec)=>`(tactic|((with_reducible apply L2.aoc);decreasing_trivial_pre_omega;decreasing_trivial_pre_omega))
local macro_rules|`(tactic|array_mem_dec)=>`(tactic|with_reducible refine L2.ak8 ?_)
local macro_rules|`(tactic|array_mem_dec)=>`(tactic|with_reducible refine L2.alD ?_)
local macro_rules|`(tactic|array_mem_dec)=>`(tactic|with_reducible refine L2.aiv ?_)
local macro_rules|`(tactic|array_mem_dec)=>`(tactic|with_reducible refine L2.ajv ?_)
local macro_rules|`(tactic|array_mem_dec)=>`(tactic|with_reducible refine L2.aiB ?_)
local macro_rules|`(tactic|array_mem_dec)=>`(tactic|((with_reducible apply L2.aoL);assumption;sizeOf_list_dec))
local macro_rules|`(tactic|array_mem_dec)=>`(tactic|with_reducible refine L2.ael ?_)
local macro_rules|`(tactic|cbv)=>`(tactic|repeat' (first|array_get_dec|fail))
namespace K68
open PySem L2
set_option hygiene false in
local macro_rules|`(∅)=>`(aG P w K mg base bJ)
variable{f tW u bf Pt pg rd:Yc}{fd qR:Yt}{H H' H0 A:Hp}{n a dd ha vo' g:Int}{v:V}{m:List ?BE}{ks ns ms:List Int}{pm:Ye}{i ch j:Nat}{G G':Yc->Prop}{ls':List (Yc×HO)}{Q:VK}{ps:List Yc}{so:List Nat}{σ:St}{us:List Ye}
section
variable{P:YI}{w:YV}{K:Yd}{mg:Ym->Option Ye}{base:YT}
def ut(K:Yd):Sp:=λvs H Q _=>∃h:Int,vs=[.int h]/\0<=h/\h<=1000/\Q (.int (2^h.toNat)) H
def Vt(K:Yd):Sp:=λvs H Q _=>∃n h:Int,vs=[.int n,.int h]/\0<=n/\0<=h/\h<=1000/\Q (.bl (n.toNat.testBit h.toNat)) H
def Oa(K:Yd):Sp:=λvs H Q _=>∃n:Int,vs=[.int n]/\0<=n/\n<9223372036854775808/\∀H' l,H l=Yb->aW H H'->H' l=Ya (.lst ((GB.hl n).map V.int))->Q (.ref l) H'
abbrev VD:List Ym:=["hand"]
theorem ae2:aF ["hand"] VD (az Qn):=iw
variable(eV:Tg P w mg base)
include eV in
theorem aea(F:cB K "bit_of" "bit_of" Qn f fd):∅ 1 f fd VD (ut K):=by
 refine F.oj ae2 ?_;rintro _ _ _ _ H _ Q _ _ _ _ _ ⟨x,rfl,h⟩;refine⟨_,(aq (aX (rM (bL aoz ?Q aB ?BM) (bU rZ aB ?Q) aB))),?_⟩;obtain⟨h0,h1,k⟩:=h;refine⟨_,rfl,_,_,rfl,rfl,_,rfl,?_⟩;rw[decide_eq_true (show(0:Int)<=x from h0)];refine ame ⟨_,rfl,_,_,rfl,rfl,⟨h0,by omega,by decide⟩,?_⟩;show Q (.int (1*2^x.toNat)) H;rw[BA];exact k
abbrev acx:List Ym:=["hands","hand"]
theorem alb:aF ["hands","hand"] acx (az ahU):=iw
variable{yS:Yc}{ux:Yt}(zA:∅ 1 yS ux VD (ut K))(iG:iU K mg "bit_of" yS ux VD)
include eV zA iG in
theorem amf(F:cB K "has" "has" ahU f fd):∅ 2 f fd acx (Vt K):=by
 refine F.oj alb ?_;rintro _ _ _ _ H _ Q _ hr _ _ _ ⟨n,x,rfl,h⟩;refine⟨_,(aq (aX (ie ahj (bU Fl ?Q (bw zA iG hr ?B0)) aB ?BM))),?_⟩;obtain⟨hn,h0,h1,k⟩:=h;refine⟨_,rfl,_,rfl,x,rfl,h0,h1,_,_,rfl,rfl,rfl,?_⟩;show Q (.bl (!decide (V.int (YA n (2^x.toNat))=V.int 0))) H;rw[agz hn h0];exact k
abbrev IK:List Ym:=["hands"]
theorem XD:aF ["hands"] IK (az Ia):=iw
variable{ac8:Yc}{VJ:Yt}(akB:∅ 2 ac8 VJ acx (Vt K))(DP:iU K mg "has" ac8 VJ acx)(mR:mg "range"=Yb)
include eV akB DP mR in
theorem aaf(F:cB K "hands_of" "hands_of" Ia f fd):∅ 3 f fd IK (Oa K):=by
 refine F.oj XD ?_;rintro _ _ _ _ H _ _ _ hr _ _ _ ⟨n,rfl,h⟩;refine⟨_,(aq (aX (cP ["hands","hand"] [Ya 0,Yb] rfl rfl ?J (uw rfl mR (aj (Vp PySem.F.plainAttrs_int PySem.F.slot_int_bit_length PySem.F.type_int_bit_length afk ?Q) ao)) ?AD (λ_ _ _ _ _=>(qM (du K rfl (bw akB DP hr (aj ?Q ?B0))))) (λ_ _ _ _ _=>(pv 1))))),?_⟩;obtain⟨h0,h1,k⟩:=h;obtain⟨b1,b2⟩:=aev h0 h1;refine⟨_,rfl,rfl,n,rfl,rfl,_,rfl,by omega,by omega,λD hD=>?_⟩;refine Iz (λi σ H'=>∃v,σ=[Ya (.int n),v]/\H'=upd H D (.lst ((Rc n i).map V.int))) ⟨Yb,rfl,rfl⟩ ?_ ?_
 ·rintro i σ H' hi ⟨v,rfl,rfl⟩;have hi':i<eI n:=by simpa using hi
  refine⟨_,rfl,_,rfl,n,_,rfl,h0,?D,?D,_,rfl,?_⟩;have ei:(0+ (i:Int)).toNat=i:=by omega
  rw[ei];cases e:n.toNat.testBit i with
  |true=>
   refine ame ⟨_,rfl,_,aA,?_,_,rfl,?_⟩
   ·rw[Yk];have:=af7 n i;exact bx ?D
   ·rw[ai8,ahN e,YG,mM];rfl
  |false=>
   refine anr ⟨_,rfl,?_⟩;rw[aip e]
 ·rintro σ H' ⟨v,rfl,rfl⟩;have e:((eI n:Nat):Int).toNat=eI n:=Yy _;rw[e,b2];exact k _ D hD (aH hD) aA
mutual
inductive Pl (H:Hp):Nat->V->cy->Prop
 |non {n:Nat}:Pl H n .non .none
 |int {n:Nat} (i:Int):Pl H n (.int i) (.int i)
 |bl {n:Nat} (b:Bool):Pl H n (.bl b) (.bool b)
 |str {n:Nat} (x:Ym):(GN x).canLay0=true->Pl H n (.str x) (.str x)
 |tup {n:Nat} {a:Yc} {xs:List V} {ds:List cy}:H a=Ya (.tup xs)->xs.length<=10->Np H n xs ds->Pl H (n+ 1) (.ref a) (.tuple ds)
inductive Np (H:Hp):Nat->List V->List cy->Prop
 |nil {n:Nat}:Np H n [] []
 |cons {n:Nat} {x:V} {xs:List V} {d:cy} {ds:List cy}:Pl H n x d->Np H n xs ds->Np H n (x::xs) (d::ds)
end
mutual
theorem Pl.up{H H':Hp}(s:my H H'):∀{n:Nat} {x:V} {d:cy},Pl H n x d->Pl H' n x d
 |_,_,_,.non=>.non
 |_,_,_,.int i=>.int i
 |_,_,_,.bl i=>.bl i
 |_,_,_,.str i l=>.str i l
 |_,_,_,.tup e l h=>.tup (s _ _ e) l (Np.up s h)
theorem Np.up{H H':Hp}(s:my H H'):∀{n:Nat} {xs:List V} {ds:List cy},Np H n xs ds->Np H' n xs ds
 |_,_,_,.nil=>.nil
 |_,_,_,.cons h t=>.cons (Pl.up s h) (Np.up s t)
end
mutual
theorem Pl.mono{H:Hp}:∀{n:Nat} {x:V} {d:cy},Pl H n x d->Pl H (n+ 1) x d
 |_,_,_,.non=>.non
 |_,_,_,.int i=>.int i
 |_,_,_,.bl i=>.bl i
 |_,_,_,.str i l=>.str i l
 |_,_,_,.tup e l h=>.tup e l (Np.mono h)
theorem Np.mono{H:Hp}:∀{n:Nat} {xs:List V} {ds:List cy},Np H n xs ds->Np H (n+ 1) xs ds
 |_,_,_,.nil=>.nil
 |_,_,_,.cons h t=>.cons (Pl.mono h) (Np.mono t)
end
theorem agQ{H:Hp}{n:Nat}:∀{xs:List V} {ds:List cy} {i:Nat} {x:V},Np H n xs ds->xs[i]?=Ya x->∃d,ds[i]?=Ya d/\Pl H n x d
 |_,_,_,_,.nil,e=>by simp at e
 |_,_,0,_,.cons h _,e=>by simp at e;subst e;exact⟨_,rfl,h⟩
 |_,_,i+ 1,x,.cons _ t,e=>by
  obtain⟨b,h1,h2⟩:=agQ (i:=i) t (by simpa using e);exact⟨b,by simpa using h1,h2⟩
theorem aai{H:Hp}{n:Nat}:∀{xs:List V} {ds:List cy} {x:V} {d:cy},Np H n xs ds->Pl H n x d->Np H n (xs++[x]) (ds++[d])
 |_,_,_,_,.nil,h=>.cons h .nil
 |_,_,_,_,.cons r t,h=>.cons r (aai t h)
theorem adX{H:Hp}{n:Nat}:∀{xs:List V} {ds:List cy},Np H n xs ds->xs.length=ds.length
 |_,_,.nil=>rfl
 |_,_,.cons _ t=>congrArg (·+ 1) (adX t)
mutual
theorem Pl.dp{K:Yd}{H:Hp}:∀{n:Nat} {x:V} {d:cy},Pl H n x d->Dp K H x d
 |_,_,_,.non=>.none
 |_,_,_,.int i=>.int i
 |_,_,_,.bl i=>.bool i
 |_,_,_,.str i _=>.str i
 |_,_,_,.tup e _ h=>.tup (dC.of e) (Np.dp h)
theorem Np.dp{K:Yd}{H:Hp}:∀{n:Nat} {xs:List V} {ds:List cy},Np H n xs ds->Dps K H xs ds
 |_,_,_,.nil=>.nil
 |_,_,_,.cons h t=>.cons (Pl.dp h) (Np.dp t)
end
theorem abP{ds:List cy}(h:EV ds=true):(Ee ds).canLay0=true:=by
 first|(rw[vn];exact h)|(rw[KS];exact h)|(rw[KU];exact h)
def Bf(K:Yd):Nat->Sp
 |0=>λ_ _ _ _=>False
 |n+ 1=>λvs H Q _=>∃x,vs=[x]/\∃d,Pl H n x d/\∀H' x',aW H H'->Pl H' n x' d->Q x' H'
abbrev sO:List Ym:=["value"]
theorem aaY:aF ["value"] sO (az Ay):=iw
theorem oR(F:cB K "own_copy" "own_copy" Ay f fd)(n k:Nat)(jU:∅ k f fd sO (Bf K n))(eU:iU K mg "own_copy" f fd sO)(jK:mg "dict"=Yb)(dz:mg "isinstance"=Yb)(gM:mg "list"=Yb)(dW:mg "tuple"=Yb):∅ (k+ 1) f fd sO (Bf K (n+ 1)):=by
 refine F.oj aaY ?_;rintro _ A _ _ H _ _ E hr _ _ _ ⟨x,rfl,h⟩;refine⟨_,(ak (cZ (du K rfl (cL (zQ (K:=K) rfl) ?AE dz gS (aj ?Q (aj (JM gM dy) ao)))) (aq cJ) bN)
   (ak (cZ (du K rfl (cL (zQ (K:=K) rfl) ?AE dz gS (aj ?Q (aj (JM dW bp) ao)))) (aq (aX (cD ?D4 ?AE dW bp (aj (cP ["part"] [Yb] rfl rfl ?J (Gf (K:=K) rfl ?Q) ?T ?AA (λ_ _ _ _ _=>(bw jU eU hr ?IS))) ao)))) bN)
   (ak (cZ (du K rfl (cL (zQ (K:=K) rfl) ?AE dz gS (aj ?Q (aj (JM jK iq) ao)))) (aq cJ) bN)
   (aq (aX ?Q))))),?_⟩
 refine xl4 ?_;intro _ _;obtain⟨d,hp,kk⟩:=h;cases hp with
 |non=>
  cbv;refine⟨_,_,_,false,rfl,.non,?J,?_⟩;cbv;refine⟨_,_,_,false,rfl,.non,?J,?_⟩;cbv;refine⟨_,_,_,false,rfl,.non,?J,?_⟩;cbv;exact kk H _ (.refl _) .non
 |int i=>
  cbv;refine⟨_,_,_,false,rfl,.int _,?J,?_⟩;cbv;refine⟨_,_,_,false,rfl,.int _,?J,?_⟩;cbv;refine⟨_,_,_,false,rfl,.int _,?J,?_⟩;cbv;exact kk H _ (.refl _) (.int i)
 |bl i=>
  cbv;refine⟨_,_,_,false,rfl,.bl _,?J,?_⟩;cbv;refine⟨_,_,_,false,rfl,.bl _,?J,?_⟩;cbv;refine⟨_,_,_,false,rfl,.bl _,?J,?_⟩;cbv;exact kk H _ (.refl _) (.bl i)
 |str i li=>
  cbv;refine⟨_,_,_,false,rfl,.str _,?J,?_⟩;cbv;refine⟨_,_,_,false,rfl,.str _,?J,?_⟩;cbv;refine⟨_,_,_,false,rfl,.str _,?J,?_⟩;cbv;exact kk H _ (.refl _) (.str i li)
 |@tup m a xs ds e hl hs=>
  cbv;refine⟨_,_,_,false,rfl,.tup e,?J,?_⟩;cbv;refine⟨_,_,_,true,rfl,.tup e,?J,?_⟩;have st:=dC.of (K:=K) e;cbv;intro E hE;refine KJ (K:=K) (a:=a) (xs:=xs) (λi σ A=>E2 λv zs=>A5 (σ=[v]) (aW H A) (A E=Ya (.lst zs)) (zs.length=i) (Np A m zs (ds.take i))) ⟨Yb,[],rfl,aH hE,aA,rfl,.nil⟩ ?_ ?_ ?_
  ·rintro i σ A _ ⟨_,_,_,z,_⟩;exact dC.of (z _ _ e)
  ·rintro i x σ A hx ⟨v,zs,rfl,sA,hEx,lz,pz⟩;obtain⟨d',hd',hpl⟩:=agQ hs hx;have hi:=(Ys.mp hx).1;cbv;refine⟨x,rfl,d',hpl.up (.same sA),λA1 x' s1 p1=>?_⟩;have hE1:=s1 _ _ hEx;have kp:my A1 (upd A1 E (.lst (zs++[x']))):=my.lst hE1;refine⟨zs,hE1,bx ?D,_,zs++[x'],rfl,λb o z=>?_,aA,by rw[YE,lz];rfl,?_⟩
   ·rw[aQ (bB z hE)];exact s1 _ _ (sA b o z)
   ·rw[jc hd'];exact aai (pz.up λa xs z=>kp _ _ (s1 _ _ z)) (p1.up kp)
  rintro σ A ⟨v,zs,rfl,sA,hEx,lz,pz⟩;rw[adX hs,cx]at pz;cbv;intro t A1 ht s1 g1;exact kk A1 _ (sA.trans s1) (.tup g1 ?D (pz.up (.same s1)))
def Dd(K:Yd):Sp:=Bf K 5
variable(jK:mg "dict"=Yb)(dz:mg "isinstance"=Yb)(gM:mg "list"=Yb)(dW:mg "tuple"=Yb)
include eV jK dz gM dW in
theorem abk(F:cB K "own_copy" "own_copy" Ay f fd)(C:iU K mg "own_copy" f fd sO):∅ 5 f fd sO (Dd K):=
 oR F 4 4 (oR F 3 3 (oR F 2 2 (oR F 1 1 (oR F 0 0 ⟨λ_ _ _ _ h=>h.elim,λ_ _ _ _ _ _ _ _ _ _ _ _ _ h=>h.elim⟩ C jK dz gM dW) C jK dz gM dW) C jK dz gM dW) C jK dz gM dW) C jK dz gM dW
def BaV(H:Hp)(v:V):Option ?S->Prop
 |none=>v=.non
 |some q=>∃t,v=.ref t/\H t=Ya (.tup [.int q.1,.int q.2])
theorem BaV.up(s:my H H'){b:Option ?S}(h:BaV H v b):BaV H' v b:=by
 cases b with
 |none=>exact h
 |some q=>obtain⟨t,e,g⟩:=h;exact⟨t,e,s _ _ g⟩
abbrev Pn:=Int×Int×Int
variable{pl:Pn}
noncomputable def plD(p:Pn):cy:=.tuple [.int p.1,.int p.2.1,.int p.2.2,.tuple []]
def VL(H:Hp)(v:V):Option (?S×Pn)->Prop
 |none=>v=.non
 |some q=>∃t u pv,v=.ref t/\H t=Ya (.tup [.ref u,pv])/\H u=Ya (.tup [.int q.1.1,.int q.1.2])/\Pl H 2 pv (plD q.2)
theorem VL.up(s:my H H'){y:Option (?S×Pn)}(h:VL H v y):VL H' v y:=by
 cases y with
 |none=>exact h
 |some q=>obtain⟨t,u,pv,e,g1,g2,g3⟩:=h;exact⟨t,u,pv,e,s _ _ g1,s _ _ g2,g3.up s⟩
noncomputable def RQ:Option ?S->cy
 |none=>.none
 |some q=>.tuple [.int q.1,.int q.2]
noncomputable def yeD:Option (?S×Pn)->cy
 |none=>.none
 |some q=>.tuple [RQ (Ya q.1),plD q.2]
theorem afV{b:Option ?S}{n:Nat}(h:BaV H v b):Pl H (n+ 1) v (RQ b):=by
 cases b with
 |none=>obtain rfl:v=.non:=h;exact .non
 |some q=>obtain⟨t,rfl,g⟩:=h;exact .tup g (by show 2<=10;decide) (.cons (.int _) (.cons (.int _) .nil))
theorem akJ{n:Nat}{b:Option ?S}(h:Pl H n v (RQ b)):BaV H v b:=by
 cases b with
 |none=>
  have h:Pl H n v .none:=h;cases h;rfl
 |some q=>
  have h:Pl H n v (.tuple [.int q.1,.int q.2]):=h;cases h with
  |tup e l hs=>
   cases hs with
   |cons h1 t1=>
    cases t1 with
    |cons h2 t2=>
     cases t2;cases h1;cases h2;exact⟨_,rfl,e⟩
theorem anD{y:Option (?S×Pn)}(h:VL H v y):Pl H 3 v (yeD y):=by
 cases y with
 |none=>obtain rfl:v=.non:=h;exact .non
 |some q=>obtain⟨t,u,pv,rfl,g1,g2,g3⟩:=h;exact .tup g1 (by show 2<=10;decide) (.cons (afV (b:=Ya q.1) ⟨u,rfl,g2⟩) (.cons g3 .nil))
theorem am6{y:Option (?S×Pn)}(h:Pl H 3 v (yeD y)):VL H v y:=by
 cases y with
 |none=>
  have h:Pl H 3 v .none:=h;cases h;rfl
 |some q=>
  have h:Pl H 3 v (.tuple [RQ (Ya q.1),plD q.2]):=h;cases h with
  |tup e l hs=>
   cases hs with
   |cons h1 t1=>
    cases t1 with
    |cons h2 t2=>
     cases t2;obtain⟨u,rfl,g⟩:=akJ h1;exact⟨_,u,_,rfl,e,g,h2⟩
noncomputable def yb(y:Option (?S×Pn)):Option ?S:=y.map (·.1)
noncomputable def bgt:Option ?S->Option ?S->Bool
 |none,_=>false
 |some _,Yb=>true
 |some q,Ya r=>HT.gb [r.1,r.2] [q.1,q.2]
theorem eO(t:Yc):decide (V.ref t=V.non)=false:=decide_eq_false ?C
def GZ(K:Yd):Sp:=λvs H Q _=>E2 λx y=>vs=[x,y]/\(E2 λb c=>A3 (BaV H x b) (BaV H y c) (Q (.bl (bgt b c)) H))
abbrev Ss:List Ym:=["one","other"]
theorem Sg:aF ["one","other"] Ss (az Be):=iw
include eV in
theorem SQ(F:cB K "is_greater" "is_greater" Be f fd):∅ 1 f fd Ss (GZ K):=by
 refine F.oj Sg ?_;rintro _ _ _ _ _ _ _ _ _ _ hu0 _ ⟨x,y,rfl,h⟩;refine⟨_,(aq (aX (uz (ie mQ ?Q cA ?BM) (uA (aoV (ie oY ?AU cA ?BM) (uA (ie (alO (K:=K) rfl hu0) ?Q ?AU ?BM))))))),?_⟩;obtain⟨b,c,hb,hc,kk⟩:=h;cases b with
 |none=>
  obtain rfl:x=.non:=hb;cbv;exact kk
 |some q=>
  obtain⟨t,rfl,ht⟩:=hb;cases c with
  |none=>
   obtain rfl:y=.non:=hc;cbv;rw[eO];cbv;exact kk
  |some r=>
   obtain⟨u,rfl,hv⟩:=hc;cbv;rw[eO];cbv;rw[eO];cbv;exact⟨t,u,[q.1,q.2],[r.1,r.2],rfl,rfl,dC.of ht,dC.of hv,kk⟩
def JL(K:Yd):Sp:=λvs H Q _=>∃x,vs=[x]/\∃y,VL H x y/\∀z,BaV H z (yb y)->Q z H
theorem V9:aF ["yes"] ["yes"] (az Dr):=iw
include eV in
theorem Vk(F:cB K "ballot_of" "ballot_of" Dr f fd):∅ 1 f fd ["yes"] (JL K):=by
 refine F.oj V9 ?_;rintro _ _ _ _ _ _ _ _ _ _ _ _ ⟨x,rfl,h⟩;refine⟨_,(aq (aX (rM (bL oY ?Q cA ?BM) cA (aM ?A7 ?Q aB ?G)))),?_⟩;obtain⟨y,hy,kk⟩:=h;cases y with
 |none=>
  obtain rfl:x=.non:=hy;cbv;exact kk _ rfl
 |some q=>
  obtain⟨t,u,pv,rfl,g1,g2,g3⟩:=hy;have st:=dC.of (K:=K) g1;have a0:mq [V.ref u,pv] 0=Ya (.ref u):=by kernel_rfl
  cbv;rw[eO];cbv;exact kk _ ⟨u,rfl,g2⟩
noncomputable def Ow:List (Option (?S×Pn))->Option (?S×Pn)->Option (?S×Pn)
 |[],g=>g
 |y::ys,g=>Ow ys (if bgt (yb y) (yb g)=true then y else g)
theorem Vb:∀(ys:List (Option (?S×Pn))) (y g:Option (?S×Pn)),Ow (ys++[y]) g=if bgt (yb y) (yb (Ow ys g))=true then y else Ow ys g
 |[],_,_=>rfl
 |_::ys,y,g=>Vb ys y _
def By(K:Yd):Sp:=λvs H Q _=>∃(a:Yc),vs=?BV/\(E2 λxs ys=>A3 (bK K H a xs) (dQ (λx y=>VL H x y) xs ys) (∀z,VL H z (Ow ys Yb)->Q z H))
abbrev yx:List Ym:=["some"]
theorem mO:aF ["some","greatest","yes"] yx (az uX):=iw
variable{Kz:Yc}{Nk:Yc}{Hm:Yt}{Lf:Yt}(lB:∅ 1 Kz Hm Ss (GZ K))(lF:iU K mg "is_greater" Kz Hm Ss)(jk:∅ 1 Nk Lf ["yes"] (JL K))(jg:iU K mg "ballot_of" Nk Lf ["yes"])
include eV lB lF jk jg in
theorem OD(F:cB K "greatest_yes" "greatest_yes" uX f fd):∅ 2 f fd yx (By K):=by
 refine F.oj mO ?_;rintro _ A _ _ H _ _ _ hr _ _ _ ⟨a,rfl,h⟩;refine⟨_,(ak (bA (i:=1) mO.nd rfl ?E cA)
   (ak (lK ah rfl ?CM (aO (i:=2) mO.nd rfl ?E)
   (aq (cZ (du K rfl (bw lB lF hr (aj (bw jk jg hr ?AW) (aj (bw jk jg hr ?B0) ao)))) (aq (bA (i:=1) mO.nd rfl ?E ?DR)) bN)))
   (aq (aX ?AU)))),?_⟩
 refine xl3 ?_;intro _;obtain⟨xs,ys,ha,hx,kk⟩:=h;have ln:=bX hx;cbv;refine iV (xs:=xs) (λi σ A=>H=A/\(E2 λz v=>σ=[Ya (.ref a),Ya z,v]/\VL H z (Ow (ys.take i) Yb))) ⟨rfl,.non,Yb,rfl,rfl⟩ (λi σ A _ z=>by rw[<-z.1];exact ha) ?_ ?_
 ·rintro i x σ _ hi ⟨rfl,z,v,rfl,hy⟩;obtain⟨y',hk',hy'⟩:=iZ hx hi;rw[jc hk',Vb];cbv;refine⟨x,rfl,y',hy',λb1 e1=>?_⟩;cbv;refine⟨z,rfl,_,hy,λb2 e2=>?_⟩;cbv;refine⟨b1,b2,rfl,_,_,e1,e2,?_⟩;cbv;refine iu (λh1=>?_) λh1=>?_
  ·cbv;exact⟨rfl,x,_,rfl,by rw[if_pos h1];exact hy'⟩
  ·exact⟨rfl,z,_,rfl,by rw[if_neg h1];exact hy⟩
 rintro σ _ ⟨rfl,z,v,rfl,hy⟩;rw[ln,cx]at hy;cbv;exact kk z hy
def adH(K:Yd):Sp:=λvs H Q _=>∃(n:Int),vs=[.int n]/\(A3 (0<=n) (n<9223372036854775808) (∀H',aW H H'->Q (.int ((GB.hl n).length:Nat)) H'))
theorem aiT:aF ["hands"] IK (az abO):=iw
variable{QT:Yc}{Ob:Yt}(qe:∅ 3 QT Ob IK (Oa K))(qC:iU K mg "hands_of" QT Ob IK)(oM:mg "len"=Yb)
include eV qe qC oM in
theorem ajF(F:cB K "many" "many" abO f fd):∅ 4 f fd IK (adH K):=by
 refine F.oj aiT ?_;rintro _ _ _ _ _ _ _ _ hr _ _ _ ⟨n,rfl,h⟩;refine⟨_,(aq (aX (cL ?EZ ?AE oM gF (aj (bw qe qC hr ?IS) ao)))),?_⟩;obtain⟨n0,n1,kk⟩:=h;cbv;refine⟨n,rfl,n0,n1,λH1 l hl s1 g1=>?_⟩;have sl:=bK.of (K:=K) g1;cbv;have:=kk H1 s1;rw[Yk];exact this
theorem xr{v:Int}(v0:0<=v)(n0:0<=n):YA v n=((v.toNat &&& n.toNat:Nat):Int):=by
 unfold YA;rw[decide_eq_true v0,decide_eq_true n0]
theorem vA{v:Int}(v0:0<=v)(n0:0<=n):YQ v n=((v.toNat ||| n.toNat:Nat):Int):=afY v0 n0
theorem alu{v:Int}(v0:0<=v)(n0:0<=n)(n1:n<9223372036854775808):0<=YA v n/\YA v n<9223372036854775808:=by
 rw[xr v0 n0];have:v.toNat &&& n.toNat<=n.toNat:=FI;omega
theorem adm{v:Int}(v0:0<=v)(v1:v<9223372036854775808)(n0:0<=n)(n1:n<9223372036854775808):0<=YQ v n/\YQ v n<9223372036854775808:=by
 rw[vA v0 n0];have:v.toNat ||| n.toNat<2^63:=Nat.or_lt_two_pow (by have:(2:Nat)^63=9223372036854775808:=?B;omega) (by have:(2:Nat)^63=9223372036854775808:=?B;omega);have p:(2:Nat)^63=9223372036854775808:=by decide
 omega
theorem acM{h:Int}(h0:0<=h)(h1:h<63):(0:Int)<=2^h.toNat/\(2:Int)^h.toNat<9223372036854775808:=by
 have p:(2:Nat)^h.toNat<2^63:=Nat.pow_lt_pow_right ?B ?D;have q:(2:Nat)^63=9223372036854775808:=by decide
 refine⟨Int.le_of_lt (Int.pow_pos ?B),?_⟩;rw[show(2:Int)^h.toNat=((2^h.toNat:Nat):Int)from(AR 2 h.toNat).symm];generalize 2^h.toNat=z at p;omega
noncomputable def PP(v n:Int):Bool:=decide (2*(((GB.hl (YA v n)).length:Nat):Int)>(((GB.hl n).length:Nat):Int))
def vW(K:Yd):Sp:=λvs H Q _=>E2 fun(v n:Int)=>vs=[.int v,.int n]/\(A4 (0<=v) (0<=n) (n<9223372036854775808) (∀H',aW H H'->Q (.bl (PP v n)) H'))
abbrev ahZ:List Ym:=["some","hands"]
theorem Kr:aF ["some","hands"] ahZ (az qu):=iw
variable{agM:Yc}{ac0:Yt}(abH:∅ 4 agM ac0 IK (adH K))(acE:iU K mg "many" agM ac0 IK)
include eV abH acE in
theorem JG(F:cB K "more_than_half" "more_than_half" qu f fd):∅ 5 f fd ahZ (vW K):=by
 refine F.oj Kr ?_;rintro _ _ _ _ _ _ _ _ hr _ _ _ ⟨v,n,rfl,h⟩;refine⟨_,(aq (aX (ie ahm (bU afU aB (bw abH acE hr (aj (bU Fl ?Q ?AU) ao))) (bw abH acE hr ?B0) ?BM))),?_⟩;obtain⟨v0,n0,n1,kk⟩:=h;obtain⟨a0,a1⟩:=alu v0 n0 n1;cbv;refine⟨_,rfl,a0,a1,λH1 s1=>?_⟩;have m2:ahK 2 (((GB.hl (YA v n)).length:Nat):Int):=.inl ⟨by decide,by decide⟩;cbv;refine⟨n,rfl,n0,n1,λH2 s2=>?_⟩;cbv;exact kk H2 (s1.trans s2)
theorem alZ{h:Int}(n0:0<=n)(h0:0<=h)(i:Nat):(YQ n (2^h.toNat)).toNat.testBit i=(n.toNat.testBit i||decide (h.toNat=i)):=by
 rw[vA n0 (eF _),Yy,mi,show((2:Int)^h.toNat).toNat=2^h.toNat by rw[show(2:Int)^h.toNat=((2^h.toNat:Nat):Int)from(AR 2 h.toNat).symm,Yy],qq]
def K1(n:Int)(ns:List Int):Prop:=0<=n/\n<9223372036854775808/\∀i:Nat,n.toNat.testBit i=true↔(i:Int)∈ns
def MP(K:Yd):Sp:=λvs H Q _=>∃(a:Yc),vs=?BV/\∃ns:List Int,bK K H a ?A1/\(∀x∈ns,0<=x/\x<63)/\∀n:Int,K1 n ns->Q (.int n) H
theorem Gg:aF ["some","hands","hand"] yx (az QK):=iw
include eV zA iG in
theorem ae6(F:cB K "set_of" "set_of" QK f fd):∅ 2 f fd yx (MP K):=by
 refine F.oj Gg ?_;rintro _ A _ _ H _ _ _ hr _ _ _ ⟨a,rfl,h⟩;refine⟨_,(ak (bA (i:=1) Gg.nd rfl ?E aB)
   (ak (lK ah rfl ?CM (aO (i:=2) Gg.nd rfl ?E)
   (aq (bA (i:=1) Gg.nd rfl ?E (bU JP ?AU (bw zA iG hr ?AW)))))
   (aq (aX ?AU)))),?_⟩
 refine xl3 ?_;intro _;obtain⟨ns,ha,rg,kk⟩:=h;cbv;refine iV (xs:=ns.map V.int) (λi σ A=>H=A/\(E2 fun(n:Int) (v:Option V)=>σ=[Ya (.ref a),Ya (.int n),v]/\K1 n (ns.take i))) ⟨rfl,0,Yb,rfl,by decide,by decide,λi=>by rw[show tP 0=0 from rfl,de];simp⟩ (λi σ A _ z=>by rw[<-z.1];exact ha) ?_ ?_
 ·rintro i x σ _ hi ⟨rfl,n,v,rfl,n0,n1,nb⟩;obtain⟨h,hh,rfl⟩:=VP hi;obtain⟨r0,r1⟩:=rg h (YW hh);cbv;refine⟨h,rfl,r0,by omega,?_⟩;cbv;obtain⟨b0,b1⟩:=acM r0 r1;obtain⟨o0,o1⟩:=adm n0 n1 b0 b1;refine⟨rfl,_,_,rfl,o0,o1,λj=>?_⟩;rw[alZ n0 r0,jc hh,e8,AN,nb j,decide_eq_true_iff,YU];constructor
  ·rintro(z|z)
   ·exact .inl z
   ·exact .inr ?D
  ·rintro(z|z)
   ·exact .inl z
   ·exact .inr ?D
 rintro σ _ ⟨rfl,n,v,rfl,nb⟩;rw[Yk,cx]at nb;cbv;exact kk n nb
def Sub(v n:Int):Prop:=0<=v/\True
theorem Sub.or{b:Int}(n0:0<=n)(x:Sub a n)(y:Sub b n):Sub (YQ a b) n:=⟨by rw[vA x.1 y.1];omega,trivial⟩
theorem agO(n0:0<=n):YA 0 n=0:=by
 rw[xr (qk 0) n0,show tP 0=0 from rfl,Nat.zero_and];rfl
theorem aiP:GB.hl 0=[]:=by
 unfold GB.hl GB.W3;have:((cq 63).filter λh=>(tP 0).testBit h)=[]:=List.filter_eq_nil_iff.mpr λh _=>by
  rw[show tP 0=0 from rfl,de];decide
 rw[this];rfl
theorem aek(n0:0<=n):PP 0 n=false:=by
 unfold PP;rw[agO n0,aiP];exact decide_eq_false ?N
mutual
theorem Vn{H H':Hp}:∀{n m:Nat} {x z:V} {d:cy},Pl H n x d->Pl H' m z d->Pl H' n z d
 |_,_,_,_,_,.non,h=>by cases h;exact .non
 |_,_,_,_,_,.int i,h=>by cases h;exact .int i
 |_,_,_,_,_,.bl i,h=>by cases h;exact .bl i
 |_,_,_,_,_,.str i l,h=>by cases h;exact .str i l
 |_,_,_,_,_,.tup _ _ hs,.tup e l h2=>.tup e l (adM hs h2)
theorem adM{H H':Hp}:∀{n m:Nat} {xs zs:List V} {ds:List cy},Np H n xs ds->Np H' m zs ds->Np H' n zs ds
 |_,_,_,_,_,.nil,.nil=>.nil
 |_,_,_,_,_,.cons h t,.cons h2 t2=>.cons (Vn h h2) (adM t t2)
end
abbrev mF:=Option (?S×Pn)
variable{y':mF}
abbrev Rt:=Int×Bool
variable{dr:Option Rt}
noncomputable def rtD(r:Rt):cy:=.tuple [.int r.1,.tuple [],.tuple [],.tuple [],.bool r.2]
noncomputable def agD:Option Pn->cy
 |none=>.none
 |some p=>plD p
noncomputable def roD:Option Rt->cy
 |none=>.none
 |some r=>rtD r
def Vy(H:Hp):List ?BE->List ?AX->Prop:=dQ λe r=>e.1=r.1/\(0<=e.1/\e.1<63)/\∃t rv yv,e.2=.ref t/\H t=Ya (.tup [rv,yv])/\Pl H 2 rv (rtD r.2.1)/\VL H yv r.2.2
theorem Vy.up{H H':Hp}(s:my H H'):∀{m:List ?BE} {rp:List ?AX},Vy H m rp->Vy H' m rp
 |_,_,.nil=>.nil
 |_,_,.cons ⟨e1,r,t,rv,yv,e2,e3,e4,e5⟩ q=>.cons ⟨e1,r,t,rv,yv,e2,s _ _ e3,e4.up s,e5.up s⟩ (Vy.up s q)
theorem Vy.keys{H:Hp}:∀{m:List ?BE} {rp:List ?AX},Vy H m rp->m.map (·.1)=rp.map (·.1)
 |_,_,.nil=>rfl
 |_,_,.cons ⟨e1,_⟩ q=>by rw[YS,YS,e1,Vy.keys q]
theorem Vy.rg{H:Hp}:∀{m:List ?BE} {rp:List ?AX},Vy H m rp->∀e∈m,0<=e.1/\e.1<63
 |_,_,.nil=>(λ_ z=>nomatch z)
 |_,_,.cons ⟨_,r,_⟩ q=>λe he=>by
  rcases Yz.mp he with z|z
  ·rw[z];exact r
  ·exact Vy.rg q e z
noncomputable def Rr{α:Type}:List (Int×α)->Int->α->List (Int×α)
 |[],k,v=>[(k,v)]
 |p::m,k,v=>if p.1=k then(p.1,v)::m else p::Rr m k v
theorem Vy.put{H:Hp}{k:Int}{t:Yc}{rv yv:V}{dr:Rt}{y:mF}(r:0<=k/\k<63)(e1:H t=Ya (.tup [rv,yv]))(e2:Pl H 2 rv (rtD dr))(e3:VL H yv y):∀{m:List ?BE} {rp:List ?AX},Vy H m rp->Vy H (uf m k (.ref t)) (Rr rp k (dr,y))
 |_,_,.nil=>.cons ⟨rfl,r,t,rv,yv,rfl,e1,e2,e3⟩ .nil
 |e::m,q::rp,.cons h u=>by
  have ek:e.1=q.1:=h.1;show Vy H (if e.1=k then(e.1,.ref t)::m else e::uf m k (.ref t)) (if q.1=k then(q.1,(dr,y))::rp else q::Rr rp k (dr,y));by_cases z:e.1=k
  ·rw[if_pos z,if_pos (ek▸z)];exact .cons ⟨ek,h.2.1,t,rv,yv,rfl,e1,e2,e3⟩ u
  ·rw[if_neg z,if_neg (λw=>z (ek.trans w))];exact .cons h (Vy.put r e1 e2 e3 u)
structure BL(K:Yd)(mg:Ym->Option Ye)(H:Hp)(p:Yc)(me hd:Int)(b:Option ?S)(y:mF)(vo:Int)(ag:Option Pn)(d:Yc)(rp:List ?AX):Prop where
 ob:∃C dx ba ye av,mg "Change"=Ya (.ref C)/\H p=Ya (.ins C dx (Gu (.int me) (.int hd) ba ye (.int vo) (.ref d) av))/\BaV H ba b/\VL H ye y/\Pl H 2 av (agD ag)
 dc:∃m,H d=Ya (.dK (dG m))/\Vy H m rp/\(m.map (·.1)).Nodup
 m0:0<=me
 m1:me<63
 h0:0<=hd
 h1:hd<9223372036854775808
 sm:Sub ?C4 hd
 sv:Sub vo hd
 vy:y=Yb->vo=0
section
variable{p d:Yc}{me hd vo:Int}{b:Option ?S}{y:mF}{ag:Option Pn}{rp:List ?AX}
theorem BL.up(h:BL K mg H p me hd b y vo ag d rp)(s1:∀o,H p=Ya o->H' p=Ya o)(s2:∀o,H d=Ya o->H' d=Ya o)(s3:my H H'):BL K mg H' p me hd b y vo ag d rp:=by
 obtain⟨C,dx,ba,ye,av,e1,e2,e3,e4,e5⟩:=h.ob;obtain⟨m,f1,f2,f3⟩:=h.dc;exact⟨⟨C,dx,ba,ye,av,e1,s1 _ e2,e3.up s3,e4.up s3,e5.up s3⟩,⟨m,s2 _ f1,f2.up s3,f3⟩,h.m0,h.m1,h.h0,h.h1,h.sm,h.sv,h.vy⟩
theorem BL.same(h:BL K mg H p me hd b y vo ag d rp)(s:aW H H'):BL K mg H' p me hd b y vo ag d rp:=h.up (λ_ e=>s _ _ e) (λ_ e=>s _ _ e) (.same s)
end
theorem Kw(nd:(m.map (·.1)).Nodup)(rg:∀e∈m,0<=e.1/\e.1<63):m.length<64:=by
 refine FK λh=>?_;have pm:=GX.Jm (l:=m.map (·.1)) (m:=(cq 63).map fun(i:Nat)=>(i:Int)) nd (λx hx=>?_) (by rw[Yk,Yk,cK];omega)
 ·have:=pm.length_eq;rw[Yk,Yk,cK]at this;omega
 ·obtain⟨e,he,rfl⟩:=YD.mp hx;obtain⟨r0,r1⟩:=rg e he;exact YD.mpr ⟨e.1.toNat,fv.mpr ?D,by omega⟩
def uL(K:Yd):Sp:=λvs H Q _=>E3 fun(p:Yc) (me hd:Int)=>vs=[.ref p,.int me,.int hd]/\(E2 λC dx=>A3 (VH K C) (H p=Ya (.ins C dx [])) (∀H' d,?E0->H d=Yb->H' d=Ya (.dK [])->H' p=Ya (.ins C dx (Gu (.int me) (.int hd) .non .non (.int 0) (.ref d) .non))->Q .non H'))
abbrev aga:List Ym:=["self","me","hands"]
theorem Jp:aF ["self","me","hands"] aga (az oN):=iw
include eV in
theorem Jd(F:cB K "__init__" "Change.__init__" oN f fd):∅ 1 f fd aga (uL K):=by
 refine F.oj Jp ?_;rintro _ _ _ _ H _ _ _ _ _ _ _ ⟨p,me,hd,rfl,h⟩;refine⟨_,(ak ?GA
   (ak (aU (K:=K) rfl ?Q ?DR rfl)
   (ak ?BA
   (ak ?BA
   (ak (aU (K:=K) rfl ?Q aB rfl)
   (ak (aU (K:=K) rfl ?Q uM rfl)
   (aq ?BA))))))),?_⟩
 refine xl7 ?_;intro _ _ _ _ _;obtain⟨C,dx,⟨cl,n1,n2,n3,n4,n5,n6,n7⟩,hp,q⟩:=h;cbv;intro H1 b1 g1;cbv;intro H2 b2 g2;cbv;intro H3 b3 g3;cbv;intro H4 b4 g4;cbv;intro H5 b5 g5;cbv;intro d H6 hd6 s6 g6;have g5':=s6 _ _ g5;cbv;intro H7 b7 g7;cbv;intro H8 b8 g8;rw[ai4]at g8;have nd:d≠p:=λz=>by rw[z,g5]at hd6;cases hd6
 refine q H8 d (λb o e n=>b8.at n (b7.at n (s6 _ _ (b5.at n ?IV)))) ?_ (b8.at nd (b7.at nd g6)) g8;cases z:H d with
 |none=>rfl
 |some o=>rw[b5.at nd (b4.at nd (b3.at nd (b2.at nd (b1.at nd z))))]at hd6;cases hd6
def KpP(p:Yc)(H H':Hp):Prop:=∀b o,b≠p->H b=Ya o->H' b=Ya o
noncomputable def bl:Option ?S->Int
 |none=>0
 |some q=>q.1
def Bv(K:Yd)(mg:Ym->Option Ye):Sp:=λvs H Q _=>E3 fun(p:Yc) (m:Int) (c:V)=>vs=[.ref p,.int m,c]/\(E9 λme hd b y vo ag d rp dr=>A3 ?BQ (Pl H 2 c (rtD dr)) (∀H' d',KpP p H H'->BL K mg H' p me hd (Ya (bl b+ m,me)) y vo ag d' [(me,dr,y)]->H d'=Yb->Q .non H'))
abbrev ahR:List Ym:=["self","more","report"]
theorem Bx:aF ["self","more","report","last"] ahR (az vq):=iw
variable{Jt:Yc}{bZ:Yc}{Fg:Yt}(jU:∅ 5 Jt Fg sO (Dd K))(eU:iU K mg "own_copy" Jt Fg sO)(aL:VH K bZ)(aN:mg "Change"=Ya (.ref bZ))
include eV jU eU aL aN in
theorem Od(F:cB K "begin" "Change.begin" vq f fd):∅ 6 f fd ahR (Bv K mg):=by
 refine F.oj Bx ?_;rintro _ _ _ _ H _ _ _ hr _ _ _ ⟨p,m,c,rfl,h⟩;refine⟨_,(ak (bA (i:=3) Bx.nd rfl ?E (rM ?ET aB (aM ?A7 ?A aB ?G)))
   (ak (aU (K:=K) rfl ?Q (dY (aj (bU jH ?BW ?AU) ?A5)) rfl)
   (aq (aU (K:=K) rfl ?Q (aju (ahc ?A (dY (aj (bw jU eU hr ?AW) ?A5)) ajq) rfl rfl (λz=>nomatch z) (Nat.le_of_ble_eq_true rfl)) rfl)))),?_⟩
 refine xl3 ?_;intro _;obtain⟨me,hd,b,y,vo,ag,d,rp,dr,S,hc,kk⟩:=h;obtain⟨⟨C,dx,ba,ye,av,eC,hp,hb,hy,ha⟩,_,m0,m1,z0,z1,sm,sv,vy⟩:=id S;rw[aN]at eC;cases eC;obtain⟨cl,n1,n2,n3,n4,n5,n6,n7⟩:=id aL;refine yJ (λσ' H'=>H=H'/\σ'=[Ya (.ref p),Ya (.int m),Ya c,Ya (.int (bl b))]) ?_ λN rest=>?_
 rotate_left
 ·cases b with
  |none=>
   obtain rfl:ba=.non:=hb;cbv;exact rest _ _ ⟨rfl,rfl⟩
  |some q=>
   obtain⟨t,rfl,ht⟩:=hb;have st:=dC.of (K:=K) ht;cbv;rw[eO];cbv;exact rest _ _ ⟨rfl,rfl⟩
 rintro σ' _ ⟨rfl,rfl⟩;cbv;intro t H1 ht s1 g1;have hp1:=s1 _ _ hp;cbv;intro H2 b2 g2;rw[adq]at g2;cbv;refine aiO λr hr'=>?_;have s3:=aH (o:=.dK []) hr';have g3:(upd H2 r (.dK [])) r=Ya (.dK []):=aA;generalize upd H2 r (.dK [])=H3 at s3 g3⊢;have gp3:=s3 _ _ g2;cbv;have hc3:Pl H3 2 c (rtD dr):=hc.up λa xs e=>s3 _ _ (b2.at ?CB ?EU);refine⟨c,rfl,rtD dr,hc3.mono.mono,λH4 x' s4 p4=>?_⟩;have p4:=Vn hc p4;have gp4:=s4 _ _ gp3;cbv;intro u H5 hu5 s5 g5;have gp5:=s5 _ _ gp4;have gr5:=s5 _ _ (s4 _ _ g3);refine⟨gr5,[(YY me,.ref u)],rfl,by show 1<=15;decide,?_⟩;have b6:But r H5 (upd H5 r (.dK (oK [] [(YY me,V.ref u)]))):=.upd;have g6:(upd H5 r (.dK (oK [] [(YY me,V.ref u)]))) r=Ya (.dK [(YY me,V.ref u)]):=aA;generalize upd H5 r (.dK (oK [] [(YY me,V.ref u)]))=H6 at b6 g6⊢;have nrp:r≠p:=λz=>by rw[z,g2]at hr';cases hr'
 have gp6:=b6.at nrp.symm gp5;cbv;intro H7 b7 g7;rw[adJ]at g7;have nrH:∀b' o,H b'=Ya o->b'≠p->b'≠r:=λb' o e n z=>by
  rw[z]at e n;rw[b2.at n ?EU]at hr';cases hr'
 have gt7:H7 t=Ya (.tup [.int (bl b+ m),.int me]):=by
  have ntp:t≠p:=bD g1 hp1 ?C;have ntr:t≠r:=λz=>by rw[<-z,b2.at ntp g1]at hr';cases hr'
  exact b7.at ntp (b6.at ntr (s5 _ _ (s4 _ _ (s3 _ _ (b2.at ntp g1)))))
 have nup:u≠p:=bD g5 gp5 ?C;have nur:u≠r:=bD g5 gr5 ?C;have gu7:=b7.at nup (b6.at nur g5);have kp:KpP p H H7:=λb' o n e=>b7.at n (b6.at (nrH b' o e n) (s5 _ _ (s4 _ _ (s3 _ _ (b2.at n ?EU)))));have ks:my H H7:=λa xs e=>kp _ _ ?CB e;have ks4:my H4 H7:=λa xs e=>b7.at (bD e gp4 ?C) (b6.at (bD e (s4 _ _ g3) ?C) (s5 _ _ e));refine kk H7 r kp ⟨⟨_,dx,.ref t,ye,av,aN,g7,⟨t,rfl,gt7⟩,hy.up ks,ha.up ks⟩,⟨[(me,.ref u)],b7.at nrp g6,.cons ⟨rfl,⟨m0,m1⟩,u,_,ye,rfl,gu7,p4.up ks4,hy.up ks⟩ .nil,by simp⟩,m0,m1,z0,z1,sm,sv,vy⟩ ?_;cases z:H r with
 |none=>rfl
 |some o=>exact absurd rfl (nrH r o z nrp)
noncomputable def msD(me:Int)(b:Option ?S)(y:mF)(vo:Int)(dr:Option Rt):cy:=.tuple [.int me,RQ b,yeD y,.int vo,roD dr]
def aap(H:Hp)(a:Yc)(me:Int)(b:Option ?S)(y:mF)(vo:Int)(dr:Option Rt):Prop:=∃ba ye rv,H a=Ya (.tup [.int me,ba,ye,.int vo,rv])/\BaV H ba b/\VL H ye y/\Pl H 2 rv (roD dr)
theorem aap.up(s:my H H'){a:Yc}{me vo:Int}{b:Option ?S}{y:mF}(h:aap H a me b y vo dr):aap H' a me b y vo dr:=by
 obtain⟨ba,ye,rv,e1,e2,e3,e4⟩:=h;exact⟨ba,ye,rv,s _ _ e1,e2.up s,e3.up s,e4.up s⟩
theorem ags{a:Yc}{me vo:Int}{b:Option ?S}{y:mF}(h:aap H a me b y vo dr):Pl H 4 (.ref a) (msD me b y vo dr):=by
 obtain⟨ba,ye,rv,e1,e2,e3,e4⟩:=h;exact .tup e1 (by show 5<=10;decide) (.cons (.int _) (.cons (afV e2) (.cons (anD e3) (.cons (.int _) (.cons e4.mono .nil)))))
theorem ahr{x x0:V}{me vo:Int}{b:Option ?S}{y:mF}(l1:Pl H0 2 x0 (roD dr))(h:Pl H 4 x (msD me b y vo dr)):∃a,x=.ref a/\aap H a me b y vo dr:=by
 unfold msD at h;cases h with
 |tup e l hs=>
  cases hs with
  |cons h1 t1=>
   cases t1 with
   |cons h2 t2=>
    cases t2 with
    |cons h3 t3=>
     cases t3 with
     |cons h4 t4=>
      cases t4 with
      |cons h5 t5=>
       cases t5;cases h1;cases h4;exact⟨_,rfl,_,_,_,e,akJ h2,am6 h3,Vn l1 h5⟩
def wQ(K:Yd)(mg:Ym->Option Ye):Sp:=λvs H Q _=>E2 fun(p:Yc) (c:V)=>vs=[.ref p,c]/\(E9 λme hd b y vo ag d rp dr=>A3 ?BQ (Pl H 2 c (roD dr)) (∀H' a,aW H H'->aap H' a me b y vo dr->Q (.ref a) H'))
abbrev agx:List Ym:=["self","report"]
theorem Kq:aF ["self","report"] agx (az qH):=iw
include eV jU eU aL aN in
theorem J9(F:cB K "message" "Change.message" qH f fd):∅ 6 f fd agx (wQ K mg):=by
 refine F.oj Kq ?_;rintro _ _ _ _ _ _ _ _ hr _ _ _ ⟨p,c,rfl,h⟩;refine⟨_,(aq (aX (bw jU eU hr (aj (dY (aj ?A (aj ?A (aj ?A (aj ?A ?B0))))) ao)))),?_⟩;obtain⟨me,hd,b,y,vo,ag,d,rp,dr,S,hc,kk⟩:=h;obtain⟨⟨C,dx,ba,ye,av,eC,hp,hb,hy,ha⟩,_⟩:=id S;rw[aN]at eC;cases eC;obtain⟨cl,n1,n2,n3,n4,n5,n6,n7⟩:=id aL;cbv;intro t H1 ht s1 g1;cbv;refine⟨.ref t,rfl,msD me b y vo dr,ags ⟨ba,ye,c,g1,hb.up (.same s1),hy.up (.same s1),hc.up (.same s1)⟩,λH2 x' s2 p2=>?_⟩;obtain⟨a,rfl,m2⟩:=ahr hc p2;cbv;exact kk H2 a (s1.trans s2) m2
noncomputable def Bl(b b':Option ?S):Option ?S:=if bgt b' b=true then b' else b
noncomputable def gtR(b b':Option ?S)(rp:List ?AX):List ?AX:=if bgt b' b=true then[]else rp
def rG(K:Yd)(mg:Ym->Option Ye):Sp:=λvs H Q _=>E2 fun(p:Yc) (x:V)=>vs=[.ref p,x]/\(E9 λme hd b y vo ag d rp b'=>A3 ?BQ (BaV H x b') (∀H' d',KpP p H H'->BL K mg H' p me hd (Bl b b') y vo ag d' (gtR b b' rp)->(d'=d\/H d'=Yb)->Q .non H'))
abbrev Xl:List Ym:=["self","ballot"]
theorem Ep:aF ["self","ballot"] Xl (az lH):=iw
include eV lB lF aL aN in
theorem Du(F:cB K "see_ballot" "Change.see_ballot" lH f fd):∅ 2 f fd Xl (rG K mg):=by
 refine F.oj Ep ?_;rintro _ _ _ _ H _ _ _ hr _ _ _ ⟨p,x,rfl,h⟩;refine⟨_,(aq (cZ (du K rfl (bw lB lF hr (aj ?AU ?A5))) (ak ?GA
   (aq (aU (K:=K) rfl ?Q uM rfl))) bN)),?_⟩
 obtain⟨me,hd,b,y,vo,ag,d,rp,b',S,hx,kk⟩:=h;obtain⟨⟨C,dx,ba,ye,av,eC,hp,hb,hy,ha⟩,_,m0,m1,z0,z1,sm,sv,vy⟩:=id S;rw[aN]at eC;cases eC;obtain⟨cl,n1,n2,n3,n4,n5,n6,n7⟩:=id aL;cbv;refine⟨x,ba,rfl,b',b,hx,hb,?_⟩;cbv;refine iu (λh1=>?_) λh1=>?_
 ·have eg:Bl b b'=b':=if_pos h1;have er:gtR b b' rp=[]:=if_pos h1;cbv;intro H1 b1 g1;rw[adq]at g1;cbv;intro r H2 hr' s2 g2;have gp2:=s2 _ _ g1;have nrp:r≠p:=λz=>by rw[z,g1]at hr';cases hr'
  cbv;intro H3 b3 g3;rw[adJ]at g3;have kp:KpP p H H3:=λb'' o n e=>b3.at n (s2 _ _ (b1.at n e));have ks:my H H3:=λa xs e=>kp _ _ ?CB e;refine kk H3 r kp (by rw[eg,er];exact⟨⟨_,dx,x,ye,av,aN,g3,hx.up ks,hy.up ks,ha.up ks⟩,⟨[],b3.at nrp g2,.nil,.nil⟩,m0,m1,z0,z1,sm,sv,vy⟩) (.inr ?_);cases z:H r with
  |none=>rfl
  |some o=>rw[b1.at nrp z]at hr';cases hr'
 ·have eg:Bl b b'=b:=if_neg h1;have er:gtR b b' rp=rp:=if_neg h1;exact kk H d (λb'' o n e=>e) (by rw[eg,er];exact S) (.inl rfl)
theorem GD{K:Yd}{b:Option ?S}(h:BaV H v b):Dl K H v (RQ b):=.inl (afV (n:=0) h).dp
theorem xN(b:Option ?S):(RQ b).canLay0=true:=by cases b<;>rfl
theorem Q6(b:Option ?S):(RQ b).depth<=60:=by
 cases b with
 |none=>show 0<=60;decide
 |some q=>show 1<=60;decide
theorem Px(b c:Option ?S):(RQ b).eqv (RQ c)=decide (b=c):=by
 cases b with
 |none=>
  cases c with
  |none=>rfl
  |some r=>rfl
 |some q=>
  cases c with
  |none=>rfl
  |some r=>
   obtain⟨q1,q2⟩:=q;obtain⟨r1,r2⟩:=r;have e:(RQ (Ya (q1,q2))).eqv (RQ (Ya (r1,r2)))=(q1==r1&&(q2==r2&&true)):=rfl;rw[e,IB,dS,aw,beq_iff_eq,beq_iff_eq,decide_eq_true_iff];constructor
   ·rintro⟨rfl,rfl⟩;rfl
   ·intro z;cases z;exact⟨rfl,rfl⟩
noncomputable def lO(b:Option ?S)(y:mF)(vo:Int)(y':mF)(vo' me:Int):mF×Int:=
 match y' with
 |none=>(y,vo)
 |some q=>if b=Ya q.1/\bgt (Ya q.1) (yb y)=true then(Ya q,YQ vo' ?C4)else if yb y=Ya q.1 then(y,YQ vo vo')else(y,vo)
def vZ(K:Yd)(mg:Ym->Option Ye):Sp:=λvs H Q _=>E3 fun(p:Yc) (x:V) (vo':Int)=>vs=[.ref p,x,.int vo']/\(E9 λme hd b y vo ag d rp y'=>A4 ?BQ (VL H x y') (Sub vo' hd) (∀H',KpP p H H'->BL K mg H' p me hd b (lO b y vo y' vo' me).1 (lO b y vo y' vo' me).2 ag d rp->Q .non H'))
abbrev aaj:List Ym:=["self","yes","votes"]
theorem Le:aF ["self","yes","votes"] aaj (az qp):=iw
include eV zA iG lB lF jk jg aL aN in
theorem Ke(F:cB K "see_yes" "Change.see_yes" qp f fd):∅ 2 f fd aaj (vZ K mg):=by
 refine F.oj Le ?_;rintro _ _ _ _ H _ _ _ hr hu64 _ _ ⟨p,x,vo',rfl,h⟩;refine⟨_,(ak (cZ (bL oY ?AU cA ?BM) (aq VN) bN)
   (aq (cZ (PW.pt (uV (bL ?B8 ?L ?A ?BM) (qO (du K rfl (bw lB lF hr (aj ?L (aj (bw jk jg hr ?A5) ao))))))) (ak ?GA
   (aq (aU (K:=K) rfl ?Q (bU JP ?DR (bw zA iG hr ?A5)) rfl))) (aq (cZ (bL ?B8 ?L (bw jk jg hr ?A5) ?BM) (aq (aU (K:=K) rfl ?Q (bU JP ?A ?DR) rfl)) bN))))),?_⟩
 obtain⟨me,hd,b,y,vo,ag,d,rp,y',S,hx,sb,kk⟩:=h;obtain⟨⟨C,dx,ba,ye,av,eC,hp,hb,hy,ha⟩,⟨mm,hd',hr,nd⟩,m0,m1,z0,z1,sm,sv,vy⟩:=id S;rw[aN]at eC;cases eC;obtain⟨cl,n1,n2,n3,n4,n5,n6,n7⟩:=id aL;cases y' with
 |none=>
  obtain rfl:x=.non:=hx;refine Nz ?_;cbv;exact kk H ?IQ S
 |some q=>
  obtain⟨t,u,pv,rfl,g1,g2,g3⟩:=id hx;have st:=dC.of (K:=K) g1;have a0:mq [V.ref u,pv] 0=Ya (.ref u):=by kernel_rfl
  have bu:BaV H (.ref u) (Ya q.1):=⟨u,rfl,g2⟩;have ndp:d≠p:=bD hd' hp ?C;have kS:∀{H':Hp},KpP p H H'->my H H':=λk a xs e=>k _ _ ?CB e;have mk:∀(H':Hp) (ye':V) (y1:mF) (v1:Int),KpP p H H'->H' p=Ya (.ins bZ dx (Gu (.int me) (.int hd) ba ye' (.int v1) (.ref d) av))->VL H ye' y1->Sub v1 hd->(y1=Yb->v1=0)->BL K mg H' p me hd b y1 v1 ag d rp:=λH' ye' y1 v1 k e hy' s' v'=>
   ⟨⟨bZ,dx,ba,ye',av,aN,e,hb.up (kS k),hy'.up (kS k),ha.up (kS k)⟩,⟨mm,k _ _ ndp hd',hr.up (kS k),nd⟩,m0,m1,z0,z1,sm,s',v'⟩
  refine Nz ?_;cbv;rw[eO];cbv;refine⟨RQ (Ya q.1),RQ b,GD bu,GD hb,xN _,xN _,by have:=Q6 (Ya q.1);omega,?_⟩;rw[Px];have other:¬ (b=Ya q.1/\bgt (Ya q.1) (yb y)=true)->lO b y vo (Ya q) vo' me=if yb y=Ya q.1 then(y,YQ vo vo')else(y,vo):=λz=>if_neg z
  cbv;refine iu (λh1=>?_) λh1=>?_
  ·have h1:=of_decide_eq_true h1;cbv;refine⟨ye,rfl,y,hy,λbz hz=>?_⟩;cbv;refine⟨_,bz,rfl,_,_,bu,hz,?_⟩;cbv;refine iu (λh2=>?_) λh2=>?_
   ·have es:lO b y vo (Ya q) vo' me=(Ya q,YQ vo' ?C4):=if_pos ⟨h1.symm,h2⟩;rw[es]at kk;cbv;intro H1 b1 e1;rw[adl]at e1;cbv;refine⟨me,rfl,m0,by omega,?_⟩;cbv;intro H2 b2 e2;rw[O2]at e2;exact kk H2 (λb' o n e=>b2.at n (b1.at n e)) (mk H2 _ (Ya q) _ (λb' o n e=>b2.at n (b1.at n e)) e2 hx (sb.or z0 sm) (λz=>nomatch z))
   ·rw[other λz=>h2 z.2]at kk;cbv;refine⟨ye,rfl,y,hy,λbz hz=>?_⟩;refine⟨RQ (Ya q.1),RQ (yb y),GD bu,GD hz,xN _,xN _,by have:=Q6 (Ya q.1);omega,?_⟩;rw[Px];cbv;refine iu (λh3=>?_) λh3=>?_
    ·rw[if_pos (of_decide_eq_true h3).symm]at kk;cbv;intro H1 b1 e1;rw[O2]at e1;exact kk H1 (λb' o n e=>b1.at n e) ?CW
    ·rw[if_neg (λz=>h3 (decide_eq_true z.symm))]at kk;exact kk H ?IQ S
  ·rw[other λz=>h1 (decide_eq_true z.1.symm)]at kk;cbv;refine⟨ye,rfl,y,hy,λbz hz=>?_⟩;refine⟨RQ (Ya q.1),RQ (yb y),GD bu,GD hz,xN _,xN _,by have:=Q6 (Ya q.1);omega,?_⟩;rw[Px];cbv;refine iu (λh3=>?_) λh3=>?_
   ·rw[if_pos (of_decide_eq_true h3).symm]at kk;cbv;intro H1 b1 e1;rw[O2]at e1;exact kk H1 (λb' o n e=>b1.at n e) ?CW
   ·rw[if_neg (λz=>h3 (decide_eq_true z.symm))]at kk;exact kk H ?IQ S
noncomputable def gat(b:Option ?S)(y:mF)(me:Int):Bool:=match b with
 |none=>false
 |some q=>decide (q.2=me)&& !decide (yb y=Ya q)
def nM(K:Yd)(mg:Ym->Option Ye):Sp:=λvs H Q _=>∃(p:Yc),vs=?CD/\(E8 λme hd b y vo ag d rp=>BL K mg H p me hd b y vo ag d rp/\Q (.bl (gat b y me)) H)
abbrev aZ:List Ym:=["self"]
theorem Kg:aF ["self"] aZ (az qD):=iw
include eV jk jg aL aN in
theorem JH(F:cB K "gathers" "Change.gathers" qD f fd):∅ 2 f fd aZ (nM K mg):=by
 refine F.oj Kg ?_;rintro _ _ _ _ _ _ _ _ hr hu64 _ _ ⟨p,rfl,h⟩;refine⟨_,(aq (aX (uz (ie mQ ?A cA ?BM) (uz (ie KZ (aM ?A7 ?A aB ?G) ?A ?BM) (uA (ie ?EJ (bw jk jg hr ?A5) ?A ?BM)))))),?_⟩;obtain⟨me,hd,b,y,vo,ag,d,rp,S,kk⟩:=h;obtain⟨⟨C,dx,ba,ye,av,eC,hp,hb,hy,ha⟩,_⟩:=id S;rw[aN]at eC;cases eC;obtain⟨cl,n1,n2,n3,n4,n5,n6,n7⟩:=id aL;cases b with
 |none=>
  obtain rfl:ba=.non:=hb;cbv;exact kk
 |some q=>
  obtain⟨t,rfl,ht⟩:=id hb;have st:=dC.of (K:=K) ht;have a1:mq [V.int q.1,V.int q.2] 1=Ya (.int q.2):=by kernel_rfl
  have eg:gat (Ya q) y me=(decide (q.2=me)&& !decide (yb y=Ya q)):=rfl;rw[eg]at kk;cbv;rw[eO];cbv;refine iu (λh1=>?_) λh1=>?_
  ·rw[decide_eq_true (of_decide_eq_true h1),CS]at kk;cbv;refine⟨ye,rfl,y,hy,λbz hz=>?_⟩;cbv;refine⟨RQ (yb y),RQ (Ya q),GD hz,GD hb,xN _,xN _,by have:=Q6 (yb y);omega,?_⟩;rw[Px];exact kk
  ·rw[decide_eq_false (λz=>h1 (decide_eq_true z)),om]at kk;cbv;exact kk
noncomputable def plY(y:mF):Option Pn:=y.map (·.2)
noncomputable def Gy(ag:Option Pn)(y:mF)(vo hd:Int):Option Pn:=
 match ag with
 |none=>if PP vo hd=true then plY y else Yb
 |some p=>Ya p
def lJ(K:Yd)(mg:Ym->Option Ye):Sp:=λvs H Q _=>∃(p:Yc),vs=?CD/\(E8 λme hd b y vo ag d rp=>BL K mg H p me hd b y vo ag d rp/\∀H',KpP p H H'->BL K mg H' p me hd b y vo (Gy ag y vo hd) d rp->Q .non H')
theorem Gs:aF ["self"] aZ (az mZ):=iw
variable{zM:Yc}{vP:Yt}(kI:∅ 5 zM vP ahZ (vW K))(kO:iU K mg "more_than_half" zM vP ahZ)
include eV kI kO aL aN in
theorem Gp(F:cB K "see_votes" "Change.see_votes" mZ f fd):∅ 6 f fd aZ (lJ K mg):=by
 refine F.oj Gs ?_;rintro _ _ _ _ H _ _ _ hr _ _ _ ⟨p,rfl,h⟩;refine⟨_,(aq (cZ (PW.pt (uV ?ET (qO (du K rfl (bw kI kO hr (aj ?A ?A5)))))) (aq (aU (K:=K) rfl ?Q (aM ?A7 ?A aB ?G) rfl)) bN)),?_⟩;obtain⟨me,hd,b,y,vo,ag,d,rp,S,kk⟩:=h;obtain⟨⟨C,dx,ba,ye,av,eC,hp,hb,hy,ha⟩,⟨mm,hd',hr,nd⟩,m0,m1,z0,z1,sm,sv,vy⟩:=id S;rw[aN]at eC;cases eC;obtain⟨cl,n1,n2,n3,n4,n5,n6,n7⟩:=id aL;cases ag with
 |some p0=>
  rw[show Gy (Ya p0) y vo hd=Ya p0 from rfl]at kk;obtain⟨t,rfl⟩:∃t,av=.ref t:=by
   have ha:Pl H 2 av (plD p0):=ha;unfold plD at ha;cases ha;exact⟨_,rfl⟩
  cbv;rw[eO];cbv;exact kk H ?IQ S
 |none=>
  obtain rfl:av=.non:=by
   have ha:Pl H 2 av .none:=ha;cases ha;rfl
  cbv;rw[show decide (V.non=V.non)=true from decide_eq_true rfl];cbv;refine⟨vo,hd,rfl,sv.1,z0,z1,λH1 s1=>?_⟩;have hp1:=s1 _ _ hp;have S1:=S.same s1;cbv;refine iu (λh1=>?_) λh1=>?_
  ·cases y with
   |none=>
    rw[vy rfl,aek z0]at h1;cases h1
   |some q=>
    obtain⟨t,u,pv,rfl,g1,g2,g3⟩:=id hy;have g11:=s1 _ _ g1;have st:=dC.of (K:=K) g11;have a1:mq [V.ref u,pv] 1=Ya pv:=by kernel_rfl
    rw[show Gy Yb (Ya q) vo hd=Ya q.2 from if_pos h1]at kk;cbv;intro H2 b2 e2;rw[ajZ]at e2;have kp:KpP p H H2:=λb' o n e=>b2.at n ?EU;have ks:my H H2:=λa xs e=>kp _ _ ?CB e;exact kk H2 kp ⟨⟨_,dx,ba,_,pv,aN,e2,hb.up ks,hy.up ks,g3.up ks⟩,⟨mm,kp _ _ (bD hd' hp ?C) hd',hr.up ks,nd⟩,m0,m1,z0,z1,sm,sv,vy⟩
  ·rw[show Gy Yb y vo hd=Yb from if_neg h1]at kk;exact kk H1 (λb' o n e=>s1 _ _ e) S1
def wF(K:Yd)(mg:Ym->Option Ye):Sp:=λvs H Q _=>∃(p:Yc),vs=?CD/\(E8 λme hd b y vo ag d kvs=>BL K mg H p me hd b y vo ag d kvs/\∀H' z,aW H H'->Pl H' 2 z (agD ag)->Q z H')
theorem J8:aF ["self"] aZ (az qw):=iw
include eV jU eU aL aN in
theorem Jw(F:cB K "settled" "Change.settled" qw f fd):∅ 6 f fd aZ (wF K mg):=by
 refine F.oj J8 ?_;rintro _ _ _ _ _ _ _ _ hr _ _ _ ⟨p,rfl,h⟩;refine⟨_,(aq (aX (bw jU eU hr ?A5))),?_⟩;obtain⟨me,hd,b,y,vo,ag,d,kvs,S,kk⟩:=h;obtain⟨⟨C,dx,ba,ye,av,eC,hp,hb,hy,ha⟩,_⟩:=id S;rw[aN]at eC;cases eC;obtain⟨cl,n1,n2,n3,n4,n5,n6,n7⟩:=id aL;cbv;refine⟨av,rfl,agD ag,ha.mono.mono,λH1 x' s1 p1=>?_⟩;cbv;exact kk H1 x' s1 (Vn ha p1)
noncomputable def Ve(b b':Option ?S)(y1:mF)(me:Int)(rp:List ?AX)(me':Int)(dr:Option Rt)(y':mF):List ?AX:=
 if b'=Bl b b'/\gat (Bl b b') y1 me=true then Rr (gtR b b' rp) me' (dr.getD (0,false),y')else gtR b b' rp
def xj(K:Yd)(mg:Ym->Option Ye):Sp:=λvs H Q _=>E2 fun(p a:Yc)=>vs=[.ref p,.ref a]/\(E12 λme hd b y vo ag d rp me' b' y' vo'=>∃dr,A8 ?BQ (aap H a me' b' y' vo' dr) ((b'≠Yb->dr≠Yb)) (me'≠me) (0<=me') (me'<63) (Sub vo' hd) (∀H' d',(∀x o,x≠p->x≠d->H x=Ya o->H' x=Ya o)->BL K mg H' p me hd (Bl b b') (lO (Bl b b') y vo y' vo' me).1 (lO (Bl b b') y vo y' vo' me).2 (Gy ag (lO (Bl b b') y vo y' vo' me).1 (lO (Bl b b') y vo y' vo' me).2 hd) d' (Ve b b' (lO (Bl b b') y vo y' vo' me).1 me rp me' dr y')->(d'=d\/H d'=Yb)->Q .non H'))
abbrev aa8:List Ym:=["self","message"]
theorem wW:aF ["self","message","own"] aa8 (az pZ):=iw
variable{tE:Yc}{yV:Yc}{qy:Yc}{m8:Yc}{rN:Yt}{vQ:Yt}{pF:Yt}{lG:Yt}(lY:∅ 6 Jt Fg sO (Dd K))(tO:∅ 6 tE rN Xl (rG K mg))(tQ:Binds K rN Xl [])(zR:∅ 6 yV vQ aaj (vZ K mg))(zE:Binds K vQ aaj [])(yN:∅ 6 qy pF aZ (nM K mg))(kY:Binds K pF aZ [])(vB:∅ 6 m8 lG aZ (lJ K mg))(jr:Binds K lG aZ [])(dJ:bY K bZ "gathers" qy)(fU:bY K bZ "see_ballot" tE)(cW:bY K bZ "see_votes" m8)(iT:bY K bZ "see_yes" yV)
include eV lY eU tO tQ zR zE yN kY vB jr aL aN dJ fU cW iT in
theorem K8(F:cB K "receive" "Change.receive" pZ f fd):∅ 7 f fd aa8 (xj K mg):=by
 refine F.oj wW ?_;rintro _ _ _ _ H _ _ _ hr hu64 _ hu ⟨p,a,rfl,h⟩;refine⟨_,(ak (cZ (bL KZ ?L ?A ?BM) (aq VN) bN)
   (ak (bA (i:=2) wW.nd rfl ?E (bw lY eU hr ?B0))
   (ak (aP (aV (cj.cons aL.cl fU tO tQ cj.nil) ?Q hr (aj ?X ao)))
   (ak (aP (aV (cj.cons aL.cl iT zR zE cj.nil) ?Q hr (aj ?X (aj ?X ao))))
   (ak (cZ (PW.pt (uV (bL ?B8 ?X ?A ?BM) (qO (du K rfl (bh (cj.cons aL.cl dJ yN kY cj.nil) ?Q hr))))) (aq (adS hu ?A ?X (dY (aj ?X (aj ?X ao))) rfl)) bN)
   (aq (aP (bh (cj.cons aL.cl cW vB jr cj.nil) ?Q hr)))))))),?_⟩
 refine xl6 ?_;intro _ _ _ _;obtain⟨me,hd,b,y,vo,ag,d,rp,me',b',y',vo',dr,S,⟨ba',ye',rv,hm,hb',hy',hrv⟩,hdr,ne,e0,e1,sb,kk⟩:=h;obtain⟨⟨C,dx,ba,ye,av,eC,hp,hb,hy,ha⟩,⟨_,hd',_⟩,_⟩:=id S;rw[aN]at eC;cases eC;obtain⟨cl,n1,n2,n3,n4,n5,n6,n7⟩:=id aL;have sm:=dC.of (K:=K) hm;have a0:mq [V.int me',ba',ye',.int vo',rv] 0=Ya (.int me'):=by kernel_rfl
 refine Nz ?_;cbv;refine iu (λh1=>absurd (of_decide_eq_true h1) ne) λ_=>?_;cbv;refine⟨.ref a,rfl,msD me' b' y' vo' dr,ags ⟨ba',ye',rv,hm,hb',hy',hrv⟩,λH1 x' s1 p1=>?_⟩;obtain⟨w,rfl,ba1,ye1,rv1,hw,hb1,hy1,hrv1⟩:=ahr hrv p1;have S1:=S.same s1;have hp1:=s1 _ _ hp;have sw:=dC.of (K:=K) hw;have a1:mq ?DI 1=Ya ba1:=by kernel_rfl
 cbv;refine⟨p,ba1,rfl,me,hd,b,y,vo,ag,d,rp,b',S1,hb1,λH2 d2 k2 S2 w2=>?_⟩;have nwp:w≠p:=bD hw hp1 ?C;have kt2:my H1 H2:=λa xs e=>k2 _ _ (bD e hp1 ?C) e;have hw2:=kt2 _ _ hw;have sw2:=dC.of (K:=K) hw2;have hb2:=hb1.up kt2;have hy2:=hy1.up kt2;have hrv2:=hrv1.up kt2;have a2:mq ?DI 2=Ya ye1:=by kernel_rfl
 have a3:mq ?DI 3=Ya (.int vo'):=by kernel_rfl
 have a4:mq ?DI 4=Ya rv1:=by kernel_rfl
 have a0':mq ?DI 0=Ya (.int me'):=by kernel_rfl
 obtain⟨⟨C2,dx2,ba2,ye2,av2,eC2,hp2,_⟩,_,_⟩:=id S2;rw[aN]at eC2;cases eC2;have w2':d2=d\/H d2=none:=by
  rcases w2 with q|q
  ·exact .inl q
  ·exact .inr (s1.free q)
 have nd2:∀x o,x≠d->H x=Ya o->x≠d2:=λx o n e z=>by
  rcases w2' with q|q
  ·exact n (z.trans q)
  ·rw[z,q]at e;cases e
 cbv;refine⟨p,ye1,vo',rfl,me,hd,_,y,vo,ag,d2,gtR b b' rp,y',S2,hy2,sb,λH3 k3 S3=>?_⟩;unfold Ve at kk;generalize (lO (Bl b b') y vo y' vo' me).1=y1 at S3 kk;generalize (lO (Bl b b') y vo y' vo' me).2=v1 at S3 kk;generalize gtR b b' rp=rp1 at S3 kk;have kt3:my H2 H3:=λa xs e=>k3 _ _ (bD e hp2 ?C) e;have hw3:=kt3 _ _ hw2;have sw3:=dC.of (K:=K) hw3;have hb3:=hb2.up kt3;have hy3:=hy2.up kt3;have hrv3:=hrv2.up kt3;obtain⟨⟨C3,dx3,ba3,ye3,av3,eC3,hp3,hbb3,hyy3,haa3⟩,⟨m3,hd3,hr3,ndk3⟩,m0,m1,z0,z1,smm,svv,vyy⟩:=id S3;rw[aN]at eC3;cases eC3;have keep:∀x o,x≠p->x≠d->H x=Ya o->H3 x=Ya o:=λx o n1 _ e=>k3 _ _ n1 (k2 _ _ n1 ?EU);refine yJ (λσ' B=>A3 (σ'=[Ya (.ref p),Ya (.ref a),Ya (.ref w)]) ((∀x o,x≠p->x≠d->H x=Ya o->B x=Ya o)) (BL K mg B p me hd (Bl b b') y1 v1 ag d2 (if b'=Bl b b'/\gat (Bl b b') y1 me=true then Rr rp1 me' (dr.getD (0,false),y')else rp1))) ?_ λN rest=>?_
 ·rintro σ' B ⟨rfl,kB,S4⟩;obtain⟨⟨C4,dx4,ba4,ye4,av4,eC4,hp4,_⟩,_⟩:=id S4;rw[aN]at eC4;cases eC4;cbv;refine⟨p,rfl,me,hd,_,y1,v1,ag,d2,_,S4,λH5 k5 S5=>?_⟩;cbv;exact kk H5 d2 (λx o n1 n2 e=>k5 _ _ n1 (kB x o n1 n2 e)) S5 w2'
 ·cbv;refine⟨RQ b',RQ (Bl b b'),GD hb3,GD hbb3,xN _,xN _,by have:=Q6 b';omega,?_⟩;rw[Px];cbv;refine iu (λh1=>?_) λh1=>?_
  ·have h1:=of_decide_eq_true h1;cbv;refine⟨p,rfl,me,hd,_,y1,v1,ag,d2,rp1,S3,?_⟩;cbv;refine iu (λh2=>?_) λh2=>?_
   ·cbv;intro t H4 ht s4 g4;have hp4:=s4 _ _ hp3;have hw4:=s4 _ _ hw3;have sw4:=dC.of (K:=K) hw4;have hd4:=s4 _ _ hd3;have lk:m3.length<YB:=bx (by have:=Kw ndk3 hr3.rg;omega);cbv;intro H5 b5 g5;have kt5:my H3 H5:=λx xs e=>b5.at (bD e hd3 ?C) (s4 _ _ e);have ndp:d2≠p:=bD hd3 hp3 ?C;refine rest _ _ ⟨rfl,λx o n1 n2 e=>b5.at (nd2 x o n2 e) (s4 _ _ (keep x o n1 n2 e)),?_⟩;rw[if_pos ⟨h1,h2⟩];obtain⟨rt,rfl⟩:∃rt,dr=Ya rt:=by
     cases dr with
     |some rt=>exact⟨rt,rfl⟩
     |none=>
      refine absurd rfl (hdr λz=>?_);rw[<-h1,z]at h2;cases h2
    exact⟨⟨_,dx3,ba3,ye3,av3,aN,b5.at ndp.symm hp4,hbb3.up kt5,hyy3.up kt5,haa3.up kt5⟩,⟨uf m3 me' (.ref t),g5,(hr3.up kt5).put ⟨e0,e1⟩ (b5.at (bD g4 hd4 ?C) g4) (hrv3.up kt5) (hy3.up kt5),adc _ _ _ ndk3⟩,m0,m1,z0,z1,smm,svv,vyy⟩
   ·exact rest _ _ ⟨rfl,keep,by rw[if_neg λz=>h2 z.2];exact S3⟩
  ·cbv;exact rest _ _ ⟨rfl,keep,by rw[if_neg λz=>h1 (decide_eq_true z.1)];exact S3⟩
theorem ado:∀(i n m:Nat),(n-(n &&& m)).testBit i=(n.testBit i&& !m.testBit i)
 |0,n,m=>by
  have h1:(n &&& m)%2=(n%2)*(m%2):=by
   have:=i7 n m 0;simp only[zD]at this;rcases ck n with a|a<;>rcases ck m with b|b<;>rcases ck (n &&& m)with c|c<;>rw[a,b,c]at this⊢ <;>simp at this⊢
  have h2:n &&& m<=n:=AS;have h3:(n-(n &&& m))%2=(n%2)*(1-m%2):=by
   rcases ck n with a|a<;>rcases ck m with b|b<;>rw[a,b]at h1⊢ <;>omega
  simp only[zD];rw[h3];rcases ck n with a|a<;>rcases ck m with b|b<;>rw[a,b]<;>decide
 |i+ 1,n,m=>by
  have h1:(n &&& m)%2<=n%2:=by
   have:=i7 n m 0;simp only[zD]at this;rcases ck n with a|a<;>rcases ck (n &&& m)with c|c<;>rw[a,c]at this⊢ <;>simp at this⊢
  have h2:n &&& m<=n:=AS;have h3:(n &&& m) / 2=n / 2 &&& m / 2:=Nat.and_div_two;have h4:(n-(n &&& m)) / 2=n / 2-(n / 2 &&& m / 2):=by omega
  rw[zI,zI,zI,h4,ado i (n / 2) (m / 2)]
theorem aa3{m:Int}(n0:0<=n)(m0:0<=m):YA n (YC m)=((n.toNat-(n.toNat &&& m.toNat):Nat):Int):=by
 unfold YA;rw[decide_eq_true n0,decide_eq_false (show ¬ (0:Int)<=YC m by unfold YC;omega)];show n-((n.toNat &&& (YC (YC m)).toNat:Nat):Int)=_;rw[show YC (YC m)=m by unfold YC;omega];have:n.toNat &&& m.toNat<=n.toNat:=AS;omega
theorem tY{m:Int}(n0:0<=n)(m0:0<=m):0<=YA n (YC m)/\∀i,(YA n (YC m)).toNat.testBit i=(n.toNat.testBit i&& !m.toNat.testBit i):=by
 rw[aa3 n0 m0];exact⟨cc _,λi=>by rw[Yy];exact ado i _ _⟩
noncomputable def eno(hd dd:Int)(ks:List Int):Bool:=decide (∀h∈GB.hl hd,dd.toNat.testBit h.toNat=true\/h∈ks)&&decide (2*((GB.hl hd).filter λh=>decide (h∈ks)).length>(GB.hl hd).length)
theorem af9{h:Int}(m:h∈GB.hl n):0<=h/\h<63/\n.toNat.testBit h.toNat=true:=by
 unfold GB.hl at m;obtain⟨k,hk,rfl⟩:=YD.mp m;obtain⟨h1,h2⟩:=GB.J0.mp hk;exact⟨by omega,by omega,by rw[Yy];exact h2⟩
theorem ajk{hd:Int}(h0:0<=hd)(h1:hd<9223372036854775808)(d0:0<=dd)(s:K1 n ks):decide (YA (YA hd (YC dd)) (YC n)=0)=decide (∀h∈GB.hl hd,dd.toNat.testBit h.toNat=true\/h∈ks):=by
 obtain⟨a0,a1⟩:=tY h0 d0;obtain⟨b0,b1⟩:=tY a0 s.1;apply decide_eq_decide.mpr;constructor
 ·intro z h hh;obtain⟨r0,r1,tb⟩:=af9 hh;have:=b1 h.toNat
  rw[z,show tP 0=0 from rfl,de,a1,tb]at this;cases e1:dd.toNat.testBit h.toNat with
  |true=>exact .inl rfl
  |false=>
   rw[e1]at this;cases e2:n.toNat.testBit h.toNat with
   |true=>exact .inr (by have:=(s.2.2 h.toNat).mp e2;rwa [vt r0]at this)
   |false=>rw[e2]at this;cases this
 ·intro z;have:(YA (YA hd (YC dd)) (YC n)).toNat=0:=by
   apply kT;intro i;rw[de,b1,a1];cases e0:hd.toNat.testBit i with
   |false=>rfl
   |true=>
    have i63:i<63:=by
     refine FK λhi=>?_;have:=og (x:=hd.toNat) (i:=i) (YM (show hd.toNat<2^63 by omega) (kU ?B hi));rw[this]at e0;cases e0
    have:=z (i:Int) (GB.VR.mpr ⟨i63,e0⟩);rw[Yy]at this;rcases this with w|w
    ·rw[w];rfl
    ·rw[(s.2.2 i).mpr w];simp
  omega
theorem ahh{hd:Int}(h0:0<=hd)(s:K1 n ks):PP n hd=decide (2*((GB.hl hd).filter λh=>decide (h∈ks)).length>(GB.hl hd).length):=by
 have e:GB.hl (YA n hd)=(GB.hl hd).filter λh=>decide (h∈ks):=by
  rw[xr s.1 h0];unfold GB.hl GB.W3;rw[Yy,AU,List.filter_filter];congr 1;apply List.filter_congr;intro i _;rw[i7,dS,aw,aw,s.2.2 i];show _↔decide ((i:Int)∈ks)=true/\_;rw[decide_eq_true_iff]
 unfold PP;rw[e];apply decide_eq_decide.mpr;omega
def rm(K:Yd)(mg:Ym->Option Ye):Sp:=λvs H Q _=>E2 fun(p:Yc) (dd:Int)=>vs=[.ref p,.int dd]/\(E8 λme hd b y vo ag d rp=>A3 ?BQ (0<=dd) (∀H',aW H H'->Q (.bl (eno hd dd ?E1)) H'))
abbrev XF:List Ym:=["self","doubts"]
theorem qY:aF ["self","doubts","reporting"] XF (az lL):=iw
variable{Pq:Yc}{Lp:Yt}(aaL:∅ 5 Pq Lp yx (MP K))(Fw:iU K mg "set_of" Pq Lp yx)
include eV kI kO aaL Fw gM aL aN in
theorem Ex(F:cB K "has_enough" "Change.has_enough" lL f fd):∅ 6 f fd XF (rm K mg):=by
 refine F.oj qY ?_;rintro _ _ _ _ H _ _ _ hr _ _ _ ⟨p,dd,rfl,h⟩;refine⟨_,(ak (bA (i:=2) qY.nd rfl ?E (bw aaL Fw hr (aj (cD (abV rfl) ?AE gM dy ?A5) ao)))
   (aq (aX (uz (ie KZ (bU Fl (bU Fl ?A (K3 Mh ?AU)) (K3 Mh ?DR)) aB ?BM) (uA (bw kI kO hr (aj ?DR ?A5))))))),?_⟩
 obtain⟨me,hd,b,y,vo,ag,d,rp,S,d0,kk⟩:=h;obtain⟨⟨C,dx,ba,ye,av,eC,hp,_⟩,⟨kvs,hd',hr,nd⟩,m0,m1,z0,z1,_⟩:=id S;rw[aN]at eC;cases eC;obtain⟨cl,n1,n2,n3,n4,n5,n6,n7⟩:=id aL;have fk:=Kw nd hr.rg;rw[<-hr.keys]at kk;unfold eno at kk;cbv;refine⟨d,kvs,rfl,.inl hd',by omega,λl hl=>?_⟩;have s1:=aH (o:=.lst ((kvs.map (·.1)).map V.int)) hl;have g1:(upd H l (.lst ((kvs.map (·.1)).map V.int))) l=Ya (.lst ((kvs.map (·.1)).map V.int)):=aA;generalize upd H l (.lst ((kvs.map (·.1)).map V.int))=H1 at s1 g1⊢;have hp1:=s1 _ _ hp;cbv;refine⟨l,rfl,kvs.map (·.1),bK.of g1,λx hx=>?_,λn ns=>?_⟩
 ·obtain⟨e,he,rfl⟩:=YD.mp hx;exact hr.rg e he
 rw[<-ajk z0 z1 d0 ns,<-ahh z0 ns]at kk;cbv;refine iu (λh1=>?_) λh1=>?_
 ·cbv;refine⟨n,hd,rfl,ns.1,z0,z1,λH2 s2=>?_⟩;have:=kk H2 (s1.trans s2);rw[h1,CS]at this;exact this
 ·cbv;have:=kk H1 s1;rw[(show _=false from dP.mpr h1),om]at this;exact this
def EmD(H:Hp)(v:V):Prop:=∃d,v=.ref d/\H d=Ya (.dK [])
theorem EmD.same(h:EmD H v)(s:aW H H'):EmD H' v:=let ⟨d,e,g⟩:=h;⟨d,e,s _ _ g⟩
def FJ(K:Yd):Sp:=λvs H Q _=>∃(a:Yc),vs=?BV/\∃xs,A3 (bK K H a xs) ((∀x∈xs,EmD H x)) (∀H' l,aW H H'->H l=Yb->H' l=Ya (.lst [])->Q (.ref l) H')
theorem uT:aF ["some","hands","counts"] yx (az xO):=iw
variable(adz:mg "set"=Yb)(d7:mg "sorted"=Yb)
include eV gM adz d7 in
theorem Pu(F:cB K "hands_among" "hands_among" xO f fd):∅ 1 f fd yx (FJ K):=by
 refine F.oj uT ?_;rintro _ A _ _ H _ _ _ hr _ _ _ ⟨a,rfl,h⟩;refine⟨_,(ak (bA (i:=1) uT.nd rfl ?E (dZ ao))
   (ak (lK ah rfl ?CM (aO (i:=2) uT.nd rfl ?E)
   (aq (aP (ad3 nr zS z5 TX ?AU (aj (cD (acR rfl) ?AE gM dy ?AW) ao)))))
   (aq (aX (cL (Kl rfl) ?AE d7 ae (aj (cD (UW rfl) ?AE adz (show i0 "set"=Ya (.type "set") by decide +kernel) ?B0) ao)))))),?_⟩
 refine xl3 ?_;intro _;obtain⟨xs,hS,em,kk⟩:=h;cbv;intro l H1 hl s1 g1;have hS1:=s1.seq hS;cbv;let jJ1:Nat->St->Hp->Prop:=λi σ A=>∃v,A3 (σ=[Ya (.ref a),Ya (.ref l),v]) (aW H A) (A l=Ya (.lst []));refine iV (xs:=xs) jJ1 ⟨Yb,rfl,s1,g1⟩ (λi σ A _ z=>by obtain⟨_,_,z,_⟩:=z;exact z.seq hS) ?_ ?_
 ·rintro i x σ A hx ⟨v,rfl,sA,gl⟩;obtain⟨d,rfl,hd⟩:=em x (YW hx);have hdA:=sA _ _ hd;cbv;refine⟨d,[],rfl,.inl hdA,YX _,λl2 hl2=>⟨l,l2,[],[],rfl,rfl,by rw[aQ (bB gl hl2)];exact gl,aA,YX _,_,rfl,λb o e=>?_,aA⟩⟩;rw[aQ (bB e hl),aQ (bB (sA b o e) hl2)];exact sA b o e
 rintro σ A ⟨v,rfl,sA,gl⟩;have g0:bK K A l ?B6:=bK.of gl;cbv;refine⟨l,[],rfl,g0,YX _,λq ks hq nd mem=>?_⟩;obtain rfl:ks=[]:=by
  cases ks with
  |nil=>rfl
  |cons k ks=>exact nomatch (mem k).mp Yf
 refine⟨q,[],rfl,aA,.nil,by decide,λr ns hr pm _=>?_⟩;obtain rfl:ns=[]:=xy.mp pm;exact kk _ r (sA.trans ((aH hq).trans (aH hr))) (sA.free ((aH hq).free hr)) aA
def Ey(K:Yd):Sp:=λvs H Q _=>∃(a:Yc),vs=?BV/\((bK K H a []\/dC K H a [])/\∀H' d,aW H H'->H d=Yb->H' d=Ya (.dK [])->Q (.ref d) H')
abbrev UT:List Ym:=["pairs"]
theorem aat:aF ["pairs"] UT (az IW):=iw
include eV jK in
theorem abb(F:cB K "unpacked" "unpacked" IW f fd):∅ 1 f fd UT (Ey K):=by
 refine F.oj aat ?_;rintro _ A _ s H _ Q _ _ _ _ _ ⟨a,rfl,h⟩;refine⟨_,(aq (aX (cD (abK rfl) ?AE jK iq (aj (cP ["hand","count"] [Yb,Yb] rfl rfl ?J (aih (K:=K) rfl ?Q) ?BN ?E6 ?AS) ao)))),?_⟩;obtain⟨hS,kk⟩:=h;have fin:∀(D:Yc) (_:H D=Yb) (A:Hp),aW H A->A D=Ya (.lst [])->∃(a:Yc) (ys:List V) (qs:List ?S),[V.ref D]=?BV/\A a=Ya (.lst ys)/\Prs A ys qs/\(qs.map (·.1)).Nodup/\qs.length<=1000/\∀p,A p=Yb->Q (.ref p) (upd A p (.dK (dI qs))):=λD hD A s g=>⟨D,[],[],rfl,g,.nil,.nil,YX _,λp hp=>kk _ p (s.trans (aH hp)) (s.free hp) aA⟩;rcases hS with hS|hS
 ·refine⟨_,rfl,a,rfl,.inl ⟨⟨_,hS⟩,λD hD=>?_⟩⟩;refine cO (K:=K) (a:=a) (xs:=[]) (λi σ A=>aW H A/\A D=Ya (.lst [])) ⟨aH hD,aA⟩ (λi σ A _ z=>z.1.seq hS) ?AC λσ A z=>fin D hD A z.1 z.2
 ·refine⟨_,rfl,a,rfl,.inr ⟨⟨_,hS⟩,λD hD=>?_⟩⟩;refine KJ (K:=K) (a:=a) (xs:=[]) (λi σ A=>aW H A/\A D=Ya (.lst [])) ⟨aH hD,aA⟩ (λi σ A _ z=>DW z.1 hS) ?AC λσ A z=>fin D hD A z.1 z.2
def TV(K:Yd):Sp:=λvs H Q _=>E2 fun(d e:Yc)=>vs=[.ref d,.ref e]/\(A3 (H d=Ya (.dK [])) (H e=Ya (.dK [])) (∀H' p,aW H H'->H p=Yb->H' p=Ya (.dK [])->Q (.ref p) H'))
theorem aed:aF ["one","other"] Ss (az Qf):=iw
variable{GF:Yc}{Jh:Yc}{Em:Yt}{De:Yt}(qK:∅ 1 GF Em yx (FJ K))(qW:iU K mg "hands_among" GF Em yx)(Ax:∅ 1 Jh De UT (Ey K))(pX:iU K mg "unpacked" Jh De UT)
include eV qK qW Ax pX in
theorem aeD(F:cB K "joined" "joined" Qf f fd):∅ 2 f fd Ss (TV K):=by
 refine F.oj aed ?_;rintro _ A _ _ _ _ _ _ hr _ _ _ ⟨d,e,rfl,h⟩;refine⟨_,(aq (aX (bw Ax pX hr (aj (cP ["one","other","hand"] [Ya 0,Ya 1,Yb] rfl rfl ?J (bM (K:=K) rfl (bw qK qW hr (aj (dZ (aj ?Q ?B0)) ao))) ?CL ?AA ?AS) ao)))),?_⟩;obtain⟨hd,he,kk⟩:=h;cbv;intro l0 H1 hl0 s1 g1;cbv;refine⟨l0,rfl,_,bK.of g1,λx hx=>?_,λH2 l s2 hl g2=>?_⟩
 ·rcases Yz.mp hx with z|z
  ·exact⟨d,z,s1 _ _ hd⟩
  ·exact⟨e,YU.mp z,s1 _ _ he⟩
 have g2':bK K H2 l []:=bK.of g2;cbv;intro D hD;refine cO (K:=K) (a:=l) (xs:=[]) (λi σ A=>aW H2 A/\A D=Ya (.lst [])) ⟨aH hD,aA⟩ (λi σ A _ z=>z.1.seq g2') ?AC λσ A z=>?_;have s2A:=s1.trans (s2.trans z.1);exact⟨D,rfl,.inl (bK.of z.2),λH3 p s3 hp g3=>kk H3 p (s2A.trans s3) (s2A.free hp) g3⟩
def Ux(K:Yd):Sp:=λvs H Q _=>∃(a:Yc),vs=?BV/\∃xs,A3 (bK K H a xs) ((∀x∈xs,EmD H x)) (∀H' p,aW H H'->H p=Yb->H' p=Ya (.dK [])->Q (.ref p) H')
theorem afp:aF ["some"] yx (az Pz):=iw
include eV qK qW Ax pX in
theorem ae3(F:cB K "common" "common" Pz f fd):∅ 2 f fd yx (Ux K):=by
 refine F.oj afp ?_;rintro _ A _ _ _ _ _ _ hr _ _ _ ⟨a,rfl,h⟩;refine⟨_,(aq (aX (bw Ax pX hr (aj (cP ["some","hand"] [Ya 0,Yb] rfl rfl ?J (bM (K:=K) rfl (bw qK qW hr ?IS)) ?AD ?AA ?AS) ao)))),?_⟩;obtain⟨xs,hS,em,kk⟩:=h;cbv;refine⟨a,rfl,xs,hS,em,λH2 l s2 hl g2=>?_⟩;have g2':bK K H2 l []:=bK.of g2;cbv;intro D hD;refine cO (K:=K) (a:=l) (xs:=[]) (λi σ A=>aW H2 A/\A D=Ya (.lst [])) ⟨aH hD,aA⟩ (λi σ A _ z=>z.1.seq g2') ?AC λσ A z=>?_;have s2A:=s2.trans z.1;exact⟨D,rfl,.inl (bK.of z.2),λH3 p s3 hp g3=>kk H3 p (s2A.trans s3) (s2A.free hp) g3⟩
def Ub(K:Yd):Sp:=λvs H Q _=>∃(d:Yc),vs=[.ref d]/\(H d=Ya (.dK [])/\∀H' t,aW H H'->H t=Yb->H' t=Ya (.tup [])->Q (.ref t) H')
abbrev aaH:List Ym:=["counts"]
theorem afe:aF ["counts"] aaH (az Qj):=iw
include eV d7 dW in
theorem afa(F:cB K "packed" "packed" Qj f fd):∅ 1 f fd aaH (Ub K):=by
 refine F.oj afe ?_;rintro _ A _ _ H _ _ _ _ _ _ _ ⟨d,rfl,h⟩;refine⟨_,(aq (aX (cD ?D4 ?AE dW bp (aj (cP ["counts","hand"] [Ya 0,Yb] rfl rfl ?J (bM (K:=K) rfl (cL (Wr rfl) ?AE d7 ae ?IS)) ?AD ?E6 ?AS) ao)))),?_⟩;obtain⟨hd,kk⟩:=h;cbv;refine⟨d,[],rfl,.inl hd,by decide,λl S hl pm _=>?_⟩;obtain rfl:S=[]:=xy.mp pm;have s1:=aH (o:=.lst ?B6) hl;have g1:(upd H l (.lst ?B6)) l=Ya (.lst []):=aA;generalize upd H l (.lst ?B6)=H1 at s1 g1⊢;have g1':bK K H1 l []:=bK.of g1;cbv;intro D hD;refine cO (K:=K) (a:=l) (xs:=[]) (λi σ A=>aW H1 A/\A D=Ya (.lst [])) ⟨aH hD,aA⟩ (λi σ A _ z=>z.1.seq g1') ?AC λσ A z=>?_;have gD:bK K A D []:=bK.of z.2;cbv;intro t A1 ht s3 g3;exact kk A1 t (s1.trans (z.1.trans s3)) (s1.free (z.1.free ht)) g3
def RD(K:Yd):Sp:=λvs H Q _=>∃(v:V),vs=[v]/\False
theorem abN:aF ["call"] ["call"] (az Lk):=iw
include eV in
theorem ab9(F:cB K "rank_of" "rank_of" Lk f fd):∅ 1 f fd ["call"] (RD K):=by
 refine F.oj abN ?_;rintro _ _ _ _ _ _ _ _ _ _ _ _ ⟨v,rfl,h⟩;refine⟨_,(aq (aX iz)),?_⟩;exact h.elim
def Pj(K:Yd):Sp:=λvs H Q _=>∃(a:Yc),vs=?BV/\(bK K H a []/\∀H' l,aW H H'->H l=Yb->H' l=Ya (.lst [])->Q (.ref l) H')
theorem abT:aF ["calls"] ["calls"] (az Ls):=iw
variable{Tn:Yc}{QR:Yt}(Gk:∅ 1 Tn QR ["call"] (RD K))(uv:iU K mg "rank_of" Tn QR ["call"])
include eV Gk uv d7 in
theorem abC(F:cB K "by_rank" "by_rank" Ls f fd):∅ 3 f fd ["calls"] (Pj K):=by
 refine F.oj abT ?_;rintro _ _ _ _ _ _ _ _ hr _ _ _ ⟨a,rfl,h⟩;refine⟨_,(aq (aX (acw (K:=K) rfl ?IS ?AE d7 Gk uv.mg uv.bd ?AE hr))),?_⟩;obtain⟨hS,kk⟩:=h;cbv;refine⟨a,[],[],rfl,hS,by decide,rfl,(λk hk=>nomatch hk),(λi v k H3 Q' hv=>by simp at hv),λD ws H' hD pm s' g'=>?_⟩;obtain rfl:ws=[]:=xy.mp pm;exact kk H' D s' hD g'
def Hb(K:Yd):Sp:=λvs H Q _=>E2 fun(a d:Yc)=>vs=[.ref a,.ref d,.int 0]/\((bK K H a []\/dC K H a [])/\Q (.int 0) H)
abbrev X8:List Ym:=["places","counts","start"]
theorem yg:aF ["places","counts","start","at"] X8 (az Ae):=iw
include eV oM in
theorem RZ(F:cB K "first_open" "first_open" Ae f fd):∅ 1 f fd X8 (Hb K):=by
 refine F.oj yg ?_;rintro _ _ _ _ H _ _ _ _ _ _ _ ⟨a,d,rfl,h⟩;refine⟨_,(ak (bA (i:=3) yg.nd rfl ?E ?DR)
   (ak (Rk ah (PW.pt (uV (bL aab ?BW (cL ?EZ ?AE oM gF ?IS) ?BM) (qO Fx)))
   (aq (bA (i:=3) yg.nd rfl ?E (bU jH ?BW aB))))
   (aq (aX ?BW)))),?_⟩
 refine xl3 ?_;intro _;obtain⟨hS,kk⟩:=h;cbv;refine⟨λM σ H'=>σ=[Ya (.ref a),Ya (.ref d),Ya (.int 0),Ya (.int 0)]/\H'=H,⟨0,rfl,rfl⟩,?_⟩;rintro M σ H' ⟨rfl,rfl⟩;cbv;refine iu (λz=>absurd ?D5 ?B) λ_=>?_;cbv;exact kk
def Qk(K:Yd):Sp:=λvs H Q _=>∃(a:Yc),vs=[.ref a,.int 0]/\((bK K H a []\/dC K H a [])/\Q .non H)
abbrev Xr:List Ym:=["places","at"]
theorem acg:aF ["places","at"] Xr (az Mr):=iw
include eV oM in
theorem aca(F:cB K "name_at" "name_at" Mr f fd):∅ 1 f fd Xr (Qk K):=by
 refine F.oj acg ?_;rintro _ _ _ _ _ _ _ _ _ _ _ _ ⟨a,rfl,h⟩;refine⟨_,(aq (aX (rM (bL aab ?AU (cL ?EZ ?AE oM gF ?IS) ?BM) iz cA))),?_⟩;obtain⟨hS,kk⟩:=h;cbv;refine iu (λz=>absurd ?D5 ?B) λ_=>?_;exact kk
def zF(K:Yd):Sp:=λvs H Q _=>E4 fun(a:Yc) (x y z:V)=>vs=[.ref a,x,y,z]/\(bK K H a []/\Q .non H)
abbrev Xv:List Ym:=["callers","ranked","counts","name"]
theorem yI:aF ["callers","ranked","counts","name","caller","call"] Xv (az rT):=iw
include eV in
theorem MF(F:cB K "first_to_take" "first_to_take" rT f fd):∅ 1 f fd Xv (zF K):=by
 refine F.oj yI ?_;rintro _ A _ _ H _ _ _ _ _ _ _ ⟨a,x,y,z,rfl,h⟩;refine⟨_,(ak (lK ah rfl ?CM (aO (i:=4) yI.nd rfl ?E)
   (ak cJ
   (aq cJ)))
   (aq (aX cA))),?_⟩
 obtain⟨hS,kk⟩:=h;cbv;refine iV (K:=K) (a:=a) (xs:=[]) (λi σ A=>H=A/\σ=[Ya (.ref a),Ya x,Ya y,Ya z,Yb,Yb]) ⟨rfl,rfl⟩ (λi σ A _ z=>by rw[<-z.1];exact hS) ?AC ?_;rintro σ _ ⟨rfl,rfl⟩;cbv;exact kk
def acC(K:Yd):Sp:=λvs H Q _=>E3 fun(d a b:Yc)=>vs=[.ref d,.ref a,.ref b]/\(A4 (H d=Ya (.dK [])) (bK K H a []) ((bK K H b []\/dC K H b [])) (∀H' t l r,aW H H'->H l=Yb->H r=Yb->H' t=Ya (.tup [.ref l,.ref r])->H' l=Ya (.lst [])->H' r=Ya (.dK [])->Q (.ref t) H'))
abbrev Dg:List Ym:=["counts","calls","places"]
theorem Ih:aF ["counts","calls","places","reached","ranked","callers","row","at","call"] Dg (az agJ):=iw
variable{aa9:Yc}{JW:Yc}{TQ:Yc}{BJ:Yc}{Uu:Yt}{HN:Yt}{Ra:Yt}{zG:Yt}(zg:∅ 2 aa9 Uu Ss (TV K))(yW:iU K mg "joined" aa9 Uu Ss)(JT:∅ 2 JW HN X8 (Hb K))(JF:iU K mg "first_open" JW HN X8)(U8:∅ 2 TQ Ra Xr (Qk K))(T8:iU K mg "name_at" TQ Ra Xr)(Cy:∅ 2 BJ zG Xv (zF K))(Ci:iU K mg "first_to_take" BJ zG Xv)
include eV zg yW JT JF U8 T8 Cy Ci jK adz d7 in
theorem alH(F:cB K "run" "run" agJ f fd):∅ 3 f fd Dg (acC K):=by
 refine F.oj Ih ?_;rintro _ A _ _ _ _ _ E hr hu64 _ _ ⟨d,a,b,rfl,h⟩;refine⟨_,(ak (bA (i:=3) Ih.nd rfl ?E (bw zg yW hr (aj ?Q (aj uM ao))))
   (ak (bA (i:=4) Ih.nd rfl ?E (cD (Fe rfl (iP (hZ ?B _) hu64)) ?AE jK iq (aj (cP ["call"] [Yb] rfl rfl ?J ?E2 ?T ?AA ?AS) ao)))
   (ak (bA (i:=5) Ih.nd rfl ?E (cL (Kl rfl) ?AE d7 ae (aj (cD (UW rfl) ?AE adz (show i0 "set"=Ya (.type "set") by decide +kernel) (aj (cP ["call"] [Yb] rfl rfl ?J ?E2 ?T ?AA ?AS) ao)) ao)))
   (ak (bA (i:=6) Ih.nd rfl ?E (dZ ao))
   (ak (bA (i:=7) Ih.nd rfl ?E (bw JT JF hr (aj ?DR (aj ?BW ?B7))))
   (ak (bA (i:=8) Ih.nd rfl ?E (bw Cy Ci hr (aj (pv 5) (aj (pv 4) (aj ?BW (aj (bw U8 T8 hr (aj ?DR (aj (pv 7) ao))) ao))))))
   (ak (Rk ah (bL mQ (pv 8) cA ?BM)
   (ak cJ
   (ak cJ
   (ak cJ
   (aq cJ)))))
   (aq (aX (dY (aj (pv 6) (aj ?BW ao)))))))))))),?_⟩
 refine xl8 ?_;intro _ _ _ _ _ _;obtain⟨hd,hS,hP,kk⟩:=h;cbv;intro e0 H1 he0 s1 g1;have hd1:=s1 _ _ hd;cbv;refine⟨d,e0,rfl,hd1,g1,λH2 r s2 hr g2=>?_⟩;have s02:=s1.trans s2;have hS2:=s02.seq hS;cbv;intro E hE;refine cO (K:=K) (a:=a) (xs:=[]) (λi σ A=>aW H2 A/\A E=Ya (.lst [])) ⟨aH hE,aA⟩ (λi σ A _ z=>z.1.seq hS2) ?AC ?_;rintro σ H3 ⟨s3,gE⟩;refine⟨E,[],[],rfl,gE,.nil,YX _,λD hD=>?_⟩;have s4:=aH (o:=.dT (xZ [])) hD;generalize upd H3 D (.dT (xZ []))=H4 at s4⊢;have s24:aW H2 H4:=s3.trans s4;have hS4:=s24.seq hS2;cbv;intro E2 hE2;refine cO (K:=K) (a:=a) (xs:=[]) (λi σ A=>aW H4 A/\A E2=Ya (.lst [])) ⟨aH hE2,aA⟩ (λi σ A _ z=>z.1.seq hS4) ?AC ?_;rintro σ H5 ⟨s5,gE2⟩;have g0:bK K H5 E2 ?B6:=bK.of gE2;refine⟨E2,[],rfl,g0,YX _,λq ks hq nd mem=>?_⟩;obtain rfl:ks=[]:=by
  cases ks with
  |nil=>rfl
  |cons k ks=>exact nomatch (mem k).mp Yf
 refine⟨q,[],rfl,aA,.nil,by decide,λcl ns hcl pm _=>?_⟩;obtain rfl:ns=[]:=xy.mp pm;generalize afG _ _ q []=so' at hcl⊢;have s56:=aH (o:=so') hq;have s6:=aH (o:=.lst ?B6) hcl;have g6:(upd (upd H5 q so') cl (.lst ?B6)) cl=Ya (.lst []):=aA;generalize upd (upd H5 q so') cl (.lst ?B6)=H6 at s6 g6⊢;have s46:aW H4 H6:=s5.trans (s56.trans s6);cbv;intro l H7 hl s7 g7;have s27:aW H2 H7:=s24.trans (s46.trans s7);have s07:=s02.trans s27;have gr7:=s27 _ _ g2;have hP7:bK K H7 b []\/dC K H7 b []:=hP.imp (λz=>s07.seq z) λz=>DW s07 z;have gc7:=s7 _ _ g6;cbv;refine⟨b,r,rfl,hP7,?_⟩;cbv;refine⟨b,rfl,hP7,?_⟩;cbv;refine⟨cl,_,_,_,rfl,bK.of gc7,?_⟩;cbv;refine⟨λM σ H'=>σ=[Ya (.ref d),Ya (.ref a),Ya (.ref b),Ya (.ref r),Ya (.ref D),Ya (.ref cl),Ya (.ref l),Ya (.int 0),Ya .non]/\H'=H7,⟨0,rfl,rfl⟩,?_⟩;rintro M σ H' ⟨rfl,rfl⟩;cbv;rw[show decide (V.non=V.non)=true from decide_eq_true rfl];cbv;intro t H8 ht s8 g8;exact kk H8 t l r (s07.trans s8) (s02.free (s24.free (s46.free hl))) (s1.free hr) g8 (s8 _ _ g7) (s8 _ _ gr7)
def Bt(K:Yd):Sp:=λvs H Q _=>E2 fun(a:Yc) (y:V)=>vs=[.ref a,y]/\(bK K H a []/\∀H',aW H H'->Q .non H')
abbrev aa6:List Ym:=["calls","counts"]
theorem Oo:aF ["calls","counts"] aa6 (az vD):=iw
variable(ac2:mg "min"=Yb)
include eV Gk uv ac2 in
theorem O1(F:cB K "least_asking" "least_asking" vD f fd):∅ 3 f fd aa6 (Bt K):=by
 refine F.oj Oo ?_;rintro _ A _ _ H _ _ E hr hu64 _ _ ⟨a,y,rfl,h⟩;refine⟨_,(aq (aX (aem (K:=K) rfl rfl (iP (hZ ?B _) hu64) (aj (cP ["counts","call"] [Ya 1,Yb] rfl rfl ?J ?CM ?AD ?E6 ?AS) ao) cA ?AE ac2 Gk uv.mg uv.bd ?AE hr))),?_⟩;obtain⟨hS,kk⟩:=h;cbv;intro E hE;refine cO (K:=K) (a:=a) (xs:=[]) (λi σ A=>aW H A/\A E=Ya (.lst [])) ⟨aH hE,aA⟩ (λi σ A _ z=>z.1.seq hS) ?AC ?_;rintro σ A ⟨sA,gE⟩;cbv;refine⟨E,[],[],rfl,bK.of gE,rfl,(λx hx=>nomatch hx),(λi x k H3 Q' hx=>by simp at hx),λ_=>kk A sA,λi v kb H' hv=>by simp at hv⟩
def UV(K:Yd):Sp:=λvs H Q _=>E3 fun(d a b:Yc)=>vs=[.ref d,.ref a,.ref b]/\(A4 (H d=Ya (.dK [])) (bK K H a []) ((bK K H b []\/dC K H b [])) (∀H' t l g,aW H H'->H l=Yb->H g=Yb->H' t=Ya (.tup [.ref l,.ref g])->H' l=Ya (.lst [])->H' g=Ya (.lst [])->Q (.ref t) H'))
theorem uq:aF ["counts","calls","places","given","told","row","call"] Dg (az QB):=iw
variable{af4:Yc}{Fd:Yc}{aby:Yt}{Bp:Yt}(akd:∅ 3 af4 aby Dg (acC K))(aay:iU K mg "run" af4 aby Dg)(uC:∅ 3 Fd Bp aa6 (Bt K))(u9:iU K mg "least_asking" Fd Bp aa6)
include eV akd aay uC u9 gM in
theorem aes(F:cB K "placed" "placed" QB f fd):∅ 4 f fd Dg (UV K):=by
 refine F.oj uq ?_;rintro _ _ _ _ H _ _ _ hr _ _ hu ⟨d,a,b,rfl,h⟩;refine⟨_,(ak (bA (i:=3) uq.nd rfl ?E (cD (Js (K:=K) rfl) ?AE gM dy ?AW))
   (ak (bA (i:=4) uq.nd rfl ?E (bw akd aay hr (aj ?Q (aj ?AU (aj ?BW ao)))))
   (ak (bA (i:=5) uq.nd rfl ?E (aM ?A7 (pv 4) aB ?G))
   (ak (bA (i:=6) uq.nd rfl ?E (bw uC u9 hr (aj ?AU (aj (aM ?A7 (pv 4) aB ?G) ao))))
   (ak (Rk ah (bL mQ (pv 6) cA ?BM)
   (ak cJ
   (ak cJ
   (ak cJ
   (aq (bA (i:=6) uq.nd rfl ?E (bw uC u9 hr (aj ?AU (aj (aM ?A7 (pv 4) aB ?G) ao)))))))))
   (aq (aX (dY (aj (pv 5) (aj ?BW ao)))))))))),?_⟩
 refine xl6 ?_;intro _ _ _ _;obtain⟨hd,hS,hP,kk⟩:=h;cbv;refine⟨b,[],rfl,hP,λg0 hg0=>?_⟩;have s1:=aH (o:=.lst []) hg0;have g1:(upd H g0 (.lst [])) g0=Ya (.lst []):=aA;generalize upd H g0 (.lst [])=H1 at s1 g1⊢;have hd1:=s1 _ _ hd;have hS1:=s1.seq hS;cbv;refine⟨d,a,g0,rfl,hd1,hS1,.inl (bK.of g1),λH2 t l r s2 hl hr gt gl gr=>?_⟩;have gT:dC K H2 t [.ref l,.ref r]:=dC.of gt;have hS2:=s2.seq hS1;cbv;refine⟨a,.ref r,rfl,hS2,λH3 s3=>?_⟩;have s03:=s1.trans ?EO;cbv;refine⟨λM σ H'=>σ=[Ya (.ref d),Ya (.ref a),Ya (.ref b),Ya (.ref g0),Ya (.ref t),Ya (.ref l),Ya .non]/\H'=H3,⟨0,rfl,rfl⟩,?_⟩;rintro M σ H' ⟨rfl,rfl⟩;cbv;rw[show decide (V.non=V.non)=true from decide_eq_true rfl];cbv;intro u H8 hu s8 g8;exact kk H8 u l g0 (s03.trans s8) (s1.free hl) hg0 g8 (s8 _ _ (s3 _ _ gl)) (s8 _ _ (s3 _ _ (s2 _ _ g1)))
def RtA(H:Hp)(v:V)(r:Rt):Prop:=∃t e1 e2 e3,v=.ref t/\H t=Ya (.tup [.int r.1,.ref e1,.ref e2,.ref e3,.bl r.2])/\H e1=Ya (.tup [])/\H e2=Ya (.tup [])/\H e3=Ya (.tup [])
theorem RtA.up(s:my H H'){r:Rt}(h:RtA H v r):RtA H' v r:=by
 obtain⟨t,e1,e2,e3,e,g1,g2,g3,g4⟩:=h;exact⟨t,e1,e2,e3,e,s _ _ g1,s _ _ g2,s _ _ g3,s _ _ g4⟩
theorem V7{n:Nat}(h:Pl H n v (.tuple [])):∃e,v=.ref e/\H e=Ya (.tup []):=by
 cases h with
 |tup e l hs=>
  cases hs;exact⟨_,rfl,e⟩
theorem Vw{n:Nat}{e:Yc}(h:H e=Ya (.tup [])):Pl H (n+ 1) (.ref e) (.tuple []):=.tup h (YX _) .nil
theorem akb{r:Rt}(h:RtA H v r):Pl H 2 v (rtD r):=by
 obtain⟨t,e1,e2,e3,rfl,g1,g2,g3,g4⟩:=h;exact .tup g1 (by show 5<=10;decide) (.cons (.int _) (.cons (Vw g2) (.cons (Vw g3) (.cons (Vw g4) (.cons (.bl _) .nil)))))
theorem anF{n:Nat}{r:Rt}(h:Pl H n v (rtD r)):RtA H v r:=by
 unfold rtD at h;cases h with
 |tup e l hs=>
  cases hs with
  |cons h1 t1=>
   cases t1 with
   |cons h2 t2=>
    cases t2 with
    |cons h3 t3=>
     cases t3 with
     |cons h4 t4=>
      cases t4 with
      |cons h5 t5=>
       cases t5;cases h1;cases h5;obtain⟨e1,rfl,g1⟩:=V7 h2;obtain⟨e2,rfl,g2⟩:=V7 h3;obtain⟨e3,rfl,g3⟩:=V7 h4;exact⟨_,e1,e2,e3,rfl,e,g1,g2,g3⟩
def WM(H:Hp)(v:V)(p:Pn):Prop:=∃t e,v=.ref t/\H t=Ya (.tup [.int p.1,.int p.2.1,.int p.2.2,.ref e])/\H e=Ya (.tup [])
theorem WM.up(s:my H H'){p:Pn}(h:WM H v p):WM H' v p:=by
 obtain⟨t,e,e1,g1,g2⟩:=h;exact⟨t,e,e1,s _ _ g1,s _ _ g2⟩
theorem akh{p:Pn}(h:WM H v p):Pl H 2 v (plD p):=by
 obtain⟨t,e,rfl,g1,g2⟩:=h;exact .tup g1 (by show 4<=10;decide) (.cons (.int _) (.cons (.int _) (.cons (.int _) (.cons (Vw g2) .nil))))
theorem aki{n:Nat}{p:Pn}(h:Pl H n v (plD p)):WM H v p:=by
 unfold plD at h;cases h with
 |tup e l hs=>
  cases hs with
  |cons h1 t1=>
   cases t1 with
   |cons h2 t2=>
    cases t2 with
    |cons h3 t3=>
     cases t3 with
     |cons h4 t4=>
      cases t4;cases h1;cases h2;cases h3;obtain⟨e1,rfl,g1⟩:=V7 h4;exact⟨_,e1,rfl,e,g1⟩
abbrev abh(H:Hp):List V->List Rt->Prop:=dQ (RtA H)
theorem Jo(s:my H H'){xs:List V}{rs:List Rt}(h:abh H xs rs):abh H' xs rs:=dQ.mapP h λ_ _ z=>z.up s
def RG(K:Yd):Sp:=λvs H Q _=>∃(a:Yc),vs=?BV/\(E2 λxs rs=>A3 (bK K H a xs) (abh H xs rs) (∀H' d,aW H H'->H d=Yb->H' d=Ya (.dK [])->Q (.ref d) H'))
abbrev Ei:List Ym:=["reports"]
theorem Ab:aF ["reports","base","report"] Ei (az Lw):=iw
variable(GK:∅ 2 Jh De UT (Ey K))
include eV GK pX zg yW in
theorem acN(F:cB K "base_of" "base_of" Lw f fd):∅ 3 f fd Ei (RG K):=by
 refine F.oj Ab ?_;rintro _ A _ _ H _ _ _ hr _ _ _ ⟨a,rfl,h⟩;refine⟨_,(ak (bA (i:=1) Ab.nd rfl ?E uM)
   (ak (lK ah rfl ?CM (aO (i:=2) Ab.nd rfl ?E)
   (aq (bA (i:=1) Ab.nd rfl ?E (bw zg yW hr (aj ?AU (aj (bw GK pX hr (aj ?X ao)) ao))))))
   (aq (aX ?AU)))),?_⟩
 refine xl3 ?_;intro _;obtain⟨xs,rs,hS,hx,kk⟩:=h;cbv;intro d H1 hd s1 g1;have hS1:=s1.seq hS;cbv;let jJ2:Nat->St->Hp->Prop:=λi σ A=>E2 λv2 d=>A4 (σ=[Ya (.ref a),Ya (.ref d),v2]) (aW H A) (H d=Yb) (A d=Ya (.dK []));refine iV (xs:=xs) jJ2 ⟨Yb,d,rfl,s1,hd,g1⟩ (λi σ A _ z=>by obtain⟨_,_,_,z,_⟩:=z;exact z.seq hS) ?_ ?_
 ·rintro i x σ A hxi ⟨v2,d,rfl,sA,hd,gd⟩;obtain⟨r,hr,t,e1,e2,e3,rfl,g1,g2,g3,g4⟩:=iZ hx hxi;have f1:=dC.of (K:=K) (sA _ _ g1);have a1:mq ?BJ 1=Ya (.ref e1):=by kernel_rfl
  cbv;refine⟨e1,rfl,.inr (dC.of (sA _ _ g2)),λA1 q s1' hq g1'=>?_⟩;have gd1:=s1' _ _ gd;cbv;exact⟨d,q,rfl,gd1,g1',λA2 q2 s2 hq2 g2=>⟨_,q2,rfl,sA.trans (s1'.trans s2),(sA.trans s1').free hq2,g2⟩⟩
 rintro σ A ⟨v2,d,rfl,sA,hd,gd⟩;cbv;exact kk A d sA hd gd
def KH(K:Yd):Sp:=λvs H Q _=>∃(a:Yc),vs=?BV/\(E2 λxs rs=>A4 (bK K H a xs) (abh H xs rs) (rs.length<=64) (∀H' w,aW H H'->H' w=Ya (.tup [])->Q (.ref w) H'))
theorem ad9{K:Yd}{H:Hp}:∀{xs:List V},(∀x∈xs,∃w,x=.ref w/\H w=Ya (.tup []))->TLs K H xs (xs.map λ_=>0)
 |[],_=>.nil
 |x::xs,h=>by
  obtain⟨w,e,g⟩:=h x Yf;exact .cons ⟨w,[],e,dC.of g,rfl⟩ (ad9 λy hy=>h y (Yh _ hy))
theorem VM:aF ["reports"] Ei (az DR):=iw
variable(Uk:mg "max"=Yb)
include eV oM Uk dW in
theorem Wc(F:cB K "places_of" "places_of" DR f fd):∅ 1 f fd Ei (KH K):=by
 refine F.oj VM ?_;rintro _ A _ _ H _ _ E hr _ _ _ ⟨a,rfl,h⟩;refine⟨_,(aq (aX (cD ?D4 ?AE dW bp (aj (aft (K:=K) rfl rfl (aj (cP ["report"] [Yb] rfl rfl ?J ?CM ?T ?AA ?GU) ao) (dY ao) ?AE Uk ?AE oM) ao)))),?_⟩;obtain⟨xs,rs,hS,hx,hl,kk⟩:=h;have lx:xs.length=rs.length:=bX hx;cbv;intro E hE;refine cO (K:=K) (a:=a) (xs:=xs) (λi σ A=>E2 λv zs=>A5 (σ=[v]) (aW H A) (A E=Ya (.lst zs)) (zs.length=i) (∀z∈zs,∃w,z=.ref w/\H w=Ya (.tup []))) ⟨Yb,[],rfl,aH hE,aA,rfl,(λz hz=>nomatch hz)⟩ ?_ ?_ ?_
 ·rintro i σ A _ ⟨_,_,_,z,_⟩;exact z.seq hS
 ·rintro i x σ A hxi ⟨v,zs,rfl,sA,hEx,lz,pz⟩;obtain⟨r,hr,t,e1,e2,e3,rfl,g1,g2,g3,g4⟩:=iZ hx hxi;have hi:=(Ys.mp hr).1;have f1:=dC.of (K:=K) (sA _ _ g1);have a1:mq ?BJ 3=Ya (.ref e3):=by kernel_rfl
  cbv;refine⟨zs,hEx,bx ?D,_,zs++[.ref e3],rfl,λb o z=>?_,aA,by rw[YE,lz];rfl,λz hz=>?_⟩
  ·rw[aQ (bB z hE)];exact sA b o z
  ·rcases e8.mp hz with w|w
   ·exact pz z w
   ·exact⟨e3,YU.mp w,g4⟩
 rintro σ A ⟨v,zs,rfl,sA,hEx,lz,pz⟩;cbv;intro z0 A1 hz s1 g1;have s01:=sA.trans s1;refine⟨E,zs,_,rfl,bK.of (s1 _ _ hEx),ad9 λz hz=>by obtain⟨w,e,g⟩:=pz z hz;exact⟨w,e,s01 _ _ g⟩,λe=>?_,λi v n hv hn best=>?_⟩
 ·cbv;exact⟨z0,_,rfl,.inr ⟨dC.of g1,kk A1 z0 s01 g1⟩⟩
 ·obtain⟨w,rfl,g⟩:=pz v (YW hv);cbv;exact⟨w,_,rfl,.inr ⟨dC.of (s01 _ _ g),kk A1 w s01 (s01 _ _ g)⟩⟩
def Cw(K:Yd):Sp:=λvs H Q _=>E2 fun(x:V) (a:Yc)=>vs=[x,.ref a]/\(E2 λxs rs=>A3 (bK K H a xs) (abh H xs rs) (∀H' l,aW H H'->H l=Yb->H' l=Ya (.lst [])->Q (.ref l) H'))
abbrev aal:List Ym:=["base","reports"]
theorem mG:aF ["base","reports","calls","report","told","call"] aal (az vG):=iw
include eV gM in
theorem Oq(F:cB K "calls_beyond" "calls_beyond" vG f fd):∅ 1 f fd aal (Cw K):=by
 refine F.oj mG ?_;rintro _ A _ _ H _ _ _ hr _ _ _ ⟨x,a,rfl,h⟩;refine⟨_,(ak (bA (i:=2) mG.nd rfl ?E aaV)
   (ak (lK ah rfl ?E2 (aO (i:=3) mG.nd rfl ?E)
   (aq (lK ah rfl (Gf (K:=K) rfl (aM ?A7 ?BW aB ?G)) (aO (i:=4) mG.nd rfl ?E)
   (ak cJ
   (aq cJ)))))
   (aq (aX (cD (NT rfl) ?AE gM dy (aj (Vp gX gi mE W4 ?DR) ao)))))),?_⟩
 refine xl3 ?_;intro _;obtain⟨xs,rs,hS,hx,kk⟩:=h;cbv;intro d hd;have s1:=aH (o:=.dT []) hd;have g1:(upd H d (.dT [])) d=Ya (.dT []):=aA;generalize upd H d (.dT [])=H1 at s1 g1⊢;have hS1:=s1.seq hS;cbv;refine iV (xs:=xs) (λi σ A=>H1=A/\∃v2,σ=[Ya x,Ya (.ref a),Ya (.ref d),v2,Yb,Yb]) ⟨rfl,Yb,rfl⟩ (λi σ A _ z=>by rw[<-z.1];exact hS1) ?_ ?_
 ·rintro i x' σ _ hxi ⟨rfl,v2,rfl⟩;obtain⟨r,hr,t,e1,e2,e3,rfl,g1',g2,g3,g4⟩:=iZ hx hxi;have f1:=dC.of (K:=K) (s1 _ _ g1');have f2:=dC.of (K:=K) (s1 _ _ g3);have a1:mq ?BJ 2=Ya (.ref e2):=by kernel_rfl
  cbv;let jJ3:Nat->St->Hp->Prop:=λi σ A=>H1=A/\σ=[Ya x,Ya (.ref a),Ya (.ref d),Ya (.ref t),Yb,Yb];refine Wu (K:=K) (a:=e2) (xs:=[]) jJ3 ⟨rfl,rfl⟩ (λi σ A _ z=>by rw[<-z.1];exact f2) ?AC ?_;rintro σ _ ⟨rfl,rfl⟩;exact⟨rfl,_,rfl⟩
 rintro σ _ ⟨rfl,v2,rfl⟩;cbv;refine⟨.inr (.inr (.inl ⟨rfl,.inr ⟨_,g1⟩⟩)),d,_,rfl,rfl,g1,λv hv=>?_⟩;have s2:=aH (o:=WN v d) hv;have g2:(upd H1 v (WN v d)) v=Ya (WN v d):=aA;generalize upd H1 v (WN v d)=H2 at s2 g2⊢;cbv;refine⟨v,d,_,rfl,g2,.inl (s2 _ _ g1),YX _,λl hl'=>?_⟩;exact kk _ l (s1.trans (s2.trans (aH hl'))) (s1.free (s2.free hl')) aA
noncomputable def tH(ns:List Int):Int:=((ns.foldl (λn h=>n ||| 2^h.toNat) 0:Nat):Int)
theorem wO:∀(ns:List Int) (n i:Nat),(ns.foldl (λn (h:Int)=>n ||| 2^h.toNat) n).testBit i=(n.testBit i||ns.any λh=>decide (h.toNat=i))
 |[],n,i=>by simp
 |h::ns,n,i=>by
  rw[hW,wO ns _ i,mi,qq,kL,IC]
theorem Rv(s:K1 n ns)(rg:∀h∈ns,0<=h):n=tH ns:=by
 have:n.toNat=ns.foldl (λn (h:Int)=>n ||| 2^h.toNat) 0:=by
  apply kT;intro i;rw[wO,de,gy,dS,s.2.2 i,eD];constructor
  ·intro h;exact⟨_,h,decide_eq_true (Yy i)⟩
  ·rintro⟨h,hh,e⟩;have e:=of_decide_eq_true e;have:=rg h hh;rwa [show(i:Int)=h by omega]
 unfold tH;rw[<-this];have:=s.1;omega
noncomputable def plF(me ha:Int)(rs:List Rt)(wi:Int):Pn:=(tH (rs.map (·.1)),YQ (YQ (tH ((rs.filter λr=>!r.2).map (·.1))) ?C4) (YA wi (YC ha)),YA wi (YC ha))
def yp(K:Yd):Sp:=λvs H Q _=>E4 fun(me ha:Int) (a:Yc) (wi:Int)=>vs=[.int me,.int ha,.ref a,.int wi]/\(E2 λxs rs=>A7 (bK K H a xs) (abh H xs rs) (rs.length<=64) ((∀r∈rs,0<=r.1/\r.1<63)) (0<=me) (me<63) (∀H' v,aW H H'->WM H' v (plF me ha rs wi)->Q v H'))
abbrev aaT:List Ym:=["me","hands","reports","wishes"]
theorem jC:aF ["me","hands","reports","wishes","base","row","on","staying","new"] aaT (az Bc):=iw
variable{WR:Yc}{Uh:Yc}{Nx:Yc}{Fy:Yc}{Ue:Yt}{Q4:Yt}{K4:Yt}{Cm:Yt}(NQ:∅ 4 yS ux VD (ut K))(Dt:∅ 4 Pq Lp yx (MP K))(Ka:∅ 4 WR Ue Dg (UV K))(J2:iU K mg "placed" WR Ue Dg)(Uo:∅ 4 Uh Q4 Ei (RG K))(T9:iU K mg "base_of" Uh Q4 Ei)(N8:∅ 4 Nx K4 Ei (KH K))(M8:iU K mg "places_of" Nx K4 Ei)(DY:∅ 4 Fy Cm aal (Cw K))(EY:iU K mg "calls_beyond" Fy Cm aal)
include eV NQ iG Dt Fw Ka J2 Uo T9 N8 M8 DY EY dW in
theorem SX(F:cB K "first_plan" "first_plan" Bc f fd):∅ 5 f fd aaT (yp K):=by
 refine F.oj jC ?_;rintro _ A _ _ H _ _ E hr _ _ _ ⟨me,ha,a,wi,rfl,h⟩;refine⟨_,(ak (bA (i:=4) jC.nd rfl ?E (bw Uo T9 hr ?AW))
   (ak (bA (i:=5) jC.nd rfl ?E (aM ?A7 (bw Ka J2 hr (aj (pv 4) (aj (bw DY EY hr (aj (pv 4) ?AW)) (aj (bw N8 M8 hr ?AW) ao)))) aB ?G))
   (ak (bA (i:=6) jC.nd rfl ?E (bw Dt Fw hr (aj (cP ["report"] [Yb] rfl rfl ?J (bM (K:=K) rfl ?DR) ?T ?AA ?GU) ao)))
   (ak (bA (i:=7) jC.nd rfl ?E (bw Dt Fw hr (aj (cP ["report"] [Yb] rfl rfl ?J (bM (K:=K) rfl ?DR) ?T (λ_ _ _ _ _=>(qM (Az (afP (aM ?A7 ?Q aB ?G))))) ?GU) ao)))
   (ak (bA (i:=8) jC.nd rfl ?E (bU Fl ?BW (K3 Mh ?AU)))
   (aq (aX (dY (aj (pv 6) (aj (bU JP (bU JP (pv 7) (bw NQ iG hr ?IS)) (pv 8)) (aj (pv 8) (aj (cD ?D4 ?AE dW bp (aj (cP ["call"] [Yb] rfl rfl ?J (bM (K:=K) rfl (pv 5)) ?T ?AA ?AS) ao)) ao)))))))))))),?_⟩
 refine xl6 ?_;intro _ _ _ _;obtain⟨xs,rs,hS,hx,hl,rg,m0,m1,kk⟩:=h;have lx:xs.length=rs.length:=bX hx;cbv;refine⟨a,rfl,xs,rs,hS,hx,λH1 d s1 hd g1=>?_⟩;have hS1:=s1.seq hS;have hx1:=Jo (my.same s1) hx;cbv;refine⟨.ref d,a,rfl,xs,rs,hS1,hx1,λH2 l s2 hl2 g2=>?_⟩;have hS2:=s2.seq hS1;have hx2:=Jo (my.same s2) hx1;cbv;refine⟨a,rfl,xs,rs,hS2,hx2,hl,λH3 w s3 g3=>?_⟩;have gd3:=s3 _ _ (s2 _ _ g1);cbv;refine⟨d,l,w,rfl,gd3,bK.of (s3 _ _ g2),.inr (dC.of g3),λH4 t l4 g s4 hl4 hg gt gl4 gg=>?_⟩;have gT:dC K H4 t [.ref l4,.ref g]:=dC.of gt;have s04:aW H H4:=s1.trans (s2.trans (s3.trans s4));have hS4:=s04.seq hS;have hx4:=Jo (my.same s04) hx;cbv;intro E hE;refine cO (K:=K) (a:=a) (xs:=xs) (λi σ A=>∃v,A3 (σ=[v]) (aW H4 A) (A E=Ya (.lst (((rs.take i).map (·.1)).map V.int)))) ⟨Yb,rfl,aH hE,aA⟩ (λi σ A _ z=>by obtain⟨_,_,z,_⟩:=z;exact z.seq hS4) ?_ ?_
 ·rintro i x σ A hxi ⟨v,rfl,sA,gE⟩;obtain⟨r,hr,t',e1,e2,e3,rfl,q1,q2,q3,q4⟩:=iZ hx4 hxi;have hi:=(Ys.mp hr).1;have f1:=dC.of (K:=K) (sA _ _ q1);have a1:mq ?BJ 0=Ya (.int r.1):=by kernel_rfl
  cbv;refine⟨_,gE,?_,_,rfl,λb o z=>?_,?_⟩
  ·rw[Yk,Yk,eA];exact bx ?D
  ·rw[aQ (bB z hE)];exact sA b o z
  ·rw[aA,jc hr,YG,YG];rfl
 rintro σ H5 ⟨v,rfl,s5,gE⟩;rw[lx,cx]at gE;have hS5:=s5.seq hS4;have hx5:=Jo (my.same s5) hx4;have gt5:=s5 _ _ gl4;refine⟨E,rfl,rs.map (·.1),bK.of gE,λx hx=>?_,λn ns=>?_⟩
 ·obtain⟨r,hr,rfl⟩:=YD.mp hx;exact rg r hr
 obtain rfl:=Rv ns λx hx=>by
  obtain⟨r,hr,rfl⟩:=YD.mp hx;exact(rg r hr).1
 cbv;intro E2 hE2;refine cO (K:=K) (a:=a) (xs:=xs) (λi σ A=>∃v,A3 (σ=[v]) (aW H5 A) (A E2=Ya (.lst ((((rs.take i).filter λr=>!r.2).map (·.1)).map V.int)))) ⟨Yb,rfl,aH hE2,aA⟩ (λi σ A _ z=>by obtain⟨_,_,z,_⟩:=z;exact z.seq hS5) ?_ ?_
 ·rintro i x σ A hxi ⟨v,rfl,sA,gE⟩;obtain⟨r,hr,t',e1,e2,e3,rfl,q1,q2,q3,q4⟩:=iZ hx5 hxi;have hi:=(Ys.mp hr).1;have f1:=dC.of (K:=K) (sA _ _ q1);have a1:mq ?BJ 4=Ya (.bl r.2):=by kernel_rfl
  have a0:mq ?BJ 0=Ya (.int r.1):=by kernel_rfl
  have lf:=tJ (λr:Rt=>!r.2) (rs.take i);rw[eA]at lf;rw[jc hr,nV];cbv;refine iu (λz=>?_) λz=>?_
  ·cbv;refine⟨_,gE,?_,_,rfl,λb o z=>?_,?_⟩
   ·rw[Yk,Yk];exact bx ?D
   ·rw[aQ (bB z hE2)];exact sA b o z
   ·rw[aA,AE (p:=λr:Rt=>!r.2) (a:=r) z,YG,YG];rfl
  ·refine⟨_,rfl,sA,?_⟩;rw[AF (p:=λr:Rt=>!r.2) (a:=r) z,List.filter_nil,dA];exact gE
 rintro σ H6 ⟨v,rfl,s6,gE2⟩;rw[lx,cx]at gE2;refine⟨E2,rfl,_,bK.of gE2,λx hx=>?_,λn2 ns2=>?_⟩
 ·obtain⟨r,hr,rfl⟩:=YD.mp hx;exact rg r (Y9.mp hr).1
 obtain rfl:=Rv ns2 λx hx=>by
  obtain⟨r,hr,rfl⟩:=YD.mp hx;exact(rg r (Y9.mp hr).1).1
 have gl6:bK K H6 l4 []:=bK.of (s6 _ _ gt5);cbv;refine⟨me,rfl,m0,by omega,?_⟩;cbv;intro E3 hE3;refine cO (K:=K) (a:=l4) (xs:=[]) (λi σ A=>aW H6 A/\A E3=Ya (.lst [])) ⟨aH hE3,aA⟩ (λi σ A _ z=>z.1.seq gl6) ?AC ?_;rintro σ H7 ⟨s7,gE3⟩;have gE3':bK K H7 E3 []:=bK.of gE3;cbv;intro e H8 he s8 g8;cbv;intro u H9 hu' s9 g9;exact kk H9 (.ref u) (s04.trans (s5.trans (s6.trans (s7.trans (s8.trans s9))))) ⟨u,e,rfl,g9,s9 _ _ g8⟩
def Iw(K:Yd)(v1 v2 v3:V):Sp:=λvs H Q _=>∃(a:Yc),vs=?BV/\(E12 λwi p ha C dx me x2 x3 x4 x5 x6 x7=>E9 λx8 x9 x10 x11 x12 x13 x14 xs rs=>A12 (v1=.int wi) (v2=.ref p) (v3=.int ha) (Rx K C) (H p=Ya (.ins C dx (pH (.int me) x2 x3 x4 x5 x6 x7 x8 x9 x10 x11 x12 x13 x14))) (bK K H a xs) (abh H xs rs) (rs.length<=64) ((∀r∈rs,0<=r.1/\r.1<63)) (0<=me) (me<63) (∀H' v,aW H H'->WM H' v (plF me ha rs wi)->Q v H'))
noncomputable abbrev dH:YZ:=aod (aoX (bF ?E7 15) 3) 1
theorem Ik:ScM ["reports","wishes","self","hands"] ["reports"] ["wishes","self","hands"] (Qc dH):=⟨rfl,rfl,rfl,by decide +kernel,rfl,by decide +kernel,by decide +kernel,by decide +kernel,by decide +kernel⟩
noncomputable abbrev uP(c1 c2 c3:Yc)(pm ctv:Ye)(c':Yc):Y6:=kG "<lambda>" "Hand.settle.<locals>.<lambda>" (adx dH) (adf dH) (Qc dH) [("wishes",c1),("self",c2),("hands",c3)] pm c' ctv
abbrev mW(K:Yd)(mg:Ym->Option Ye)(f c' c1 c2 c3:Yc)(pm ctv:Ye)(v1 v2 v3:V):Sp:=spF f c' (uP c1 c2 c3 pm ctv c') "Hand.settle.<locals>.<lambda>" [("wishes",c1),("self",c2),("hands",c3)] [v1,v2,v3] (Iw K v1 v2 v3)
variable{c':Yc}{c1:Yc}{c2:Yc}{c3:Yc}{ctv:Ye}{v1:V}{v2:V}{v3:V}(ne:c1≠c2/\c1≠c3/\c2≠c3)(tU:∅ 5 tW qR aaT (yp K))(tX:iU K mg "first_plan" tW qR aaT)
include eV ne tU tX in
theorem Iv:∅ 6 f (BU "<lambda>" "Hand.settle.<locals>.<lambda>" (adx dH) (adf dH) (Qc dH) [("wishes",c1),("self",c2),("hands",c3)] pm (.ref c') ctv) Ei (mW K mg f c' c1 c2 c3 pm ctv v1 v2 v3):=by
 refine alv Ik (by simp[ne]) (λvs H Q E h=>?_) (λA outer s H vs Q E hr h=>?_)
 ·obtain⟨a,rfl,_⟩:=h;rfl
 obtain⟨a,rfl,h⟩:=h;have hu64:=hr.units;have hu0:=hr.units0;have hu:=Ql hr;refine⟨_,(bw tU tX hr (aj (au (K:=K) rfl ?DR rfl) (aj ?BW (aj ?Q ?B0)))),?_⟩;generalize Oh _ H=H0 at h⊢;obtain⟨wi,p,ha,C,dx,me,x2,x3,x4,x5,x6,x7,x8,x9,x10,x11,x12,x13,x14,xs,rs,rfl,rfl,rfl,T,hp,hS,hx,hl,rg,m0,m1,kk⟩:=h;obtain⟨cl,n1,n2,n3,n4,n5,n6,n7,n8,n9,n10,n11,n12,n13,n14⟩:=id T;cbv;exact⟨me,ha,a,wi,rfl,xs,rs,hS,hx,hl,rg,m0,m1,kk⟩
def OKs(K:Yd)(mg:Ym->Option Ye)(f:Yc)(sp:Sp):Prop:=∃c' c1 c2 c3 pm ctv v1 v2 v3,(c1≠c2/\c1≠c3/\c2≠c3)/\sp=mW K mg f c' c1 c2 c3 pm ctv v1 v2 v3
noncomputable abbrev Sv(c1 c2 c3:Yc):List ?GG:=[("wishes",c1),("self",c2),("hands",c3)]
def MkF(H:Hp)(f:Yc)(wi:Int)(p:Yc)(ha:Int):Prop:=∃c' c1 c2 c3 pm ctv,(c1≠c2/\c1≠c3/\c2≠c3)/\H f=Ya (FnO f (uP c1 c2 c3 pm ctv c'))/\H c'=Ya (CdO c' "Hand.settle.<locals>.<lambda>")/\mK H (Sv c1 c2 c3) [.int wi,.ref p,.int ha]
theorem MkF.same{p:Yc}{wi:Int}(x:MkF H f wi p ha)(s:aW H H'):MkF H' f wi p ha:=by
 obtain⟨c',c1,c2,c3,pm,ctv,ne,e1,e2,e3⟩:=x;exact⟨c',c1,c2,c3,pm,ctv,ne,s _ _ e1,s _ _ e2,e3.up s⟩
theorem ahW{k:Int}(h:k∈m.map (·.1)):∃v,lkG m k=Ya v/\(k,v)∈m:=by
 induction m with
 |nil=>cases h
 |cons p m ih=>
  by_cases e:p.1=k
  ·exact⟨p.2,by show(if p.1=k then Ya p.2 else lkG m k)=_;rw[if_pos e],by rw[<-e];exact Yf⟩
  ·rcases Yz.mp h with z|z
   ·exact absurd z.symm e
   ·obtain⟨v,h1,h2⟩:=ih z;exact⟨v,by show(if p.1=k then Ya p.2 else lkG m k)=_;rw[if_neg e];exact h1,Yh _ h2⟩
noncomputable def lkA{α:Type}:List (Int×α)->Int->Option α
 |[],_=>Yb
 |p::m,k=>if p.1=k then Ya p.2 else lkA m k
noncomputable def Jc(rp:List ?AX)(k:Int):Rt:=match lkA rp k with
 |none=>(0,false)
 |some r=>r.1
theorem Vy.look{H:Hp}{k:Int}{v:V}:∀{m:List ?BE} {rp:List ?AX},Vy H m rp->lkG m k=Ya v->∃t rv yv r,v=.ref t/\H t=Ya (.tup [rv,yv])/\lkA rp k=Ya r/\Pl H 2 rv (rtD r.1)/\VL H yv r.2
 |_,_,.nil,h=>nomatch h
 |e::m,q::rp,.cons ⟨e1,_,t,rv,yv,e2,e3,e4,e5⟩ u,h=>by
  have h:(if e.1=k then Ya e.2 else lkG m k)=Ya v:=h;show∃t rv yv r,v=.ref t/\H t=Ya (.tup [rv,yv])/\(if q.1=k then Ya q.2 else lkA rp k)=Ya r/\Pl H 2 rv (rtD r.1)/\VL H yv r.2;by_cases z:e.1=k
  ·rw[if_pos z]at h;have h:=YK h;exact⟨t,rv,yv,q.2,by rw[<-h,e2],e3,if_pos (e1▸z),e4,e5⟩
  ·rw[if_neg z]at h;rw[if_neg (λw=>z (e1.trans w))];exact Vy.look u h
theorem Pa{α:Type}:∀{m:List (Int×α)} {k:Int} {r:α},(m.map (·.1)).Nodup->(lkA m k=Ya r↔(k,r)∈m)
 |[],_,_,_=>⟨(λh=>nomatch h),(λh=>nomatch h)⟩
 |p::m,k,r,nd=>by
  rw[YS,d5]at nd;show(if p.1=k then Ya p.2 else lkA m k)=Ya r↔_;by_cases z:p.1=k
  ·rw[if_pos z];constructor
   ·intro e;rw[<-z,<-YK e];exact Yf
   ·intro h;rcases Yz.mp h with w|w
    ·rw[<-w]
    ·exact absurd (YD.mpr ⟨_,w,z.symm⟩) nd.1
  ·rw[if_neg z,Pa nd.2];exact⟨λh=>Yh _ h,λh=>(Yz.mp h).resolve_left λw=>z (by rw[<-w])⟩
def WfR(rp:List ?AX):Prop:=∀e∈rp,e.2.1.1=e.1
noncomputable def plR(me ha:Int)(rp:List ?AX)(wi:Int):Pn:=(tH ?E1,YQ (YQ (tH ((rp.filter λe=>!e.2.1.2).map (·.1))) ?C4) (YA wi (YC ha)),YA wi (YC ha))
theorem ac5(h:∀x,x∈ns↔x∈ms):tH ns=tH ms:=by
 unfold tH;refine congrArg _ (kT λi=>?_);rw[wO,wO,dS,de,gy,gy,eD,eD];exact⟨fun⟨x,hx,e⟩=>⟨x,(h x).mp hx,e⟩,fun⟨x,hx,e⟩=>⟨x,(h x).mpr hx,e⟩⟩
theorem aoC{me wi:Int}{rp:List ?AX}(nd:(rp.map (·.1)).Nodup)(pm:ns.Perm ?E1)(w:WfR rp):plF me ha (ns.map (Jc rp)) wi=plR me ha rp wi:=by
 have rd:∀x,x∈ns->∃r,(x,r)∈rp/\Jc rp x=r.1/\r.1.1=x:=λx hx=>by
  obtain⟨e,he,rfl⟩:=YD.mp (pm.mem_iff.mp hx);have:=(Pa (k:=e.1) (r:=e.2) nd).mpr he;exact⟨e.2,he,by unfold Jc;rw[this],w e he⟩
 unfold plF plR;have e1:tH ((ns.map (Jc rp)).map (·.1))=tH ?E1:=ac5 λx=>by
  rw[cw,YD,<-pm.mem_iff];constructor
  ·rintro⟨y,hy,rfl⟩;obtain⟨r,_,e,e'⟩:=rd y hy;show(Jc rp y).1∈ns;rw[e,e'];exact hy
  ·intro hx;obtain⟨r,_,e,e'⟩:=rd x hx;exact⟨x,hx,by show(Jc rp x).1=x;rw[e,e']⟩
 have e2:tH (((ns.map (Jc rp)).filter λr=>!r.2).map (·.1))=tH ((rp.filter λe=>!e.2.1.2).map (·.1)):=ac5 λx=>by
  rw[YD,YD];constructor
  ·rintro⟨r,hr,rfl⟩;obtain⟨h1,h2⟩:=Y9.mp hr;obtain⟨y,hy,rfl⟩:=YD.mp h1;obtain⟨r,hm,e,e'⟩:=rd y hy;rw[e]at h2⊢;exact⟨(y,r),Y9.mpr ⟨hm,h2⟩,e'.symm⟩
  ·rintro⟨q,hq,rfl⟩;obtain⟨h1,h2⟩:=Y9.mp hq;have hn:q.1∈ns:=pm.mem_iff.mpr (eJ h1);have lk:=(Pa (k:=q.1) (r:=q.2) nd).mpr h1;have e:Jc rp q.1=q.2.1:=by unfold Jc;rw[lk]
   exact⟨q.2.1,Y9.mpr ⟨YD.mpr ⟨q.1,hn,e⟩,h2⟩,w q h1⟩
 rw[e1,e2]
def HnA(K:Yd)(H:Hp)(p:Yc)(me:Int):Prop:=∃C dx x2 x3 x4 x5 x6 x7 x8 x9 x10 x11 x12 x13 x14,Rx K C/\H p=Ya (.ins C dx (pH (.int me) x2 x3 x4 x5 x6 x7 x8 x9 x10 x11 x12 x13 x14))
theorem HnA.same{p:Yc}{me:Int}(h:HnA K H p me)(s:aW H H'):HnA K H' p me:=by
 obtain⟨C,dx,x2,x3,x4,x5,x6,x7,x8,x9,x10,x11,x12,x13,x14,T,g⟩:=h;exact⟨C,dx,x2,x3,x4,x5,x6,x7,x8,x9,x10,x11,x12,x13,x14,T,s _ _ g⟩
def wI(K:Yd)(mg:Ym->Option Ye):Sp:=λvs H Q _=>E2 fun(p f:Yc)=>vs=[.ref p,.ref f]/\(E10 λme hd b y vo ag d rp wi q=>A5 ?BQ (MkF H f wi q hd) (HnA K H q me) (WfR rp) (∀H' z,aW H H'->WM H' z (plR me hd rp wi)->Q z H'))
abbrev Xc:List Ym:=["self","make"]
theorem Ld:aF ["self","make"] Xc (az qb):=iw
include eV lY eU d7 aL aN in
theorem Ky(F:cB K "made_by" "Change.made_by" qb f fd)(acu:∀f sp,OKs K mg f sp->(∃fd ps,∅ 6 f fd ps sp/\Binds K fd ps [])/\∀vs H Q E,sp vs H Q E->∃fo:Y6,?G3/\H f=Ya (FnO f fo)):∅ 7 f fd Xc (wI K mg):=by
 refine F.oj Ld ?_;rintro _ A _ _ H _ _ _ hr _ _ hu ⟨p,f',rfl,h⟩;refine⟨_,(aq (aX (bw lY eU hr (aj (ahb acu hr fc ?AU (aj (cP ["self","hand"] [Ya 0,Yb] rfl rfl ?J (bM (K:=K) rfl (cL (WD rfl) ?AE d7 ae ?A5)) ?AD ?AA (λ_ _ _ _ _=>(bw lY eU hr (aj (aM ?A7 (ad1 hu ?A ?AU ?G) aB ?G) ao)))) ao)) ao)))),?_⟩;obtain⟨me,hd,b,y,vo,ag,d,rp,wi,q,S,F',N',wf,kk⟩:=h;obtain⟨⟨C,dx,ba,ye,av,eC,hp,hb,_⟩,⟨kvs,hd',hr,nd⟩,m0,m1,_⟩:=id S;rw[aN]at eC;cases eC;obtain⟨cl,n1,n2,n3,n4,n5,n6,n7⟩:=id aL;have fk:=Kw nd hr.rg;obtain⟨c',c1,c2,c3,pm,ctv,ne,e1,e2,e3⟩:=id F';cbv;refine⟨f',mW K mg f' c' c1 c2 c3 pm ctv (.int wi) (.ref q) (.int hd),rfl,⟨c',c1,c2,c3,pm,ctv,_,_,_,ne,rfl⟩,⟨_,⟨_,rfl⟩,e1⟩,?_⟩;cbv;refine⟨d,kvs,rfl,.inl hd',fk,λl ns hl pm' so=>?_⟩;have s1:=aH (o:=.lst ?A1) hl;have g1:(upd H l (.lst ?A1)) l=Ya (.lst ?A1):=aA;generalize upd H l (.lst ?A1)=H1 at s1 g1⊢;have sl:=bK.of (K:=K) g1;cbv;intro D hD;refine cO (K:=K) (a:=l) (xs:=ns.map V.int) (λi σ A=>E2 λv ys=>A5 (σ=[Ya (.ref p),v]) (aW H1 A) (A D=Ya (.lst ys)) (ys.length=i) (abh A ys ((ns.take i).map (Jc rp)))) ⟨Yb,[],rfl,aH hD,aA,rfl,.nil⟩ ?_ ?_ ?_
 ·rintro i σ A _ ⟨_,_,_,z,_⟩;exact bK.of (z _ _ g1)
 ·rintro i x σ A hx ⟨v,ys,rfl,sA,hDx,ly,hys⟩;obtain⟨h,hh,rfl⟩:=VP hx;have hi:=(Ys.mp hh).1;have ln:=pm'.length_eq;rw[Yk]at ln;obtain⟨vv,lk,mem⟩:=ahW (pm'.mem_iff.mp (YW hh));obtain⟨t,rv,yv,r,q1,q2,q3,q4,q5⟩:=hr.look lk;have er:Jc rp h=r.1:=by unfold Jc;rw[q3]
  rw[q1]at lk;have hpA:=sA _ _ (s1 _ _ hp);have hdA:=sA _ _ (s1 _ _ hd');have htA:=sA _ _ (s1 _ _ q2);have rdA:Rd A d (.dK (dG kvs)):=.inl hdA;have st:=dC.of (K:=K) htA;have a0:mq [rv,yv] 0=Ya rv:=by kernel_rfl
  cbv;refine⟨rv,rfl,rtD r.1,(q4.up (.same (s1.trans sA))).mono.mono,λA1 x' r1 p1=>?_⟩;have hD1:=r1 _ _ hDx;have kp:my A1 (upd A1 D (.lst (ys++[x']))):=my.lst hD1;refine⟨ys,hD1,bx ?D,_,ys++[x'],rfl,λb o z=>?_,aA,by rw[YE,ly];rfl,?_⟩
  ·rw[aQ (bB z hD)];exact r1 _ _ (sA b o z)
  ·rw[jc hh,YG,YS,mn,er];exact sh (Jo kp (Jo (.same r1) hys)) ((anF p1).up kp)
 rintro σ A ⟨v,ys,rfl,sA,hDx,ly,hys⟩;rw[show(ns.map V.int).length=ns.length from Yk _,cx]at hys;have sA':=s1.trans sA;have e3A:=e3.up sA';have un:∀{x o},A x=Ya o->(∀o' φ,o≠.frz o' (.ext φ))->Oh ?GB A x=Ya o:=λe n=>adE e3A.frz e n;have unS:my A (Oh ?GB A):=λa xs e=>un e ?EB;obtain⟨Cq,dxq,x2,x3,x4,x5,x6,x7,x8,x9,x10,x11,x12,x13,x14,Tq,gq⟩:=N'.same sA';have ndr:(rp.map (·.1)).Nodup:=by rw[<-hr.keys];exact nd
 have pmr:ns.Perm ?E1:=by rw[<-hr.keys];exact pm'
 refine⟨sA' _ _ e1,sA' _ _ e2,e3A,D,rfl,wi,q,hd,Cq,dxq,me,x2,x3,x4,x5,x6,x7,x8,x9,x10,x11,x12,x13,x14,ys,ns.map (Jc rp),rfl,rfl,rfl,Tq,un gq ?EB,bK.of (un hDx ?EB),Jo unS hys,?_,λr hr'=>?_,m0,m1,λH2 z s2 pz fr2=>?_⟩
 ·rw[Yk,pm'.length_eq,Yk];omega
 ·obtain⟨x,hx,rfl⟩:=YD.mp hr';obtain⟨e,he,rfl⟩:=YD.mp (pmr.mem_iff.mp hx);have lk:=(Pa (k:=e.1) (r:=e.2) ndr).mpr he;have er:Jc rp e.1=e.2.1:=by unfold Jc;rw[lk]
  rw[er,wf e he];obtain⟨q',hq',eq'⟩:=YD.mp (show e.1∈kvs.map (·.1)from pm'.mem_iff.mp hx);rw[<-eq'];exact hr.rg q' hq'
 rw[aoC ndr pmr wf]at pz;have b3:aW A (rln ?GB A H2):=afT s2;have out:my H2 (rln ?GB A H2):=λx xs e=>by
  rw[tV λz=>by rw[fr2 x z]at e;cases e];exact e
 have pz2:=pz.up out;dsimp only;generalize rln ?GB A H2=A2 at b3 pz2⊢;refine⟨z,rfl,_,(akh pz2).mono.mono,λH3 x' s3 p3=>?_⟩;cbv;exact kk H3 x' (sA'.trans (b3.trans s3)) (aki p3)
theorem agm{k:d9}(h:(dG m)[i]?=Ya (k,v)):∃p,m[i]?=Ya p/\k=YY p.1/\v=p.2:=by
 unfold dG at h;rw[Yw]at h;cases e:m[i]? with
 |none=>rw[e]at h;cases h
 |some p=>rw[e]at h;cases h;exact⟨p,rfl,rfl,rfl⟩
noncomputable def gOf(rp:List ?AX):mF:=Ow (rp.map (·.2.2)) Yb
structure Cg where
 b:Option ?S
 y:mF
 vo:Int
 ag:Option Pn
 rp:List ?AX
variable{c:Cg}{q:Int×Int×Cg×Pn}
noncomputable def Fv(me hd dd:Int)(c:Cg):Bool:=gat c.b c.y me&&eno hd dd (c.rp.map (·.1))
noncomputable def J3(me hd wi:Int)(c:Cg):Pn:=match gOf c.rp with
 |none=>plR me hd c.rp wi
 |some g=>g.2
noncomputable def Og(me hd dd wi:Int)(c:Cg):Cg:=if Fv me hd dd c=true then⟨c.b,Ya ?D6,2^me.toNat,Gy c.ag (Ya ?D6) ?C4 hd,c.rp⟩else c
abbrev ChG(K:Yd)(mg:Ym->Option Ye)(H:Hp)(p:Yc)(me hd:Int)(c:Cg)(d:Yc):Prop:=BL K mg H p me hd c.b c.y c.vo c.ag d c.rp
def vX(K:Yd)(mg:Ym->Option Ye):Sp:=λvs H Q _=>E3 fun(p:Yc) (dd:Int) (f:Yc)=>vs=[.ref p,.int dd,.ref f]/\(E6 λme hd c d wi q=>A6 (ChG K mg H p me hd c d) (MkF H f wi q hd) (HnA K H q me) (WfR c.rp) (0<=dd) (∀r H',KpP p H H'->ChG K mg H' p me hd (Og me hd dd wi c) d->Q (.bl r) H'))
abbrev aaZ:List Ym:=["self","doubts","make"]
theorem pC:aF ["self","doubts","make","yes","plan"] aaZ (az qG):=iw
variable{Fo:Yc}{sY:Yc}{zc:Yc}{BV:Yt}{rJ:Yt}{vY:Yt}(Nt:∅ 7 yS ux VD (ut K))(Dm:∅ 7 Fo BV yx (By K))(Dj:iU K mg "greatest_yes" Fo BV yx)(tG:∅ 7 qy pF aZ (nM K mg))(pR:∅ 7 m8 lG aZ (lJ K mg))(tu:∅ 7 sY rJ XF (rm K mg))(sX:Binds K rJ XF [])(yP:∅ 7 zc vY Xc (wI K mg))(zb:Binds K vY Xc [])(fX:bY K bZ "has_enough" sY)(iK:bY K bZ "made_by" zc)
include eV Nt iG Dm Dj tG kY pR jr tu sX yP zb aL aN dJ fX iK cW in
theorem Kd(F:cB K "propose" "Change.propose" qG f fd):∅ 8 f fd aaZ (vX K mg):=by
 refine F.oj pC ?_;rintro _ A _ s H _ Q E hr _ _ _ ⟨p,dd,f',rfl,h⟩;refine⟨_,(ak (cZ (PW.pt (akx (Az (du K rfl (bh (cj.cons aL.cl dJ tG kY cj.nil) ?Q hr))) (age (Az (du K rfl (aV (cj.cons aL.cl fX tu sX cj.nil) ?Q hr ?B0)))))) ?GL bN)
   (ak (adt (bA (i:=3) pC.nd rfl ?E (bw Dm Dj hr (aj (cP ["kept"] [Yb] rfl rfl ?J (ai0 ?A) ?T ?AA ?GU) ao))))
   (ak (bA (i:=4) pC.nd rfl ?E (rM (bL oY ?BW cA ?BM) (aV (cj.cons aL.cl iK yP zb cj.nil) ?Q hr ?AW) (aM ?A7 ?BW aB ?G)))
   (ak (aU (K:=K) rfl ?Q (dY (aj ?A (aj (pv 4) ao))) rfl)
   (ak (aU (K:=K) rfl ?Q (bw Nt iG hr ?A5) rfl)
   (ak (aP (bh (cj.cons aL.cl cW pR jr cj.nil) ?Q hr))
   ?GL)))))),?_⟩
 refine xl7 ?_;intro _ _ _ _ _;obtain⟨me,hd,⟨b,y,vo,ag,rp⟩,d,wi,q',S,F',N',wf,d0,kk⟩:=h;have S:BL K mg H p me hd b y vo ag d rp:=S;have wf:WfR rp:=wf;obtain⟨⟨C,dx,ba,ye,av,eC,hp,hb,hy,ha⟩,⟨kvs,hd',hr,nd⟩,m0,m1,z0,z1,sm,sv,vy⟩:=id S;rw[aN]at eC;cases eC;obtain⟨cl,n1,n2,n3,n4,n5,n6,n7⟩:=id aL;have fk:=Kw nd hr.rg;have kk0:Fv me hd dd ⟨b,y,vo,ag,rp⟩=false->∀H',aW H H'->Q (.bl false) H':=λe H' s=>by
  have e1:Og me hd dd wi ⟨b,y,vo,ag,rp⟩=⟨b,y,vo,ag,rp⟩:=by unfold Og;rw[e];rfl
  rw[e1]at kk;exact kk false H' (λb o _ e=>s _ _ e) (S.same s)
 refine Nz ?_;cbv;refine⟨p,rfl,me,hd,b,y,vo,ag,d,rp,S,?_⟩;cbv;refine iu (λh1=>?_) λh1=>?_
 ·have h1:gat b y me=false:=by cases z:gat b y me<;>simp_all
  cbv;exact kk0 (by unfold Fv;rw[h1];rfl) H (.refl _)
 have hr2:gat b y me=true:=by cases z:gat b y me<;>simp_all
 obtain⟨q,rfl⟩:∃q,b=Ya q:=by
  cases b with
  |none=>cases hr2
  |some q=>exact⟨q,rfl⟩
 obtain⟨u,rfl,gu⟩:=id hb;cbv;refine⟨p,dd,rfl,me,hd,_,y,vo,ag,d,rp,S,d0,λH1 s1=>?_⟩;have S1:=S.same s1;have hp1:=s1 _ _ hp;have hd1:=s1 _ _ hd';cbv;refine iu (λh2=>?_) λh2=>?_
 ·have h2:eno hd dd (rp.map (·.1))=false:=by cases z:eno hd dd ?E1<;>simp_all
  cbv;exact kk0 (by unfold Fv;rw[h2,rq]) H1 s1
 have h2':eno hd dd (rp.map (·.1))=true:=by cases z:eno hd dd ?E1<;>simp_all
 have ef:Fv me hd dd ⟨Ya q,y,vo,ag,rp⟩=true:=by unfold Fv;rw[hr2,h2'];rfl
 have e1:Og me hd dd wi ⟨Ya q,y,vo,ag,rp⟩=⟨Ya q,Ya (q,J3 me hd wi ⟨Ya q,y,vo,ag,rp⟩),2^me.toNat,Gy ag (Ya (q,J3 me hd wi ⟨Ya q,y,vo,ag,rp⟩)) ?C4 hd,rp⟩:=if_pos ef;rw[e1]at kk;have e3:J3 me hd wi ⟨Ya q,y,vo,ag,rp⟩=(match gOf rp with
  |none=>plR me hd rp wi
  |some g=>g.2):=rfl
 generalize J3 me hd wi ⟨Ya q,y,vo,ag,rp⟩=pd at kk e3
 try dsimp only at kk
 clear e1 ef;refine af3 (d:=d) hd1 ?_;cbv;refine an7 hd1 λo A hA sA=>?_;intro D hD;have nDd:D≠d:=λz=>by rw[z,hA]at hD;cases hD
 have lr:kvs.length=rp.length:=bX hr;refine aez (λi σ B=>E2 λv ys=>A5 (σ=[v]) (aW A B) (B D=Ya (.lst ys)) (ys.length=i) (dQ (λx y=>VL B x y) ys ((rp.take i).map (·.2.2)))) ⟨Yb,[],rfl,aH hD,aA,rfl,.nil⟩ ?_ ?_ ?_
 ·rintro i σ B _ ⟨_,_,_,z,_⟩;exact z _ _ hA
 ·rintro i ky v σ B hkv ⟨v1,ys,rfl,sB,hDx,ly,hys⟩;obtain⟨e,he,rfl,rfl⟩:=agm hkv;have hi:=(Ys.mp he).1;obtain⟨r,hri,_,_,t,rv,yv,q1,q2,q3,q4⟩:=iZ hr he;have kt:my H B:=λa xs z=>sB _ _ (sA _ _ (bD z hd' ?C) (s1 _ _ z));have htB:=kt _ _ q2;have st:=dC.of (K:=K) htB;have a1:mq [rv,yv] 1=Ya yv:=by kernel_rfl
  rw[q1];cbv;have kp:my B (upd B D (.lst (ys++[yv]))):=my.lst hDx;refine⟨_,hDx,bx ?D,_,ys++[yv],rfl,λb o z=>?_,aA,by rw[YE,ly];rfl,?_⟩
  ·rw[aQ (bB z hD)];exact sB b o z
  ·rw[jc hri,YG,YS,mn];exact sh (dQ.mapP hys λ_ _ z=>z.up kp) ((q4.up kt).up kp)
 rintro σ B ⟨v1,ys,rfl,sB,hDx,ly,hys⟩;rw[Lz,lr,cx]at hys;have sl:=bK.of (K:=K) hDx;refine⟨D,rfl,ys,_,sl,hys,λzy hy2=>?_⟩;cbv;refine⟨⟨o,sB _ _ hA⟩,?_⟩;have tS:aW H1 (upd B d (.dK (dG kvs))):=Uy (λb u n e=>sB _ _ (sA b u n e)) hd1;have hyz:VL (upd B d (.dK (dG kvs))) zy (gOf rp):=hy2.up λa xs e=>by rw[aQ (λz=>by rw[z,sB _ _ hA]at e;cases e)];exact e
 generalize upd B d (.dK (dG kvs))=B1 at tS hyz⊢;have sB1:=s1.trans tS;have S2:=S.same sB1;have hp2:=sB1 _ _ hp
 try dsimp only
 refine yJ (λσ' E=>∃pv,A3 (σ'=[Ya (.ref p),Ya (.int dd),Ya (.ref f'),Ya zy,Ya pv]) (aW H E) (Pl E 2 pv (plD pd))) ?_ λN rest=>?_
 rotate_left
 ·cases ey:gOf rp with
  |none=>
   rw[ey]at hyz e3;obtain rfl:zy=.non:=hyz;cbv;rw[show decide (V.non=V.non)=true from decide_eq_true rfl];cbv;refine⟨p,f',rfl,me,hd,_,y,vo,ag,d,rp,wi,q',S2,F'.same sB1,N'.same sB1,wf,λE z sE pz=>?_⟩;exact rest _ _ ⟨z,rfl,sB1.trans sE,by rw[e3];exact akh pz⟩
  |some q2=>
   rw[ey]at hyz e3;obtain⟨t,w',pv,rfl,g1,g2,g3⟩:=id hyz;have st:=dC.of (K:=K) g1;have a1:mq [V.ref w',pv] 1=Ya pv:=by kernel_rfl
   cbv;rw[eO];cbv;exact rest _ _ ⟨pv,rfl,sB1,by rw[e3];exact g3⟩
 rintro σ' E ⟨pv,rfl,sE,pE⟩;have hpE:=sE _ _ hp;cbv;intro t E1 ht s3 g3;have hp3:=s3 _ _ hpE;cbv;intro E2 b2 e2;rw[adl]at e2;cbv;refine⟨me,rfl,m0,by omega,?_⟩;cbv;intro E3 b3 e3;rw[O2]at e3;have kE:KpP p E E3:=λb' o' n e=>b3.at n (b2.at n (s3 _ _ e));have kp:KpP p H E3:=λb' o' n e=>kE _ _ n (sE _ _ e);have ks:my H E3:=λa xs e=>kp _ _ ?CB e;have ks1:my E1 E3:=λa xs e=>b3.at (bD e hp3 ?C) (b2.at (bD e hp3 ?C) e);have ndp:d≠p:=bD hd' hp ?C;have S4:BL K mg E3 p me hd (Ya q) (Ya (q,pd)) ?C4 ag d rp:=⟨⟨_,dx,_,_,av,aN,e3,hb.up ks,⟨t,u,pv,rfl,ks1 _ _ g3,ks _ _ gu,(pE.up (.same s3)).up ks1⟩,ha.up ks⟩,⟨kvs,kp _ _ ndp hd',hr.up ks,nd⟩,m0,m1,z0,z1,sm,sm,(λz=>nomatch z)⟩;cbv;refine⟨p,rfl,me,hd,_,_,_,ag,d,rp,S4,λE4 k4 S5=>?_⟩;cbv;exact kk true E4 (λb' o' n e=>k4 _ _ n (kp _ _ n e)) S5
def VB(mg:Ym->Option Ye)(H:Hp)(a da:Yc)(rs:List ?BE)(ha:Int):Prop:=(∃C dx,mg "Known"=Ya (.ref C)/\H a=Ya (.ins C dx [("learnt",.ref da)]))/\H da=Ya (.dK (dG rs))/\rs.map (·.1)=GB.hl ha/\(∀q∈rs,EmD H q.2)/\∀q∈rs,q.2≠.ref da
theorem VB.up{a da:Yc}{rs:List ?BE}(h:VB mg H a da rs ha)(s1:∀o,H a=Ya o->H' a=Ya o)(s2:∀o,H da=Ya o->H' da=Ya o)(s3:∀q∈rs,∀r,q.2=.ref r->∀o,H r=Ya o->H' r=Ya o):VB mg H' a da rs ha:=by
 obtain⟨⟨C,dx,e,h1⟩,h2,h3,h4,h5⟩:=h;exact⟨⟨C,dx,e,s1 _ h1⟩,s2 _ h2,h3,λq hq=>let ⟨r,e,g⟩:=h4 q hq;⟨r,e,s3 q hq r e _ g⟩,h5⟩
theorem aiF(m:my H H'):∀{xs:List V} {ps:List ?BE},ab5 H xs ps->ab5 H' xs ps:=by
 intro a b w
 induction w with
 |nil=>exact .nil
 |cons w _ ih=>
  obtain⟨a,e,h⟩:=w;exact .cons ⟨a,e,m _ _ h⟩ ih
theorem aex:∀{xs:List V} {ps:List ?BE} {x:V} {p:Int×V},ab5 H xs ps->(∃a,x=.ref a/\H a=Ya (.tup [.int p.1,p.2]))->ab5 H (xs++[x]) (ps++[p]):=by
 intro x0 x1 x2 x3 w h
 induction w with
 |nil=>exact .cons h .nil
 |cons r _ ih=>exact .cons r ih
theorem aj3(n:Int):(GB.hl n).Nodup:=by
 unfold GB.hl;refine K0 _ (λa b h=>?_) (GB.wX n.toNat);intro e;have:a<b:=h;omega
def v6(K:Yd):Sp:=λvs H Q _=>E2 fun(p:Yc) (n:Int)=>vs=[.ref p,.int n]/\(E2 λC dx=>A5 (abx K C) (H p=Ya (.ins C dx [])) (0<=n) (n<9223372036854775808) (∀H' d rs,?E0->H' p=Ya (.ins C dx [("learnt",.ref d)])->H' d=Ya (.dK (dG rs))->rs.map (·.1)=GB.hl n->(∀q∈rs,EmD H' q.2)->(∀q∈rs,q.2≠V.ref d)->H d=Yb->(∀q∈rs,∀r,q.2=V.ref r->H r=Yb)->Q .non H'))
abbrev Hx:List Ym:=["self","hands"]
theorem Kh:aF ["self","hands"] Hx (az pY):=iw
include eV qe qC jK in
theorem JC(F:cB K "__init__" "Known.__init__" pY f fd):∅ 4 f fd Hx (v6 K):=by
 refine F.oj Kh ?_;rintro _ _ _ _ H _ _ _ hr _ _ _ ⟨p,n,rfl,h⟩;refine⟨_,(aq (aU (K:=K) rfl ?Q (cD (abE rfl) ?AE jK iq (aj (cP ["hand"] [Yb] rfl rfl ?J (bM (K:=K) rfl (bw qe qC hr ?B0)) ?T ?AA (λ_ _ _ _ _=>(dY (aj ?Q (aj uM ao))))) ao)) rfl)),?_⟩;obtain⟨C,dx,⟨cl,n1⟩,hp,h0,h1,k⟩:=h;cbv;refine⟨n,rfl,h0,h1,λH1 l hl s1 g1=>?_⟩;cbv;intro D hD;have ln:=GB.Vf n;refine cO (K:=K) (a:=l) (xs:=(GB.hl n).map V.int) (λi σ H'=>E3 λv ys rs=>A6 (σ=[v]) (aW H1 H') (H' D=Ya (.lst ys)) (ab5 H' ys rs) (rs.map (·.1)=(GB.hl n).take i) (∀q∈rs,EmD H' q.2/\∀r,q.2=V.ref r->H1 r=Yb)) ⟨Yb,[],[],rfl,aH hD,aA,.nil,rfl,λq hq=>nomatch hq⟩ ?_ ?_ ?_
 ·rintro i σ H' _ ⟨_,_,_,_,z,_⟩;exact bK.of (z _ _ g1)
 ·rintro i x σ H' hx ⟨v,ys,rs,rfl,sm,hDx,hpr,hk,hem⟩;obtain⟨h,hh,rfl⟩:=VP hx;have hi:=(Ys.mp hh).1;have ly:ys.length<=i:=by
   rw[bX hpr,<-Yk (f:=(·.1)),hk,eA];omega
  cbv;intro r H2 hr s2 g2;cbv;intro t H3 ht s3 g3;have hD3:=s3 _ _ (s2 _ _ hDx);have kD:∀{b o},H3 b=Ya o->o≠.lst ys->(upd H3 D (.lst (ys++[V.ref t]))) b=Ya o:=fun{b o} e n=>by rw[aQ (bD e hD3 n)];exact e
  refine⟨ys,hD3,bx ?D,Ya (.int h),_,rs++[(h,.ref r)],rfl,λb o z=>?_,aA,?_,?_,λq hq=>?_⟩
  ·rw[aQ (bB z hD)];exact s3 _ _ (s2 _ _ (sm b o z))
  ·exact aex (aiF ((my.same ?EO).trans (my.lst hD3)) hpr) ⟨t,rfl,my.lst hD3 _ _ g3⟩
  ·rw[YG,hk,jc hh];rfl
  ·rcases e8.mp hq with z|z
   ·obtain⟨⟨d',e,g⟩,fr⟩:=hem q z;exact⟨⟨d',e,kD (s3 _ _ (s2 _ _ g)) ?C⟩,fr⟩
   ·rw[YU.mp z];exact⟨⟨r,rfl,kD (s3 _ _ g2) ?C⟩,λr' e=>by cases e;exact sm.free hr⟩
 rintro σ H2 ⟨v,ys,rs,rfl,s2,hD2,hpr,hk,hem⟩;rw[show(GB.hl n).take ((GB.hl n).map V.int).length=GB.hl n by rw[Yk,cx]]at hk;refine⟨D,ys,rs,rfl,hD2,hpr,by rw[hk];exact aj3 n,by rw[<-Yk (f:=(·.1)),hk];omega,λd hd=>?_⟩;have s3:=aH (o:=.dK (dG rs)) hd;have g3:(upd H2 d (.dK (dG rs))) d=Ya (.dK (dG rs)):=aA;generalize upd H2 d (.dK (dG rs))=H3 at s3 g3⊢;have s4:aW H H3:=s1.trans ?EO;have hp4:=s4 _ _ hp;cbv;intro H5 b5 g5;refine k H5 d rs (λb o e hb=>b5.at hb (s4 _ _ e)) g5 (b5.of hp4 g3 ?C) hk (λq hq=>?_) (λq hq z=>?_) ((s1.trans s2).free hd) (λq hq r e=>s1.free ((hem q hq).2 r e))
 ·obtain⟨⟨d',e,g⟩,_⟩:=hem q hq;exact⟨d',e,b5.of hp4 (s3 _ _ g) ?C⟩
 ·obtain⟨⟨d',e,g⟩,_⟩:=hem q hq;rw[e]at z;cases z;rw[hd]at g;cases g
theorem Xe{k:Int}{v:V}:∀{m:List ?BE},k∈m.map (·.1)->(uf m k v).map (·.1)=m.map (·.1)
 |[],h=>nomatch h
 |p::m,h=>by
  show(if p.1=k then(p.1,v)::m else p::uf m k v).map (·.1)=_;by_cases z:p.1=k
  ·rw[if_pos z];rfl
  ·rw[if_neg z,YS,YS,Xe ((Yz.mp h).resolve_left λw=>z w.symm)]
theorem alP{k:Int}(h:k∈m.map (·.1)):∃v,lkG m k=Ya v/\(k,v)∈m:=ahW h
def Ek(K:Yd)(mg:Ym->Option Ye):Sp:=λvs H Q _=>E3 fun(p:Yc) (h:Int) (c:Yc)=>vs=[.ref p,.int h,.ref c]/\(E3 λd rs ha=>A4 (VB mg H p d rs ha) (H c=Ya (.dK [])) (h∈GB.hl ha) (∀H' rs',SmB d H H'->VB mg H' p d rs' ha->(∀q∈rs',q∈rs\/∃r,q.2=.ref r/\H r=Yb)->Q .non H'))
abbrev abd:List Ym:=["self","hand","counts"]
theorem QM:aF ["self","hand","counts"] abd (az yw):=iw
variable{ig:Yc}(bO:abx K ig)(cC:mg "Known"=Ya (.ref ig))
include eV zg yW bO cC in
theorem RN(F:cB K "learn" "Known.learn" yw f fd):∅ 3 f fd abd (Ek K mg):=by
 refine F.oj QM ?_;rintro _ _ _ _ _ _ _ _ hr _ _ hu ⟨p,x,c,rfl,h⟩;refine⟨_,(aq (cZ (akN (amo hu ?AU ?A)) (aq (adS hu ?A ?AU (bw zg yW hr (aj (ad1 hu ?A ?AU ?G) ?AW)) rfl)) bN)),?_⟩;obtain⟨d,rs,ha,S,hc,hm,k⟩:=h;obtain⟨⟨C,dx,eC,hp⟩,hd,hk,hem,hap⟩:=id S;rw[cC]at eC;cases eC;obtain⟨cl,n1⟩:=id bO;rw[<-hk]at hm;obtain⟨v,e1,mem⟩:=alP hm;obtain⟨r,rfl,e3⟩:=hem _ mem;have nd:(rs.map (·.1)).Nodup:=by rw[hk];exact aj3 ha
 have lrs:rs.length<YB:=bx (by
  have:=GB.Vf ha;rw[<-hk,Yk]at this;omega)
 have hd':=hd;cbv;rw[e1];refine iu (λ_=>?_) λz=>absurd rfl z;cbv;refine⟨r,c,rfl,e3,hc,λH1 q s1 hq g1=>?_⟩;have hp1:=s1 _ _ hp;have hd1:=s1 _ _ hd;cbv;intro H2 b2 g2;have nq:q≠d:=λz=>by rw[z]at hq;rw[hq]at hd;cases hd
 refine k H2 _ (λb o n e=>b2.at n ?EU) ⟨⟨_,dx,cC,b2.of hd1 hp1 ?C⟩,g2,?_,λw hw=>?_,λw hw=>?_⟩ λw hw=>?_
 ·rw[Xe hm];exact hk
 ·rcases Ge _ _ _ _ hw with z|z
  ·exact⟨q,by rw[z],b2.at nq g1⟩
  ·obtain⟨d',e,g⟩:=hem w z;exact⟨d',e,b2.at (λy=>hap w z (by rw[e,y])) (s1 _ _ g)⟩
 ·rcases Ge _ _ _ _ hw with z|z
  ·rw[z];intro w;cases w;exact nq rfl
  ·exact hap w z
 ·rcases Ge _ _ _ _ hw with z|z
  ·rw[z];exact .inr ⟨q,rfl,hq⟩
  ·exact .inl z
def uI(K:Yd)(mg:Ym->Option Ye):Sp:=λvs H Q _=>∃(p:Yc),vs=?CD/\(E3 λd rs ha=>VB mg H p d rs ha/\∀H' q,aW H H'->H q=Yb->H' q=Ya (.dK [])->Q (.ref q) H')
theorem RK:aF ["self"] aZ (az yD):=iw
variable{W9:Yc}{Tz:Yt}(aaC:∅ 2 W9 Tz yx (Ux K))(W6:iU K mg "common" W9 Tz yx)
include eV aaC W6 gM bO cC in
theorem QF(F:cB K "floor" "Known.floor" yD f fd):∅ 3 f fd aZ (uI K mg):=by
 refine F.oj RK ?_;rintro _ _ _ _ H _ _ _ hr _ _ _ ⟨p,rfl,h⟩;refine⟨_,(aq (aX (bw aaC W6 hr (aj (cD (ack rfl) ?AE gM dy (aj (Vp gX gi mE acP ?A) ao)) ao)))),?_⟩;obtain⟨d,rs,ha,S,k⟩:=h;obtain⟨⟨C,dx,eC,hp⟩,hd,hk,hem,hap⟩:=id S;rw[cC]at eC;cases eC;obtain⟨cl,n1⟩:=id bO;have lrs:rs.length<=63:=by
  have:=GB.Vf ha;rw[<-hk,Yk]at this;omega
 cbv;refine⟨d,_,rfl,rfl,hd,λv hv=>?_⟩;have s1:=aH (o:=WN v d) hv;have g1:(upd H v (WN v d)) v=Ya (WN v d):=aA;generalize upd H v (WN v d)=H1 at s1 g1⊢;cbv;refine⟨v,d,_,rfl,g1,.inl (s1 _ _ hd),by rw[Lz];omega,λl hl=>?_⟩;have s2:=aH (o:=.lst ((dG rs).map (·.2))) hl;have g2:(upd H1 l (.lst ((dG rs).map (·.2)))) l=Ya (.lst ((dG rs).map (·.2))):=aA;generalize upd H1 l (.lst ((dG rs).map (·.2)))=H2 at s2 g2⊢;cbv;refine⟨l,rfl,_,bK.of g2,λx hx=>?_,λH3 q s3 hq g3=>k H3 q (s1.trans ?EO) (s1.free (s2.free hq)) g3⟩;obtain⟨e,he,rfl⟩:=YD.mp hx;unfold dG at he;obtain⟨q,hq,rfl⟩:=YD.mp he;exact(hem q hq).same (s1.trans s2)
def GR(K:Yd):Sp:=λvs H Q _=>E2 fun(x:V) (b:Yc)=>vs=[x,.ref b]/\(bK K H b []/\Q (.int 0) H)
abbrev aaM:List Ym:=["self","places"]
theorem yz:aF ["self","places","so_many","name"] aaM (az Ai):=iw
include eV in
theorem SN(F:cB K "sure" "Known.sure" Ai f fd):∅ 1 f fd aaM (GR K):=by
 refine F.oj yz ?_;rintro _ A _ _ H _ _ _ _ _ _ _ ⟨x,b,rfl,h⟩;refine⟨_,(ak (bA (i:=2) yz.nd rfl ?E aB)
   (ak (lK ah rfl ?E2 (aO (i:=3) yz.nd rfl ?E)
   (ak cJ
   (aq cJ)))
   (aq (aX ?DR)))),?_⟩
 refine xl3 ?_;intro _;obtain⟨hS,kk⟩:=h;cbv;refine iV (K:=K) (a:=b) (xs:=[]) (λi σ A=>H=A/\σ=[Ya x,Ya (.ref b),Ya (.int 0),Yb]) ⟨rfl,rfl⟩ (λi σ A _ z=>by rw[<-z.1];exact hS) ?AC ?_;rintro σ _ ⟨rfl,rfl⟩;cbv;exact kk
def FW(K:Yd):Sp:=λvs H Q _=>E2 fun(x:V) (b:Yc)=>vs=[x,.ref b]/\(dC K H b []/\Q .non H)
abbrev aaX:List Ym:=["self","listed"]
theorem vK:aF ["self","listed","hand","row"] aaX (az yc):=iw
include eV in
theorem Rp(F:cB K "merge" "Known.merge" yc f fd):∅ 1 f fd aaX (FW K):=by
 refine F.oj vK ?_;rintro _ A _ _ H _ _ _ _ _ _ _ ⟨x,b,rfl,h⟩;refine⟨_,(aq (lK ah rfl (Gf (K:=K) rfl ?AU) (J1 (K:=K) (n:=2) rfl rfl (cU (aO (i:=2) vK.nd rfl ?E) (cU (aO (i:=3) vK.nd rfl ?E) um)))
   (aq cJ))),?_⟩
 obtain⟨hS,kk⟩:=h;cbv;refine Wu (K:=K) (a:=b) (xs:=[]) (λi σ A=>H=A/\σ=[Ya x,Ya (.ref b),Yb,Yb]) ⟨rfl,rfl⟩ (λi σ A _ z=>by rw[<-z.1];exact hS) ?AC ?_;rintro σ _ ⟨rfl,rfl⟩;exact kk
def Cr(K:Yd)(mg:Ym->Option Ye):Sp:=λvs H Q _=>∃(p:Yc),vs=?CD/\(E3 λd rs ha=>VB mg H p d rs ha/\∀H' t,aW H H'->H t=Yb->H' t=Ya (.tup [])->Q (.ref t) H')
theorem Oj:aF ["self"] aZ (az vM):=iw
include eV dW bO cC in
theorem OJ(F:cB K "listed" "Known.listed" vM f fd):∅ 1 f fd aZ (Cr K mg):=by
 refine F.oj Oj ?_;rintro _ A _ _ H _ _ _ _ _ hu0 _ ⟨p,rfl,h⟩;refine⟨_,(aq (adt (aX (cD ?D4 ?AE dW bp (aj (cP ["hand","row"] [Yb,Yb] rfl rfl ?J (agB ?A) ?BN (λ_ _ _ _ _=>(qM (bL (akO hu0) ?AU uM ?BM))) ?AS) ao))))),?_⟩;obtain⟨d,rs,ha,S,k⟩:=h;obtain⟨⟨C,dx,eC,hp⟩,hd,hk,hem,hap⟩:=id S;rw[cC]at eC;cases eC;obtain⟨cl,n1⟩:=id bO;have lrs:rs.length<=63:=by
  have:=GB.Vf ha;rw[<-hk,Yk]at this;omega
 refine af3 (d:=d) hd ?_;cbv;refine an7 hd λo A hA sA=>?_;intro D hD;have nDd:D≠d:=λz=>by rw[z,hA]at hD;cases hD
 refine ab7 (λi σ H'=>E2 λv1 v2=>A3 (σ=[v1,v2]) (aW A H') (H' D=Ya (.lst []))) ⟨Yb,Yb,rfl,aH hD,aA⟩ ?_ ?_ ?_
 ·rintro i σ H' _ ⟨_,_,_,z,_⟩;exact z _ _ hA
 ·rintro i ky v t σ H0 H' hkv ⟨v1,v2,rfl,sm0,hD0⟩ ht0 s0 ht;obtain⟨q,hq,rfl,rfl⟩:=agm hkv;obtain⟨r,e2,e3⟩:=hem q (YW hq);have nrd:r≠d:=λz=>hap q (YW hq) (by rw[e2,z]);have sm:=sm0.trans s0;have hr':=sm _ _ (sA _ _ nrd e3);have hDx:=s0 _ _ hD0;rw[e2]at ht;have ht:=dC.of (K:=K) ht;cbv;intro l H1 hl s1 g1;have hr1:Rd H1 r (.dK (dI [])):=.inl (s1 _ _ hr');have gl1:Rd H1 l (.dK []):=.inl g1;cbv;refine iu (λh1=>?_) λh1=>?_
  ·cases h1
  ·exact⟨_,_,rfl,sm.trans s1,s1 _ _ hDx⟩
 rintro σ H' ⟨v1,v2,rfl,sm,hDx⟩;have gD:bK K H' D []:=bK.of hDx;cbv;intro t H3 ht s3 g3;have kd:=s3 _ _ (sm _ _ hA);have ntd:t≠d:=λz=>by rw[z,sm _ _ hA]at ht;cases ht
 refine⟨⟨o,kd⟩,?_⟩;have tS:aW H (upd H3 d (.dK (dG rs))):=Uy (λb u n e=>s3 _ _ (sm _ _ (sA b u n e))) hd;have ht0:H t=none:=by
  cases z:H t with
  |none=>rfl
  |some u=>rw[sm _ _ (sA t u ntd z)]at ht;cases ht
 exact k _ t tS ht0 (by rw[aQ ntd];exact g3)
structure Off(F:Yc->Prop)(H H':Hp):Prop where
 of:∀b o,H b=Ya o->¬ F b->H' b=Ya o
 tp:my H H'
 ex:∀b φ,H b=Ya (.ext φ)->H' b=Ya (.ext φ)
def Gw(F:Yc->Prop)(H H':Hp):Yc->Prop:=λa=>(F a\/H a=Yb)/\H' a≠Yb
theorem Off.refl(F:Yc->Prop)(H:Hp):Off F H H:=⟨λ_ _ e _=>e,λ_ _ e=>e,λ_ _ e=>e⟩
theorem Off.sm{F:Yc->Prop}(s:aW H H'):Off F H H':=⟨λ_ _ e _=>s _ _ e,.same s,λ_ _ e=>s _ _ e⟩
theorem Off.trans{F:Yc->Prop}{B C:Hp}(x:Off F A B)(y:Off F B C):Off F A C:=⟨λb o e n=>y.of b o (x.of b o e n) n,λa xs e=>y.tp _ _ (x.tp _ _ e),λa φ e=>y.ex _ _ (x.ex _ _ e)⟩
theorem Off.mono{F:Yc->Prop}(x:Off F H H')(h:∀a,F a->G a):Off G H H':=⟨λb o e n=>x.of b o e λz=>n (h b z),x.tp,x.ex⟩
theorem Off.none{F:Yc->Prop}(x:Off F H H'){a:Yc}(h:H' a=Yb):F a\/H a=none:=by
 by_cases f:F a
 ·exact .inl f
 ·cases e:H a with
  |none=>exact .inr rfl
  |some o=>rw[x.of a o e f]at h;cases h
theorem Off.but{F:Yc->Prop}{a:Yc}{u:HO}(b:But a H H')(e:H a=Ya u)(f:F a)(n1:∀xs,u≠.tup xs)(n2:∀φ,u≠.ext φ):Off F H H':=
 ⟨λc o g n=>b.at (λz=>n (z▸f)) g,λc xs g=>b.at (λz=>by rw[z,e]at g;cases g;exact n1 _ rfl) g,λc φ g=>b.at (λz=>by rw[z,e]at g;cases g;exact n2 _ rfl) g⟩
theorem Off.smb{F:Yc->Prop}{a:Yc}{u:HO}(b:SmB a H H')(e:H a=Ya u)(f:F a)(n1:∀xs,u≠.tup xs)(n2:∀φ,u≠.ext φ):Off F H H':=
 ⟨λc o g n=>b c o (λz=>n (z▸f)) g,λc xs g=>b c _ (λz=>by rw[z,e]at g;cases g;exact n1 _ rfl) g,λc φ g=>b c _ (λz=>by rw[z,e]at g;cases g;exact n2 _ rfl) g⟩
structure PgX where
 d:Yc
 t:Yc
 k:Yc
 o:Yc
 ta:Yc
 da:Yc
 ab:Yc
 db:Yc
 ra:List ?BE
 rb:List ?BE
variable{k:Int}{t:Yc}{o:HO}
structure CN(K:Yd)(mg:Ym->Option Ye)(H:Hp)(F:Yc->Prop)(p:Yc)(me nu ha ro:Int)(x:PgX):Prop where
 ob:∃C dx,mg "Page"=Ya (.ref C)/\U3 K C/\H p=Ya (.ins C dx (MN (.int me) (.int nu) (.int ha) (.int ro) (.int 0) (.ref x.d) (.ref x.t) (.ref x.k) (.ref x.o) (.ref x.ta) (.ref x.ab)))
 hd:H x.d=Ya (.dK [])
 ht:H x.t=Ya (.lst [])
 hk:H x.k=Ya (.dT [])
 ho:H x.o=Ya (.lst [])
 ta:VB mg H x.ta x.da x.ra ha
 ab:VB mg H x.ab x.db x.rb ha
 nd:x.d≠x.da/\x.d≠x.db/\x.da≠x.db
 na:∀q∈x.ra,q.2≠.ref x.db
 nb:∀q∈x.rb,q.2≠.ref x.da
 fp:F p
 fa:F x.d/\F x.t/\F x.k/\F x.o/\F x.ta/\F x.da/\F x.ab/\F x.db
 fr:∀q∈x.ra++x.rb,∀r,q.2=.ref r->F r
 dm:∀a,F a->H a≠Yb
 me:me∈GB.hl ha
 h0:0<=ha
 h1:ha<9223372036854775808
section
variable{F:Yc->Prop}{p:Yc}{me nu ro:Int}{x:PgX}
theorem CN.off(h:CN K mg H F p me nu ha ro x)(o:Off G H H')(n:∀a,F a->¬ G a):CN K mg H' F p me nu ha ro x:=by
 obtain⟨C,dx,e1,e2,hp⟩:=h.ob;obtain⟨f1,f2,f3,f4,f5,f6,f7,f8⟩:=h.fa;refine⟨⟨C,dx,e1,e2,o.of _ _ hp (n _ h.fp)⟩,o.of _ _ h.hd (n _ f1),o.of _ _ h.ht (n _ f2),o.of _ _ h.hk (n _ f3),o.of _ _ h.ho (n _ f4),h.ta.up (λ_ e=>o.of _ _ e (n _ f5)) (λ_ e=>o.of _ _ e (n _ f6)) (λq hq r e _ g=>o.of _ _ g (n _ (h.fr q (kQ _ hq) r e))),h.ab.up (λ_ e=>o.of _ _ e (n _ f7)) (λ_ e=>o.of _ _ e (n _ f8)) (λq hq r e _ g=>o.of _ _ g (n _ (h.fr q (Y1 _ hq) r e))),h.nd,h.na,h.nb,h.fp,h.fa,h.fr,λa fa=>?_,h.me,h.h0,h.h1⟩;cases e:H a with
 |none=>exact absurd e (h.dm a fa)
 |some u=>rw[o.of a u e (n a fa)];intro z;cases z
theorem CN.same(h:CN K mg H F p me nu ha ro x)(s:aW H H'):CN K mg H' F p me nu ha ro x:=h.off (G:=λ_=>False) (.sm s) λ_ _ z=>z
theorem CN.mono(h:CN K mg H F p me nu ha ro x)(m:∀a,F a->G a)(d:∀a,G a->H a≠Yb):CN K mg H G p me nu ha ro x:=by
 obtain⟨f1,f2,f3,f4,f5,f6,f7,f8⟩:=h.fa;exact⟨h.ob,h.hd,h.ht,h.hk,h.ho,h.ta,h.ab,h.nd,h.na,h.nb,m _ h.fp,⟨m _ f1,m _ f2,m _ f3,m _ f4,m _ f5,m _ f6,m _ f7,m _ f8⟩,λq hq r e=>m _ (h.fr q hq r e),d,h.me,h.h0,h.h1⟩
end
def zq(K:Yd)(mg:Ym->Option Ye):Sp:=λvs H Q _=>E5 fun(p:Yc) (me nu ha ro:Int)=>vs=[.ref p,.int me,.int nu,.int ha,.int ro]/\(E2 λC dx=>A7 (mg "Page"=Ya (.ref C)) (U3 K C) (H p=Ya (.ins C dx [])) (0<=ha) (ha<9223372036854775808) (me∈GB.hl ha) (∀H' x,?E0->CN K mg H' (Gw (λa=>a=p) H H') p me nu ha ro x->Q .non H'))
abbrev aah:List Ym:=["self","me","number","hands","room"]
theorem LR:aF ["self","me","number","hands","room"] aah (az sH):=iw
variable{za:Yc}{wk:Yt}(qF:∅ 4 za wk Hx (v6 K))(qd:Binds K wk Hx [])(Gj:Mk K ig za)
include eV qF qd bO cC Gj in
theorem My(F:cB K "__init__" "Page.__init__" sH f fd):∅ 6 f fd aah (zq K mg):=by
 refine F.oj LR ?_;rintro _ A _ _ H _ _ _ hr _ _ _ ⟨p,me,nu,ha,ro,rfl,h⟩;refine⟨_,(ak ?GA
   (ak (aU (K:=K) rfl ?Q ?DR rfl)
   (ak (aU (K:=K) rfl ?Q ?BW rfl)
   (ak (aU (K:=K) rfl ?Q (pv 4) rfl)
   (ak (aU (K:=K) rfl ?Q aB rfl)
   (ak (aU (K:=K) rfl ?Q uM rfl)
   (ak ?IE
   (ak (aU (K:=K) rfl ?Q aaV rfl)
   (ak ?IE
   (ak (aU (K:=K) rfl ?Q (wz Gj qF hr rfl cC qd .nil fc (aj ?BW ao)) rfl)
   (aq (aU (K:=K) rfl ?Q (wz Gj qF hr rfl cC qd .nil fc (aj ?BW ao)) rfl)))))))))))),?_⟩
 refine ap5 ?_;intro _ _ _ _ _ _ _ _ _;obtain⟨C,dx,mP,T,hp,h0,h1,hme,kk⟩:=h;obtain⟨cl,n1,n2,n3,n4,n5,n6,n7,n8,n9,n10,n11⟩:=id T;cbv;intro H1 b1 g1;cbv;intro H2 b2 g2;cbv;intro H3 b3 g3;cbv;intro H4 b4 g4;cbv;intro H5 b5 g5;have k5:∀b o,H b=Ya o->b≠p->H5 b=Ya o:=λb o e n=>b5.at n ?IV;cbv;intro d A1 hd s1 gd;have g5':=s1 _ _ g5;cbv;intro H6 b6 g6;cbv;intro t A2 ht s2 gt;have g6':=s2 _ _ g6;cbv;intro H7 b7 g7;cbv;intro k hk;have s3:=aH (o:=.dT []) hk;have gk:(upd H7 k (.dT [])) k=Ya (.dT []):=aA;generalize upd H7 k (.dT [])=A3 at s3 gk⊢;have g7':=s3 _ _ g7;cbv;intro H8 b8 g8;cbv;intro o A4 ho s4 go;have g8':=s4 _ _ g8;cbv;intro H9 b9 g9;have k9:∀b u,H b=Ya u->b≠p->H9 b=Ya u:=λb u e n=>b9.at n (s4 _ _ (b8.at n (s3 _ _ (b7.at n (s2 _ _ (b6.at n (s1 _ _ (k5 b u e n))))))));have np:∀{a:Yc} {A:Hp} {u:HO},A p=Ya u->A a=Yb->a≠p:=λe n z=>by rw[z]at n;rw[n]at e;cases e
 have ndp:=np g5 hd;have ntp:=np g6 ht;have nkp:=np g7 hk;have nop:=np g8 ho;have gd9:H9 d=Ya (.dK []):=b9.at ndp (s4 _ _ (b8.at ndp (s3 _ _ (b7.at ndp (s2 _ _ (b6.at ndp gd))))));have gt9:H9 t=Ya (.lst []):=b9.at ntp (s4 _ _ (b8.at ntp (s3 _ _ (b7.at ntp gt))));have gk9:H9 k=Ya (.dT []):=b9.at nkp (s4 _ _ (b8.at nkp gk));have go9:H9 o=Ya (.lst []):=b9.at nop go;have fr:∀{a:Yc} {A:Hp},(∀b u,H b=Ya u->b≠p->A b=Ya u)->a≠p->A a=Yb->H a=none:=fun{a A} kA n e=>by
  cases z:H a with
  |none=>rfl
  |some u=>rw[kA a u z n]at e;cases e
 have k6:∀b u,H b=Ya u->b≠p->H6 b=Ya u:=λb u e n=>b6.at n (s1 _ _ (k5 b u e n));have k7:∀b u,H b=Ya u->b≠p->H7 b=Ya u:=λb u e n=>b7.at n (s2 _ _ (k6 b u e n));have k8:∀b u,H b=Ya u->b≠p->H8 b=Ya u:=λb u e n=>b8.at n (s3 _ _ (k7 b u e n));have fd:=fr k5 ndp hd;have ft:=fr k6 ntp ht;have fk:=fr k7 nkp hk;have fo:=fr k8 nop ho;cbv;intro q1 e1 A5 hq1 s5 gq1;have g9':=s5 _ _ g9;refine⟨q1,ha,rfl,_,e1,bO,gq1,h0,h1,λA6 da ra k6' gq gda hka hra apa fda fra=>⟨rfl,?_⟩⟩;have nq1:q1≠p:=np g9 hq1;have g9'':=k6' _ _ g9' (Ne.symm nq1);cbv;intro H10 b10 g10;have k10:∀b u,H9 b=Ya u->b≠p->b≠q1->H10 b=Ya u:=λb u e n1 n2=>b10.at n1 (k6' _ _ (s5 _ _ e) n2);cbv;intro q2 e2 A7 hq2 s7 gq2;have g10':=s7 _ _ g10;refine⟨q2,ha,rfl,_,e2,bO,gq2,h0,h1,λA8 db rb k8' gq' gdb hkb hrb apb fdb frb=>⟨rfl,?_⟩⟩;have nq2:q2≠p:=np g10 hq2;have g10'':=k8' _ _ g10' (Ne.symm nq2);cbv;intro H11 b11 g11;rw[aiZ]at g11;have k11:∀b u,H10 b=Ya u->b≠p->b≠q2->H11 b=Ya u:=λb u e n1 n2=>b11.at n1 (k8' _ _ (s7 _ _ e) n2);have nn1:∀{a u},H9 a=Ya u->a≠q1:=λe z=>by rw[z,hq1]at e;cases e
 have nn2:∀{a u},H10 a=Ya u->a≠q2:=λe z=>by rw[z,hq2]at e;cases e
 have up:∀{a u},H9 a=Ya u->a≠p->H11 a=Ya u:=fun{a u} e n=>by
  have e10:=k10 _ _ e n (nn1 e);exact k11 _ _ e10 n (nn2 e10)
 have nda:da≠p:=λz=>by rw[z,g9']at fda;cases fda
 have ndb:db≠p:=λz=>by rw[z,g10']at fdb;cases fdb
 have gq10:H10 q1=Ya (.ins _ _ [("learnt",.ref da)]):=b10.at nq1 gq;have gq11:=k11 _ _ gq10 nq1 (nn2 gq10);have gda10:H10 da=Ya (.dK (dG ra)):=b10.at nda gda;have gda11:=k11 _ _ gda10 nda (nn2 gda10);have em10:∀q∈ra,EmD H10 q.2:=λq hq=>let ⟨r,e,g⟩:=hra q hq;⟨r,e,b10.at (λz=>by rw[z,g9'']at g;cases g) g⟩;have em11:∀q∈ra,EmD H11 q.2:=λq hq=>let ⟨r,e,g⟩:=em10 q hq;⟨r,e,k11 _ _ g (λz=>by rw[z,g10]at g;cases g) (nn2 g)⟩;have em12:∀q∈rb,EmD H11 q.2:=λq hq=>let ⟨r,e,g⟩:=hrb q hq;⟨r,e,b11.at (λz=>by rw[z,g10'']at g;cases g) g⟩;have gdb11:H11 db=Ya (.dK (dG rb)):=b11.at ndb gdb;have gqb11:=b11.at nq2 gq';have kA:VB mg H11 q1 da ra ha:=⟨⟨_,_,cC,gq11⟩,gda11,hka,em11,apa⟩;have kB:VB mg H11 q2 db rb ha:=⟨⟨_,_,cC,gqb11⟩,gdb11,hkb,em12,apb⟩;have h10n:∀{a:Yc},a≠p->H10 a=Yb->H a=none:=fun{a} n e=>by
  cases z:H a with
  |none=>rfl
  |some u=>
   have e9:=k9 a u z n;rw[k10 _ _ e9 n (nn1 e9)]at e;cases e
 have gw:∀{a u},H11 a=Ya u->(a=p\/H a=Yb)->Gw (λa=>a=p) H H11 a:=λe h=>⟨h,by rw[e];intro z;cases z⟩;have h9n:∀{a:Yc},a≠p->H9 a=Yb->H a=none:=λn e=>fr k9 n e;refine kk H11 ⟨d,t,k,o,q1,da,q2,db,ra,rb⟩ (λb u e n=>up (k9 b u e n) n) ⟨⟨C,dx,mP,T,g11⟩,up gd9 ndp,up gt9 ntp,up gk9 nkp,up go9 nop,kA,kB,⟨?_,?_,?_⟩,λq hq w=>?_,λq hq w=>?_,gw g11 (.inl rfl),⟨gw (up gd9 ndp) (.inr fd),gw (up gt9 ntp) (.inr ft),gw (up gk9 nkp) (.inr fk),gw (up go9 nop) (.inr fo),gw gq11 (.inr (h9n nq1 hq1)),gw gda11 (.inr (h9n nda (s5.free fda))),gw gqb11 (.inr (h10n nq2 hq2)),gw gdb11 (.inr (h10n ndb (s7.free fdb)))⟩,λq hq r e=>?_,λa f=>f.2,hme,h0,h1⟩
 ·intro z;have z:d=da:=z;rw[<-z,s5 _ _ gd9]at fda;cases fda
 ·intro z;have z:d=db:=z;rw[<-z,s7 _ _ (k10 _ _ gd9 ndp (nn1 gd9))]at fdb;cases fdb
 ·intro z;have z:da=db:=z;rw[<-z,s7 _ _ gda10]at fdb;cases fdb
 ·obtain⟨r,e,g⟩:=em10 q hq;have w:q.2=.ref db:=w;rw[e]at w;cases w;rw[s7 _ _ g]at fdb;cases fdb
 ·have n:=frb q hq _ w;rw[s7 _ _ gda10]at n;cases n
 ·rcases e8.mp hq with z|z
  ·have n:=fra q z _ e;obtain⟨r',e',g⟩:=em11 q z;rw[e]at e';cases e';exact gw g (.inr (h9n (λw=>by rw[w,g9']at n;cases n) (s5.free n)))
  ·have n:=frb q z _ e;obtain⟨r',e',g⟩:=em12 q z;rw[e]at e';cases e';exact gw g (.inr (h10n (λw=>by rw[w,g10']at n;cases n) (s7.free n)))
def vC(K:Yd)(mg:Ym->Option Ye):Sp:=λvs H Q _=>∃(p:Yc),vs=?CD/\(E6 λF me nu ha ro x=>CN K mg H F p me nu ha ro x/\∀H' l,aW H H'->H l=Yb->H' l=Ya (.lst [])->Q (.ref l) H')
theorem Je:aF ["self"] aZ (az oE):=iw
variable{TJ:Yc}{fK:Yc}{QZ:Yt}(FZ:∅ 3 TJ QZ ["calls"] (Pj K))(Gi:iU K mg "by_rank" TJ QZ ["calls"])(bj:U3 K fK)(bI:mg "Page"=Ya (.ref fK))
include eV FZ Gi gM bj bI in
theorem Il(F:cB K "kept_calls" "Page.kept_calls" oE f fd):∅ 4 f fd aZ (vC K mg):=by
 refine F.oj Je ?_;rintro _ _ _ _ H _ _ _ hr _ _ _ ⟨p,rfl,h⟩;refine⟨_,(aq (aX (bw FZ Gi hr (aj (cD (NT rfl) ?AE gM dy (aj (Vp gX gi mE W4 ?A) ao)) ao)))),?_⟩;obtain⟨F',me,nu,ha,ro,x,PA,kk⟩:=h;obtain⟨C,dx,mP,T,hp⟩:=PA.ob;obtain⟨cl,n1,n2,n3,n4,n5,n6,n7,n8,n9,n10,n11⟩:=id T;have gk:=PA.hk;cbv;refine⟨.inr (.inr (.inl ⟨rfl,.inr ⟨_,gk⟩⟩)),x.k,_,rfl,rfl,gk,λv hv=>?_⟩;have s1:=aH (o:=WN v x.k) hv;have g1:(upd H v (WN v x.k)) v=Ya (WN v x.k):=aA;generalize upd H v (WN v x.k)=H1 at s1 g1⊢;cbv;refine⟨v,x.k,_,rfl,g1,.inl (s1 _ _ gk),YX _,λl hl'=>?_⟩;have s2:=aH (o:=.lst (([]:List ?BD).map (·.2))) hl';have g2:(upd H1 l (.lst (([]:List ?BD).map (·.2)))) l=Ya (.lst []):=aA;generalize upd H1 l (.lst (([]:List ?BD).map (·.2)))=H2 at s2 g2⊢;cbv;exact⟨l,rfl,bK.of g2,λH3 D s3 hD g3=>kk H3 D (s1.trans ?EO) (s1.free (s2.free hD)) g3⟩
def DN(K:Yd)(mg:Ym->Option Ye):Sp:=λvs H Q _=>∃(p:Yc),vs=?CD/\(E6 λF me nu ha ro x=>CN K mg H F p me nu ha ro x/\∀H' x',Off F H H'->CN K mg H' (Gw F H H') p me nu ha ro x'->Q .non H')
theorem CN.newk{F:Yc->Prop}{p:Yc}{me nu ro:Int}{x:PgX}{k':Yc}(h:CN K mg H F p me nu ha ro x)(o:Off (λa=>a=p\/a=x.k) H H')(ob:∃C dx,mg "Page"=Ya (.ref C)/\U3 K C/\H' p=Ya (.ins C dx (MN (.int me) (.int nu) (.int ha) (.int ro) (.int 0) (.ref x.d) (.ref x.t) (.ref k') (.ref x.o) (.ref x.ta) (.ref x.ab))))(gk:H' k'=Ya (.dT []))(fk:H k'=Yb):CN K mg H' (Gw F H H') p me nu ha ro {x with k:=k'}:=by
 obtain⟨C,dx,e1,e2,hp⟩:=h.ob;obtain⟨f1,f2,f3,f4,f5,f6,f7,f8⟩:=h.fa;have nk:∀{a u},H a=Ya u->u≠.dT []->(∀C dx fs,u=.ins C dx fs->fs.length≠11)->H' a=Ya u:=fun{a u} e n1 n2=>o.of _ _ e λz=>by
  rcases z with z|z
  ·rw[z,hp]at e;cases e;exact n2 _ _ _ rfl rfl
  ·rw[z,h.hk]at e;cases e;exact n1 rfl
 have g:∀{a u},F a->H' a=Ya u->Gw F H H' a:=λf e=>⟨.inl f,by rw[e];intro z;cases z⟩;have kn:∀{a da:Yc} {rs:List ?BE},VB mg H a da rs ha->VB mg H' a da rs ha:=fun{a da rs} k=>by
  obtain⟨⟨C1,dx1,q1,q2⟩,q3,q4,q5,q6⟩:=k;exact⟨⟨C1,dx1,q1,nk q2 ?C (by intro _ _ _ z;cases z;show(1:Nat)≠11;decide)⟩,nk q3 ?C ?AK,q4,λq hq=>let ⟨r,e,w⟩:=q5 q hq;⟨r,e,nk w ?C ?AK⟩,q6⟩
 have kA:=kn h.ta;have kB:=kn h.ab;obtain⟨⟨_,_,_,a1⟩,a2,_,a4,_⟩:=id kA;obtain⟨⟨_,_,_,b1⟩,b2,_,b4,_⟩:=id kB;obtain⟨C',dx',o1,o2,o3⟩:=id ob;have hd:=nk h.hd ?C ?AK;have ht:=nk h.ht ?C ?AK;have ho:=nk h.ho ?C ?AK;refine⟨ob,hd,ht,gk,ho,kA,kB,h.nd,h.na,h.nb,g h.fp o3,⟨g f1 hd,g f2 ht,⟨.inr fk,by rw[gk];intro z;cases z⟩,g f4 ho,g f5 a1,g f6 a2,g f7 b1,g f8 b2⟩,λq hq r e=>?_,λa f=>f.2,h.me,h.h0,h.h1⟩;rcases e8.mp hq with z|z
 ·obtain⟨r',e',w⟩:=a4 q z;rw[e]at e';cases e';exact g (h.fr q hq _ e) w
 ·obtain⟨r',e',w⟩:=b4 q z;rw[e]at e';cases e';exact g (h.fr q hq _ e) w
theorem Df:aF ["self","floor"] aZ (az xQ):=iw
variable{xT:Yc}{uE:Yt}(HS:∅ 3 xT uE aZ (uI K mg))(qN:Binds K uE aZ [])(fG:bY K ig "floor" xT)
include eV HS qN jK bO bj cC bI fG in
theorem Qa(F:cB K "let_go" "Page.let_go" xQ f fd):∅ 4 f fd aZ (DN K mg):=by
 refine F.oj Df ?_;rintro _ A _ _ H _ _ _ hr hu64 _ _ ⟨p,rfl,h⟩;refine⟨_,(ak (bA (i:=1) Df.nd rfl ?IC (bh (cj.cons bO.cl fG HS qN cj.nil) ?A hr))
   (aq (aU (K:=K) rfl ?Q (cD (Fe rfl (iP (hZ ?B _) hu64)) ?AE jK iq (aj (cP ["floor","name","call"] [Ya 1,Yb,Yb] rfl rfl ?J (aeS ?A) (λ_ _ _ _ _ nd=>J1 (K:=K) (n:=2) rfl rfl (cU (aO (i:=1) nd rfl ?E) (cU (aO (i:=2) nd rfl ?E) um))) ?E6 ?AS) ao)) rfl))),?_⟩
 obtain⟨F',me,nu,ha,ro,x,PA,kk⟩:=h;obtain⟨C,dx,mP,T,hp⟩:=PA.ob;obtain⟨cl,n1,n2,n3,n4,n5,n6,n7,n8,n9,n10,n11⟩:=id T;obtain⟨⟨C1,dx1,e1,h1⟩,_⟩:=id PA.ta;rw[cC]at e1;cases e1;have tK:=bO.cl;have nL:=bO.n1;cbv;refine⟨x.ta,rfl,x.da,x.ra,ha,PA.ta,λH1 fl s1 pH g1=>?_⟩;have hp1:=s1 _ _ hp;have P1:=PA.same s1;have gk1:=P1.hk;cbv;refine akV gk1 λo A hA sA=>?_;intro D hD;refine aag (λi σ B=>aW A B/\B D=Ya (.lst [])) ⟨aH hD,aA⟩ (λi σ B _ z=>z.1 _ _ hA) (λi k v t b σ B B1 hkv=>by simp at hkv) ?_;rintro σ B ⟨sB,gD⟩;refine⟨D,[],[],rfl,gD,.nil,YX _,λk' hk'=>?_⟩;have s3:=aH (o:=.dT (xZ [])) hk';have g3:(upd B k' (.dT (xZ []))) k'=Ya (.dT []):=aA;generalize upd B k' (.dT (xZ []))=H3 at s3 g3⊢;have npk:p≠x.k:=bD hp1 gk1 ?C;have hp3:=s3 _ _ (sB _ _ (sA _ _ npk hp1));cbv;intro H4 b4 g4;rw[acq]at g4;have off4:∀b u,H b=Ya u->b≠p->b≠x.k->H4 b=Ya u:=λb u e m1 m2=>b4.at m1 (s3 _ _ (sB _ _ (sA _ _ m2 ?EU)));have fk:H k'=none:=by
  cases z:H k' with
  |none=>rfl
  |some u=>
   by_cases w:k'=x.k
   ·rw[w,sB _ _ hA]at hk';cases hk'
   ·rw[sB _ _ (sA _ _ w (s1 _ _ z))]at hk';cases hk'
 have nkp:k'≠p:=λz=>by rw[z,hp]at fk;cases fk
 have o4:Off (λa=>a=p\/a=x.k) H H4:=⟨λb u e n=>off4 b u e (λz=>n (.inl z)) λz=>n (.inr z),λa xs e=>off4 _ _ e ?CB (bD e PA.hk ?C),λa φ e=>off4 _ _ e ?CB (bD e PA.hk ?C)⟩;exact kk H4 _ (o4.mono λa z=>z.elim (λw=>w▸PA.fp) λw=>w▸PA.fa.2.2.1) (PA.newk o4 ⟨C,dx,mP,T,g4⟩ (b4.at nkp g3) fk)
def Gr(F:Yc->Prop)(H0:Hp)(G:Yc->Prop):Prop:=∀a,G a->F a\/H0 a=Yb
theorem Off.run{F:Yc->Prop}(s:Off F H0 H)(g:Gr F H0 G)(o:Off G H H'):Off F H0 H':=
 ⟨λb u e n=>o.of b u (s.of b u e n) (λz=>(g b z).elim n λw=>by rw[e]at w;cases w),λa xs e=>o.tp _ _ (s.tp _ _ e),λa φ e=>o.ex _ _ (s.ex _ _ e)⟩
theorem Gr.run{F:Yc->Prop}(s:Off F H0 H)(g:Gr F H0 G)(g':Gr G H G'):Gr F H0 G':=λa z=>(g' a z).elim (g a) λw=>s.none w
theorem Gr.gw{F:Yc->Prop}:Gr F H (Gw F H H'):=λ_ z=>z.1
theorem Gr.self{F:Yc->Prop}:Gr F H F:=λ_ z=>.inl z
noncomputable def ag1(n:Int):V:=match GB.hl n with|[]=>.non|a::_=>.int a
def aaa(K:Yd):Sp:=λvs H Q _=>∃n:Int,vs=[.int n]/\0<=n/\n<9223372036854775808/\∀H',aW H H'->Q (ag1 n) H'
theorem agf:aF ["hands"] IK (az Wi):=iw
include eV qe qC ac2 in
theorem ahf(F:cB K "least" "least" Wi f fd):∅ 4 f fd IK (aaa K):=by
 refine F.oj agf ?_;rintro _ _ _ _ _ _ _ _ hr _ _ _ ⟨n,rfl,h⟩;refine⟨_,(aq (aX (aet (aeI rfl) ?AE ac2 BS (aj (bw qe qC hr ?IS) ao) (aio cA al9)))),?_⟩;obtain⟨h0,h1,kk⟩:=h;cbv;refine aoD ?_;cbv;refine⟨n,rfl,h0,h1,λH1 l hl s1 g1=>?_⟩;cbv;refine⟨l,GB.hl n,_,rfl,rfl,bK.of g1,λe=>?_,λb hb hm=>?_⟩
 ·have:=kk H1 s1;unfold ag1 at this;rw[e]at this;exact this
 ·have:=kk H1 s1;unfold ag1 at this;cases e:GB.hl n with
  |nil=>rw[e]at hb;cases hb
  |cons a r=>
   rw[e]at this;have q1:=GB.af1 e b hb;have q2:=hm a (by rw[e];exact Yf);have:b=a:=by omega
   subst this;assumption
section
variable{F:Yc->Prop}{p:Yc}{me nu ro:Int}{x:PgX}
theorem CN.newo{o':Yc}(h:CN K mg H F p me nu ha ro x)(b:But p H H')
  (ob:∃C dx,mg "Page"=Ya (.ref C)/\U3 K C/\H' p=Ya (.ins C dx (MN (.int me) (.int nu) (.int ha) (.int ro) (.int 0) (.ref x.d) (.ref x.t) (.ref x.k) (.ref o') (.ref x.ta) (.ref x.ab)))) (go:H' o'=Ya (.lst [])) (fo:F o'\/H o'=Yb):Off F H H'/\CN K mg H' (Gw F H H') p me nu ha ro {x with o:=o'}:=by
 obtain⟨C,dx,e1,e2,hp⟩:=h.ob;obtain⟨f1,f2,f3,f4,f5,f6,f7,f8⟩:=h.fa;have nk:∀{a u},H a=Ya u->(∀C dx fs,u=.ins C dx fs->fs.length≠11)->H' a=Ya u:=fun{a u} e n2=>b.at (λz=>by rw[z,hp]at e;cases e;exact n2 _ _ _ rfl rfl) e;have g:∀{a u},F a->H' a=Ya u->Gw F H H' a:=λf e=>⟨.inl f,by rw[e];intro z;cases z⟩;have kn:∀{a da:Yc} {rs:List ?BE},VB mg H a da rs ha->VB mg H' a da rs ha:=fun{a da rs} k=>by
  obtain⟨⟨C1,dx1,q1,q2⟩,q3,q4,q5,q6⟩:=k;exact⟨⟨C1,dx1,q1,nk q2 (by intro _ _ _ z;cases z;show(1:Nat)≠11;decide)⟩,nk q3 ?AK,q4,λq hq=>let ⟨r,e,w⟩:=q5 q hq;⟨r,e,nk w ?AK⟩,q6⟩
 have kA:=kn h.ta;have kB:=kn h.ab;obtain⟨⟨_,_,_,a1⟩,a2,_,a4,_⟩:=id kA;obtain⟨⟨_,_,_,b1⟩,b2,_,b4,_⟩:=id kB;obtain⟨C',dx',o1,o2,o3⟩:=id ob;have hd:=nk h.hd ?AK;have ht:=nk h.ht ?AK;have hk:=nk h.hk ?AK;refine⟨.but b hp h.fp ?R ?R,ob,hd,ht,hk,go,kA,kB,h.nd,h.na,h.nb,g h.fp o3,⟨g f1 hd,g f2 ht,g f3 hk,⟨fo,by rw[go];intro z;cases z⟩,g f5 a1,g f6 a2,g f7 b1,g f8 b2⟩,λq hq r e=>?_,λa f=>f.2,h.me,h.h0,h.h1⟩;rcases e8.mp hq with z|z
 ·obtain⟨r',e',w⟩:=a4 q z;rw[e]at e';cases e';exact g (h.fr q hq _ e) w
 ·obtain⟨r',e',w⟩:=b4 q z;rw[e]at e';cases e';exact g (h.fr q hq _ e) w
theorem CN.lrb{rb':List ?BE}(h:CN K mg H F p me nu ha ro x)(s:SmB x.db H H')(kn:VB mg H' x.ab x.db rb' ha)(fr:∀q∈rb',q∈x.rb\/∃r,q.2=.ref r/\H r=Yb):Off F H H'/\CN K mg H' (Gw F H H') p me nu ha ro {x with rb:=rb'}:=by
 obtain⟨C,dx,e1,e2,hp⟩:=h.ob;obtain⟨f1,f2,f3,f4,f5,f6,f7,f8⟩:=h.fa;obtain⟨_,hb,_⟩:=id h.ab;have nk:∀{a u},H a=Ya u->(∀m,u≠.dK m)->H' a=Ya u:=fun{a u} e n=>s _ _ (λz=>by rw[z,hb]at e;cases e;exact n _ rfl) e;have g:∀{a u},F a->H' a=Ya u->Gw F H H' a:=λf e=>⟨.inl f,by rw[e];intro z;cases z⟩;have kA:VB mg H' x.ta x.da x.ra ha:=h.ta.up (λ_ e=>s _ _ (λz=>by obtain⟨⟨_,_,_,q⟩,_⟩:=h.ta;rw[z,hb]at q;cases q) e) (λ_ e=>s _ _ h.nd.2.2 e) λq hq r e _ w=>s _ _ (λz=>h.na q hq (by rw[e,z])) w;obtain⟨⟨_,_,_,a1⟩,a2,_,a4,_⟩:=id kA;obtain⟨⟨_,_,_,b1⟩,b2,_,b4,_⟩:=id kn;have hd:=s _ _ h.nd.2.1 h.hd;have ht:=nk h.ht ?R;have hk:=nk h.hk ?R;have ho:=nk h.ho ?R;have hp':=nk hp ?R;refine⟨.smb s hb f8 ?R ?R,⟨C,dx,e1,e2,hp'⟩,hd,ht,hk,ho,kA,kn,h.nd,h.na,λq hq w=>?_,g h.fp hp',⟨g f1 hd,g f2 ht,g f3 hk,g f4 ho,g f5 a1,g f6 a2,g f7 b1,g f8 b2⟩,λq hq r e=>?_,λa f=>f.2,h.me,h.h0,h.h1⟩
 ·have w:q.2=.ref x.da:=w;rcases fr q hq with z|⟨r,e,z⟩
  ·exact h.nb q z w
  ·rw[w]at e;cases e;obtain⟨_,q2,_⟩:=h.ta;rw[q2]at z;cases z
 ·rcases e8.mp hq with z|z
  ·obtain⟨r',e',w⟩:=a4 q z;rw[e]at e';cases e';exact g (h.fr q (kQ _ z) _ e) w
  ·obtain⟨r',e',w⟩:=b4 q z;rw[e]at e';cases e';rcases fr q z with y|⟨r2,e2,y⟩
   ·exact g (h.fr q (Y1 _ y) _ e) w
   ·rw[e]at e2;cases e2;exact⟨.inr y,by rw[w];intro z;cases z⟩
theorem CN.lra{ra':List ?BE}(h:CN K mg H F p me nu ha ro x)(s:SmB x.da H H')(kn:VB mg H' x.ta x.da ra' ha)(fr:∀q∈ra',q∈x.ra\/∃r,q.2=.ref r/\H r=Yb):Off F H H'/\CN K mg H' (Gw F H H') p me nu ha ro {x with ra:=ra'}:=by
 obtain⟨C,dx,e1,e2,hp⟩:=h.ob;obtain⟨f1,f2,f3,f4,f5,f6,f7,f8⟩:=h.fa;obtain⟨_,hb,_⟩:=id h.ta;have nk:∀{a u},H a=Ya u->(∀m,u≠.dK m)->H' a=Ya u:=fun{a u} e n=>s _ _ (λz=>by rw[z,hb]at e;cases e;exact n _ rfl) e;have g:∀{a u},F a->H' a=Ya u->Gw F H H' a:=λf e=>⟨.inl f,by rw[e];intro z;cases z⟩;have kB:VB mg H' x.ab x.db x.rb ha:=h.ab.up (λ_ e=>s _ _ (λz=>by obtain⟨⟨_,_,_,q⟩,_⟩:=h.ab;rw[z,hb]at q;cases q) e) (λ_ e=>s _ _ h.nd.2.2.symm e) λq hq r e _ w=>s _ _ (λz=>h.nb q hq (by rw[e,z])) w;obtain⟨⟨_,_,_,a1⟩,a2,_,a4,_⟩:=id kn;obtain⟨⟨_,_,_,b1⟩,b2,_,b4,_⟩:=id kB;have hd:=s _ _ h.nd.1 h.hd;have ht:=nk h.ht ?R;have hk:=nk h.hk ?R;have ho:=nk h.ho ?R;have hp':=nk hp ?R;refine⟨.smb s hb f6 ?R ?R,⟨C,dx,e1,e2,hp'⟩,hd,ht,hk,ho,kn,kB,h.nd,λq hq w=>?_,h.nb,g h.fp hp',⟨g f1 hd,g f2 ht,g f3 hk,g f4 ho,g f5 a1,g f6 a2,g f7 b1,g f8 b2⟩,λq hq r e=>?_,λa f=>f.2,h.me,h.h0,h.h1⟩
 ·have w:q.2=.ref x.db:=w;rcases fr q hq with z|⟨r,e,z⟩
  ·exact h.na q z w
  ·rw[w]at e;cases e;obtain⟨_,q2,_⟩:=h.ab;rw[q2]at z;cases z
 ·rcases e8.mp hq with z|z
  ·obtain⟨r',e',w⟩:=a4 q z;rw[e]at e';cases e';rcases fr q z with y|⟨r2,e2,y⟩
   ·exact g (h.fr q (kQ _ y) _ e) w
   ·rw[e]at e2;cases e2;exact⟨.inr y,by rw[w];intro z;cases z⟩
  ·obtain⟨r',e',w⟩:=b4 q z;rw[e]at e';cases e';exact g (h.fr q (Y1 _ z) _ e) w
end
def Kc(K:Yd)(mg:Ym->Option Ye):Sp:=λvs H Q _=>∃(p:Yc),vs=?CD/\(E6 λF me nu ha ro x=>CN K mg H F p me nu ha ro x/\∀H' G x' l,Off F H H'->CN K mg H' G p me nu ha ro x'->Gr F H G->H' l=Ya (.lst [])->Q (.ref l) H')
theorem ou:aF ["self","calls","sure_places","row","call"] aZ (az Dh):=iw
variable{G8:Yc}{JN:Yc}{wZ:Yc}{Hz:Yc}{adV:Yc}{Do:Yt}{Hk:Yt}{uQ:Yt}{CW:Yt}{abg:Yt}(PQ:∅ 4 af4 aby Dg (acC K))(ym:∅ 4 G8 Do abd (Ek K mg))(yd:Binds K Do abd [])(JB:∅ 4 JN Hk aaM (GR K))(Km:Binds K Hk aaM [])(gf:∅ 4 wZ uQ aZ (vC K mg))(gj:Binds K uQ aZ [])(Hj:∅ 4 Hz CW aZ (DN K mg))(GQ:Binds K CW aZ [])(ad8:∅ 4 adV abg IK (aaa K))(ad7:iU K mg "least" adV abg IK)(jf:bY K ig "learn" G8)(mj:bY K ig "sure" JN)(cu:bY K fK "kept_calls" wZ)(j9:bY K fK "let_go" Hz)
include eV PQ aay Ka J2 ym yd JB Km gf gj Hj GQ ad8 ad7 bO bj cC bI jf mj cu j9 in
theorem Vg(F:cB K "step" "Page.step" Dh f fd):∅ 5 f fd aZ (Kc K mg):=by
 refine F.oj ou ?_;rintro _ A _ _ H _ _ E hr _ _ _ ⟨p,rfl,h⟩;refine⟨_,(ak (bA (i:=1) ou.nd rfl ?E ?IM)
   (ak (cZ (bL KZ ?A (bw ad8 ad7 hr ?A5) ?BM) (aq (aU (K:=K) rfl ?Q (aM ?A7 (bw Ka J2 hr (aj ?A (aj ?AU ?A5))) aB ?G) rfl)) bN)
   (ak (aP (aV (cj.cons bO.cl jf ym yd cj.nil) ?A hr (aj ?A (aj (aM ?A7 (bw PQ aay hr (aj ?A (aj ?AU ?A5))) aB ?G) ao))))
   (ak (bA (i:=2) ou.nd rfl ?E (oJ ?G5 ?A xF (qP (aV (cj.cons bO.cl mj JB Km cj.nil) ?A hr ?A5))))
   (ak (bA (i:=3) ou.nd rfl ?E (aM ?A7 (bw PQ aay hr (aj ?A (aj ?AU ?AW))) aB ?G))
   (ak (lK ah rfl (bM (K:=K) rfl ?BW) (aO (i:=4) ou.nd rfl ?E)
   (aq cJ))
   (ak (aP (aV (cj.cons bO.cl jf ym yd cj.nil) ?A hr (aj ?A ?A5)))
   (ak (aP (bh (cj.cons bj.cl j9 Hj GQ cj.nil) ?Q hr))
   (aq (aX (cP ["call"] [Yb] rfl rfl ?J (bM (K:=K) rfl ?BW) ?T ?AA ?AS))))))))))),?_⟩
 obtain⟨F',me,nu,ha,ro,x,PA,kk⟩:=h;obtain⟨C,dx,mP,T,hp⟩:=PA.ob;have eC:=mP;rw[bI]at eC;cases eC;obtain⟨cl,n1,n2,n3,n4,n5,n6,n7,n8,n9,n10,n11⟩:=id T;have tK:=bO.cl;have nL:=bO.n1;cbv;refine⟨p,rfl,F',me,nu,ha,ro,x,PA,λH1 D s1 hD g1=>?_⟩;have P1:=PA.same s1;have hp1:=s1 _ _ hp;have sD:bK K H1 D []:=bK.of g1;obtain⟨a0,ea⟩:∃a,ag1 ha=.int a:=by
  unfold ag1;cases e:GB.hl ha with
  |nil=>have:=PA.me;rw[e]at this;cases this
  |cons a r=>exact⟨a,rfl⟩
 refine yJ (λσ A=>A4 (σ=[Ya (.ref p),Ya (.ref D),Yb,Yb,Yb]) (Off F' H A) (A D=Ya (.lst [])) (E2 λG x'=>CN K mg A G p me nu ha ro x'/\Gr F' H G)) ?_ λN rest=>?_
 ·rintro σ A ⟨rfl,oA,gD,G,y,PB,gr⟩;obtain⟨C',dx',mP',_,hpA⟩:=PB.ob;rw[bI]at mP';cases mP';have gdA:=PB.hd;have goA:=PB.ho;have sDA:bK K A D []:=bK.of gD;have soA:bK K A y.o []:=bK.of goA;obtain⟨⟨Ck1,dk1,ek1,hk1⟩,_⟩:=id PB.ab;rw[cC]at ek1;cases ek1;cbv;refine⟨y.d,D,y.o,rfl,gdA,sDA,.inl soA,λH2 t l r s2 hl hr gt gl gr2=>?_⟩;have gts:dC K H2 t [.ref l,.ref r]:=dC.of gt;have P2:=PB.same s2;cbv;refine⟨y.ab,me,r,rfl,y.db,y.rb,ha,P2.ab,gr2,PB.me,λH3 rb' sm3 kn3 fr3=>?_⟩;obtain⟨o3,P3⟩:=P2.lrb sm3 kn3 fr3;have oA3:Off F' H H3:=(oA.run gr (.sm s2)).run gr o3;have gr3:Gr F' H (Gw G H2 H3):=Gr.run (oA.run gr (.sm s2)) gr .gw;obtain⟨C3,dx3,mP3,_,hp3⟩:=P3.ob;rw[bI]at mP3;cases mP3;obtain⟨⟨Ck2,dk2,ek2,hk2⟩,_⟩:=id P3.ab;rw[cC]at ek2;cases ek2;have so3:bK K H3 y.o []:=bK.of P3.ho;have gD3:H3 D=Ya (.lst []):=sm3 _ _ (λz=>by obtain⟨_,q,_⟩:=P2.ab;rw[<-z,s2 _ _ gD]at q;cases q) (s2 _ _ gD);cbv;refine⟨_,y.o,rfl,so3,?_⟩;cbv;intro sp H5 hsp s5 gsp;rw[show K6 ([]:List V) Yb (Ya 0)=[] by decide]at gsp;have P5:=P3.same s5;obtain⟨C5,dx5,mP5,_,hp5⟩:=P5.ob;rw[bI]at mP5;cases mP5;have gd5:=P5.hd;have sD5:bK K H5 D []:=bK.of (s5 _ _ gD3);cbv;refine⟨y.d,D,sp,rfl,gd5,sD5,.inl (bK.of gsp),λH6 t2 l2 r2 s6 hl2 hr2 gt2 gl2 gr22=>?_⟩;have gts2:dC K H6 t2 [.ref l2,.ref r2]:=dC.of gt2;have P6:=P5.same s6;have sl2:bK K H6 l2 []:=bK.of gl2;cbv;let jJ4:Nat->St->Hp->Prop:=λi σ B=>H6=B/\σ=[Ya (.ref p),Ya (.ref D),Ya (.ref sp),Ya (.ref l2),Yb];refine iV (K:=K) (a:=l2) (xs:=[]) jJ4 ⟨rfl,rfl⟩ (λi σ B _ z=>by rw[<-z.1];exact sl2) ?AZ ?_;rintro σ _ ⟨rfl,rfl⟩;obtain⟨C7,dx7,mP7,_,hp7⟩:=P6.ob;rw[bI]at mP7;cases mP7;obtain⟨⟨Ck3,dk3,ek3,hk3⟩,_⟩:=id P6.ta;rw[cC]at ek3;cases ek3;have gd6:=P6.hd;cbv;refine⟨y.ta,me,y.d,rfl,y.da,y.ra,ha,P6.ta,gd6,PB.me,λH8 ra' sm8 kn8 fr8=>?_⟩;obtain⟨o8,P8⟩:=P6.lra sm8 kn8 fr8;have oA6:Off F' H H6:=oA3.run gr3 (.sm (s5.trans s6));have oA8:=oA6.run gr3 o8;have gr8:Gr F' H (Gw _ H6 H8):=Gr.run oA6 gr3 .gw;obtain⟨C8,dx8,mP8,_,hp8⟩:=P8.ob;rw[bI]at mP8;cases mP8;have gl8:H8 l2=Ya (.lst []):=sm8 _ _ (λz=>by obtain⟨_,q,_⟩:=P6.ta;rw[<-z,gl2]at q;cases q) gl2;cbv;refine⟨p,rfl,_,me,nu,ha,ro,_,P8,λH9 x9 o9 P9=>?_⟩;have gl9:H9 l2=Ya (.lst []):=o9.of _ _ gl8 λz=>by
   rcases z.1 with w|w
   ·exact w.2 ((s5.free hl2))
   ·rw[gl2]at w;cases w
  have sl9:bK K H9 l2 []:=bK.of gl9;cbv;intro E hE;refine cO (K:=K) (a:=l2) (xs:=[]) (λi σ B=>aW H9 B/\B E=Ya (.lst [])) ⟨aH hE,aA⟩ (λi σ B _ z=>z.1.seq sl9) ?AZ ?_;rintro σ B ⟨sB,gE⟩;cbv;have oA9:=oA8.run gr8 o9;have gr9:Gr F' H _:=Gr.run oA8 gr8 (.gw (H':=H9));exact kk B _ _ E (oA9.run gr9 (.sm sB)) (P9.same sB) gr9 gE
 ·cbv;refine⟨ha,rfl,PA.h0,PA.h1,λH2 s2=>?_⟩;have hp2:=s2 _ _ hp1;have P2:=P1.same s2;have gd2:=P2.hd;have go2:=P2.ho;rw[ea];cbv;refine iu (λz=>?_) λz=>?_
  ·cbv;refine⟨x.d,D,x.o,rfl,gd2,bK.of (s2 _ _ g1),.inl (bK.of go2),λH3 t l g s3 hl' hg gt gl gg=>?_⟩;have hp3:=s3 _ _ hp2;have gts:dC K H3 t [.ref l,.ref g]:=dC.of gt;have P3:=P2.same s3;cbv;intro H4 b4 g4;rw[abQ]at g4;have ngp:g≠p:=λw=>by rw[w,hp2]at hg;cases hg
   have s13:=s1.trans ?EO;obtain⟨o4,P4⟩:=(P3.mono (G:=λa=>F' a\/a=g) (λa z=>.inl z) (λa z=>z.elim (P3.dm a) λw=>by rw[w,gg];intro z;cases z)).newo b4 ⟨_,dx,mP,T,g4⟩ (b4.at ngp gg) (.inl (.inr rfl));refine rest _ _ ⟨rfl,(Off.sm s13).trans (.but b4 hp3 PA.fp ?R ?R),b4.at (bD (s3 _ _ (s2 _ _ g1)) hp3 ?C) (s3 _ _ (s2 _ _ g1)),_,_,P4,λa z=>?_⟩;rcases z.1 with(w|w)|w
   ·exact .inl w
   ·exact .inr (w▸s1.free (s2.free hg))
   ·exact .inr (s13.free w)
  ·exact rest _ _ ⟨rfl,.sm (s1.trans s2),s2 _ _ g1,F',x,P2,.self⟩
def PcA(H:Hp)(t:Yc)(me:Int):Prop:=∃e1 e2 e3 e4,H t=Ya (.tup [.int me,.ref e1,.ref e2,.ref e3,.ref e4])/\H e1=Ya (.tup [])/\H e2=Ya (.tup [])/\H e3=Ya (.tup [])/\H e4=Ya (.tup [])
theorem PcA.up{me:Int}(h:PcA H t me)(s:my H H'):PcA H' t me:=by
 obtain⟨e1,e2,e3,e4,g0,g1,g2,g3,g4⟩:=h;exact⟨e1,e2,e3,e4,s _ _ g0,s _ _ g1,s _ _ g2,s _ _ g3,s _ _ g4⟩
def Hr(K:Yd)(mg:Ym->Option Ye):Sp:=λvs H Q _=>∃(p:Yc),vs=[.ref p,.int 0,.non]/\(E6 λF me nu ha ro x=>CN K mg H F p me nu ha ro x/\∀H' t,aW H H'->PcA H' t me->Q (.ref t) H')
abbrev v9:List Ym:=["self","skip","many"]
theorem xY:aF ["self","skip","many","calls","told"] v9 (az Ag):=iw
variable{Dc:Yc}{Bg:Yt}(vI:∅ 4 Dc Bg aZ (Cr K mg))(uG:Binds K Bg aZ [])(iD:bY K ig "listed" Dc)
include eV vI uG gf gj dW bO bj cC bI iD cu in
theorem Su{t0:ml}(F:Mi K "piece" "Page.piece" Ag f fd [.int 0 t0,.none]):∅ 5 f fd v9 (Hr K mg):=by
 refine F.ok xY (λvs H Q E h=>?_) (λcdv A outer s H vs Q E hr h=>?_)
 ·obtain⟨p,rfl,_⟩:=h;rfl
 obtain⟨p,rfl,h⟩:=h;have hu64:=hr.units;have hu0:=hr.units0;have hu:=Ql hr;refine⟨_,(ak (bA (i:=3) xY.nd rfl ?E (oJ ?G5 ?IM (qP ?AU) xF))
   (ak (cZ (bL mQ ?DR cA ?BM) (aq cJ) bN)
   (ak (bA (i:=4) xY.nd rfl ?E (cD ?D4 ?AE dW bp (aj (cP ["call"] [Yb] rfl rfl ?J (bM (K:=K) rfl ?BW) ?T ?AA ?AS) ao)))
   (aq (aX (dY (aj ?A (aj (cD ?D4 ?AE dW bp ?A5) (aj (bh (cj.cons bO.cl iD vI uG cj.nil) ?A hr) (aj (bh (cj.cons bO.cl iD vI uG cj.nil) ?A hr) (aj (pv 4) ao))))))))))),?_⟩
 refine xl4 ?_;intro _ _;obtain⟨F',me,nu,ha,ro,x,PA,kk⟩:=h;obtain⟨C,dx,mP,T,hp⟩:=PA.ob;have eC:=mP;rw[bI]at eC;cases eC;obtain⟨cl,n1,n2,n3,n4,n5,n6,n7,n8,n9,n10,n11⟩:=id T;have tK:=bO.cl;have nL:=bO.n1;cbv;refine⟨p,rfl,F',me,nu,ha,ro,x,PA,λH1 D s1 hD g1=>?_⟩;have hS1:bK K H1 D []:=bK.of g1;cbv;intro c1 H2 hc1 s2 gc1;rw[show K6 ([]:List V) (Ya 0) Yb=[] by decide]at gc1;have sc:bK K H2 c1 []:=bK.of gc1;cbv;rw[show decide (V.non=V.non)=true from decide_eq_true rfl];cbv;intro E hE;refine cO (K:=K) (a:=c1) (xs:=[]) (λi σ B=>aW H2 B/\B E=Ya (.lst [])) ⟨aH hE,aA⟩ (λi σ B _ z=>z.1.seq sc) ?AZ ?_;rintro σ H3 ⟨s3,gE⟩;have sE:bK K H3 E []:=bK.of gE;have P3:=PA.same (s1.trans ?EO);refine⟨E,[],rfl,.inl ⟨sE,λtt htt=>?_⟩⟩;have s4:=aH (o:=.tup []) htt;have g4:(upd H3 tt (.tup [])) tt=Ya (.tup []):=aA;generalize upd H3 tt (.tup [])=H4 at s4 g4⊢;have P4:=P3.same s4;obtain⟨C4,dx4,mP4,_,hp4⟩:=P4.ob;rw[bI]at mP4;cases mP4;have so4:bK K H4 x.o []:=bK.of P4.ho;cbv;intro oo H5 hoo s5 g5;have P5:=P4.same s5;obtain⟨C5,dx5,mP5,_,hp5⟩:=P5.ob;rw[bI]at mP5;cases mP5;obtain⟨⟨Ck1,dk1,ek1,hk1⟩,_⟩:=id P5.ta;rw[cC]at ek1;cases ek1;cbv;refine⟨x.ta,rfl,x.da,x.ra,ha,P5.ta,λH6 a1 s6 ha1 ga1=>?_⟩;have P6:=P5.same s6;have hp6:=s6 _ _ hp5;obtain⟨⟨Ck2,dk2,ek2,hk2⟩,_⟩:=id P6.ab;rw[cC]at ek2;cases ek2;cbv;refine⟨x.ab,rfl,x.db,x.rb,ha,P6.ab,λH7 a2 s7 ha2 ga2=>?_⟩;cbv;intro t H8 ht s8 g8;exact kk H8 t (s1.trans (s2.trans (s3.trans (s4.trans (s5.trans (s6.trans (s7.trans s8))))))) ⟨oo,a1,a2,tt,g8,s8 _ _ (s7 _ _ (s6 _ _ g5)),s8 _ _ (s7 _ _ ga1),s8 _ _ ga2,s8 _ _ (s7 _ _ (s6 _ _ (s5 _ _ g4)))⟩
def zU(K:Yd):Sp:=λvs H Q _=>E2 fun(x:V) (tt:Yc)=>vs=[x,.ref tt]/\(dC K H tt []/\Q .non H)
abbrev XJ:List Ym:=["self","calls"]
theorem yX:aF ["self","calls","told","call"] XJ (az rR):=iw
include eV in
theorem Mm(F:cB K "keep_new" "Page.keep_new" rR f fd):∅ 1 f fd XJ (zU K):=by
 refine F.oj yX ?_;rintro _ A _ _ H _ _ _ _ _ _ _ ⟨x,tt,rfl,h⟩;refine⟨_,(aq (lK ah rfl (Gf (K:=K) rfl ?AU) (aO (i:=2) yX.nd rfl ?E)
   (ak cJ
   (aq cJ)))),?_⟩
 obtain⟨hS,kk⟩:=h;cbv;refine Wu (K:=K) (a:=tt) (xs:=[]) (λi σ A=>H=A/\σ=[Ya x,Ya (.ref tt),Yb,Yb]) ⟨rfl,rfl⟩ (λi σ A _ z=>by rw[<-z.1];exact hS) ?AC ?_;rintro σ _ ⟨rfl,rfl⟩;exact kk
def CQ(K:Yd)(mg:Ym->Option Ye):Sp:=λvs H Q _=>E2 fun(p t:Yc)=>vs=[.ref p,.ref t]/\(E7 λF me nu ha ro x me'=>A4 (CN K mg H F p me nu ha ro x) (PcA H t me') (me'≠me) (∀H' G x' l,Off F H H'->CN K mg H' G p me nu ha ro x'->Gr F H G->H' l=Ya (.lst [])->Q (.ref l) H'))
abbrev XS:List Ym:=["self","piece"]
theorem Q7:aF ["self","piece"] XS (az yE):=iw
variable{HH:Yc}{NP:Yc}{Bo:Yc}{El:Yt}{Lh:Yt}{yZ:Yt}(yf:∅ 5 HH El aaX (FW K))(yo:Binds K El aaX [])(Nb:∅ 5 NP Lh aZ (Kc K mg))(Nr:Binds K Lh aZ [])(BK:∅ 5 Bo yZ XJ (zU K))(BW:Binds K yZ XJ [])(iY:bY K ig "merge" HH)(iW:bY K fK "keep_new" Bo)(nU:bY K fK "step" NP)
include eV yf yo Nb Nr BK BW oM bO bj cC bI iY iW nU in
theorem QH(F:cB K "listen" "Page.listen" yE f fd):∅ 6 f fd XS (CQ K mg):=by
 refine F.oj Q7 ?_;rintro _ _ _ _ H _ _ _ hr _ _ _ ⟨p,t,rfl,h⟩;refine⟨_,(ak (cZ (bL KZ ?L ?A ?BM) (aq cJ) bN)
   (ak (aP (aV (cj.cons bj.cl iW BK BW cj.nil) ?Q hr ?IT))
   (ak (cZ (bL ahm (cL ?EZ ?AE oM gF ?IT) (cL ?EZ ?AE oM gF ?A5) ?BM) (aq cJ) bN)
   (ak (aP (aV (cj.cons bO.cl iY yf yo cj.nil) ?A hr ?IT))
   (ak (aP (aV (cj.cons bO.cl iY yf yo cj.nil) ?A hr ?IT))
   (aq (aX (bh (cj.cons bj.cl nU Nb Nr cj.nil) ?Q hr)))))))),?_⟩
 refine xl6 ?_;intro _ _ _ _;obtain⟨F',me,nu,ha,ro,x,me',PA,⟨e1,e2,e3,e4,g0,q1,q2,q3,q4⟩,ne,kk⟩:=h;obtain⟨C,dx,mP,T,hp⟩:=PA.ob;have eC:=mP;rw[bI]at eC;cases eC;obtain⟨cl,n1,n2,n3,n4,n5,n6,n7,n8,n9,n10,n11⟩:=id T;have tK:=bO.cl;have nL:=bO.n1;have st:=dC.of (K:=K) g0;have a0:mq ?B2 0=Ya (.int me'):=by kernel_rfl
 have a1:mq ?B2 1=Ya (.ref e1):=by kernel_rfl
 have a2:mq ?B2 2=Ya (.ref e2):=by kernel_rfl
 have a3:mq ?B2 3=Ya (.ref e3):=by kernel_rfl
 have a4:mq ?B2 4=Ya (.ref e4):=by kernel_rfl
 have so:bK K H x.o []:=bK.of PA.ho;have s1:=dC.of (K:=K) q1;obtain⟨⟨Ck1,dk1,ek1,hk1⟩,_⟩:=id PA.ta;rw[cC]at ek1;cases ek1;obtain⟨⟨Ck2,dk2,ek2,hk2⟩,_⟩:=id PA.ab;rw[cC]at ek2;cases ek2;cbv;refine iu (λz=>absurd ?D5 ne) λ_=>?_;cbv;refine⟨_,e4,rfl,dC.of q4,?_⟩;cbv;refine iu (λz=>absurd ?D5 ?B) λ_=>?_;cbv;refine⟨_,e2,rfl,dC.of q2,?_⟩;cbv;refine⟨_,e3,rfl,dC.of q3,?_⟩;cbv;exact⟨p,rfl,F',me,nu,ha,ro,x,PA,kk⟩
def uZ(K:Yd)(mg:Ym->Option Ye):Sp:=λvs H Q _=>E2 fun(p:Yc) (lv:Bool)=>vs=[.ref p,.bl lv]/\(E6 λF me nu ha ro x=>CN K mg H F p me nu ha ro x/\∀H' v,aW H H'->RtA H' v (me,lv)->Q v H')
abbrev UG:List Ym:=["self","leaves"]
theorem Eg:aF ["self","leaves","calls"] UG (az yj):=iw
variable{aao:Yc}{U4:Yt}(aaD:∅ 4 aao U4 aaH (Ub K))(Xx:iU K mg "packed" aao U4 aaH)(zf:∅ 4 xT uE aZ (uI K mg))
include eV aaD Xx zf qN gf gj dW bO bj cC bI fG cu in
theorem Qs(F:cB K "report" "Page.report" yj f fd):∅ 5 f fd UG (uZ K mg):=by
 refine F.oj Eg ?_;rintro _ _ _ _ _ _ _ E hr _ _ _ ⟨p,lv,rfl,h⟩;refine⟨_,(ak (bA (i:=2) Eg.nd rfl ?E (cD ?D4 ?AE dW bp (aj (cP ["call"] [Yb] rfl rfl ?J (bM (K:=K) rfl ?IM) ?T ?AA ?AS) ao)))
   (aq (aX (dY (aj ?A (aj (bw aaD Xx hr (aj (bh (cj.cons bO.cl fG zf qN cj.nil) ?A hr) ao)) (aj ?DR (aj (cD ?D4 ?AE dW bp ?A5) ?B0)))))))),?_⟩
 obtain⟨F',me,nu,ha,ro,x,PA,kk⟩:=h;obtain⟨C,dx,mP,T,hp⟩:=PA.ob;have eC:=mP;rw[bI]at eC;cases eC;obtain⟨cl,n1,n2,n3,n4,n5,n6,n7,n8,n9,n10,n11⟩:=id T;have tK:=bO.cl;have nL:=bO.n1;cbv;refine⟨p,rfl,F',me,nu,ha,ro,x,PA,λH1 D s1 hD g1=>?_⟩;have sc:bK K H1 D []:=bK.of g1;cbv;intro E hE;refine cO (K:=K) (a:=D) (xs:=[]) (λi σ B=>aW H1 B/\B E=Ya (.lst [])) ⟨aH hE,aA⟩ (λi σ B _ z=>z.1.seq sc) ?AZ ?_;rintro σ H3 ⟨s3,gE⟩;have sE:bK K H3 E []:=bK.of gE;have P3:=PA.same (s1.trans s3);refine⟨E,[],rfl,.inl ⟨sE,λtt htt=>?_⟩⟩;have s4:=aH (o:=.tup []) htt;have g4:(upd H3 tt (.tup [])) tt=Ya (.tup []):=aA;generalize upd H3 tt (.tup [])=H4 at s4 g4⊢;have P4:=P3.same s4;obtain⟨C4,dx4,mP4,_,hp4⟩:=P4.ob;rw[bI]at mP4;cases mP4;obtain⟨⟨Ck1,dk1,ek1,hk1⟩,_⟩:=id P4.ta;rw[cC]at ek1;cases ek1;cbv;refine⟨x.ta,rfl,x.da,x.ra,ha,P4.ta,λH5 fl s5 pH g5=>?_⟩;cbv;refine⟨fl,rfl,g5,λH6 t6 s6 ht6 g6=>?_⟩;have P6:=P4.same (s5.trans s6);have hp6:=s6 _ _ (s5 _ _ hp4);have so6:bK K H6 x.o []:=bK.of P6.ho;cbv;intro oo H7 hoo s7 g7;cbv;intro u H8 hu' s8 g8;exact kk H8 (.ref u) (s1.trans (s3.trans (s4.trans (s5.trans (s6.trans (s7.trans s8)))))) ⟨u,t6,tt,oo,rfl,g8,s8 _ _ (s7 _ _ g6),s8 _ _ (s7 _ _ (s6 _ _ (s5 _ _ g4))),s8 _ _ g7⟩
def FN(K:Yd):Sp:=λvs H Q _=>E2 fun(x:V) (t:Yc)=>vs=[x,.ref t]/\(dC K H t []/\∀H' l,aW H H'->H l=Yb->H' l=Ya (.lst [])->Q (.ref l) H')
abbrev aaB:List Ym:=["self","row"]
theorem u0:aF ["self","row","cut","call"] aaB (az yq):=iw
include eV in
theorem RP(F:cB K "finish" "Page.finish" yq f fd):∅ 1 f fd aaB (FN K):=by
 refine F.oj u0 ?_;rintro _ A _ _ _ _ _ _ _ _ _ _ ⟨x,t,rfl,h⟩;refine⟨_,(ak (bA (i:=2) u0.nd rfl ?E (dZ ao))
   (ak (lK ah rfl (bM (K:=K) rfl (cP ["told"] [Yb] rfl rfl ?J (Gf (K:=K) rfl ?AU) ?T ?AA ?AS)) (aO (i:=3) u0.nd rfl ?E)
   (aq cJ))
   (aq (aX ?DR)))),?_⟩
 refine xl3 ?_;intro _;obtain⟨hS,kk⟩:=h;cbv;intro l H1 hl s1 g1;have hS1:=DW s1 hS;cbv;intro D hD;refine KJ (K:=K) (a:=t) (xs:=[]) (λi σ B=>aW H1 B/\B D=Ya (.lst [])) ⟨aH hD,aA⟩ (λi σ B _ z=>DW z.1 hS1) ?AZ ?_;rintro σ H2 ⟨s2,g2⟩;have s2':bK K H2 D []:=bK.of g2;refine⟨D,rfl,⟨_,s2'⟩,?_⟩;refine iV (K:=K) (a:=D) (xs:=[]) (λi σ A=>H2=A/\σ=[Ya x,Ya (.ref t),Ya (.ref l),Yb]) ⟨rfl,rfl⟩ (λi σ A _ z=>by rw[<-z.1];exact s2') ?AC ?_;rintro σ _ ⟨rfl,rfl⟩;cbv;exact kk H2 l (s1.trans s2) hl (s2 _ _ g1)
def Kv(K:Yd)(mg:Ym->Option Ye):Sp:=λvs H Q _=>∃(p:Yc),vs=?CD/\(E6 λF me nu ha ro x=>CN K mg H F p me nu ha ro x/\∀H' l,aW H H'->H l=Yb->H' l=Ya (.lst [])->Q (.ref l) H')
theorem Al:aF ["self","ones","others"] aZ (az DQ):=iw
include eV FZ Gi bj bI in
theorem VG(F:cB K "rows" "Page.rows" DQ f fd):∅ 4 f fd aZ (Kv K mg):=by
 refine F.oj Al ?_;rintro _ _ _ _ H _ _ E hr _ _ _ ⟨p,rfl,h⟩;refine⟨_,(ak (Gh (i:=1) ["call"] [Yb] Al.nd rfl ?E rfl rfl ?J (bM (K:=K) rfl ?A) ?T ?E6 ?AS)
   (ak (Gh (i:=2) ["call"] [Yb] Al.nd rfl ?E rfl rfl ?J (bM (K:=K) rfl ?A) ?T ?E6 ?AS)
   (aq (aX (cP ["call"] [Yb] rfl rfl ?J (bM (K:=K) rfl (bU amx ?AU (bw FZ Gi hr ?AW))) ?T ?AA ?AS))))),?_⟩
 refine xl3 ?_;intro _;obtain⟨F',me,nu,ha,ro,x,PA,kk⟩:=h;obtain⟨C,dx,mP,T,hp⟩:=PA.ob;obtain⟨cl,n1,n2,n3,n4,n5,n6,n7,n8,n9,n10,n11⟩:=id T;have sk:bK K H x.t []:=bK.of PA.ht;cbv;intro E hE;refine cO (K:=K) (a:=x.t) (xs:=[]) (λi σ B=>aW H B/\B E=Ya (.lst [])) ⟨aH hE,aA⟩ (λi σ B _ z=>z.1.seq sk) ?AZ ?_;rintro σ H1 ⟨s1,g1⟩;have hp1:=s1 _ _ hp;have sk1:=s1.seq sk;cbv;intro E2 hE2;refine cO (K:=K) (a:=x.t) (xs:=[]) (λi σ B=>aW H1 B/\B E2=Ya (.lst [])) ⟨aH hE2,aA⟩ (λi σ B _ z=>z.1.seq sk1) ?AZ ?_;rintro σ H2 ⟨s2,g2⟩;cbv;refine⟨E2,rfl,bK.of g2,λH3 l s3 hl g3=>?_⟩;refine⟨E,l,[],[],rfl,rfl,s3 _ _ (s2 _ _ g1),g3,YX _,λc hc=>?_⟩;have s4:=aH (o:=.lst ([]++[])) hc;have g4:(upd H3 c (.lst ([]++[]))) c=Ya (.lst []):=aA;generalize upd H3 c (.lst ([]++[]))=H4 at s4 g4⊢;have s4':bK K H4 c []:=bK.of g4;refine⟨c,rfl,⟨_,s4'⟩,?_⟩;intro D hD;refine cO (K:=K) (a:=c) (xs:=[]) (λi σ B=>aW H4 B/\B D=Ya (.lst [])) ⟨aH hD,aA⟩ (λi σ B _ z=>z.1.seq s4') ?AZ ?_;rintro σ H5 ⟨s5,g5⟩;have s14:=s1.trans (s2.trans (s3.trans s4));exact kk H5 D (s14.trans s5) (s14.free hD) g5
inductive Ev where
 |lst (n h o w:Int)
 |out (n:Int) deriving DecidableEq
variable{es:List Ev}
def EvA(H:Hp)(v:V):Ev->Prop
 | .lst n h o w=>∃t,v=.ref t/\H t=Ya (.tup [.str "list",.int n,.int h,.int o,.int w])
 | .out n=>∃t,v=.ref t/\H t=Ya (.tup [.str "out",.int n])
theorem EvA.up(s:my H H'){e:Ev}(h:EvA H v e):EvA H' v e:=by
 cases e with
 |lst n h o w=>obtain⟨t,e,g⟩:=h;exact⟨t,e,s _ _ g⟩
 |out n=>obtain⟨t,e,g⟩:=h;exact⟨t,e,s _ _ g⟩
abbrev vz(H:Hp):List V->List Ev->Prop:=dQ (EvA H)
theorem j7(s:my H H'){xs:List V}(h:vz H xs es):vz H' xs es:=dQ.mapP h λ_ _ z=>z.up s
def WbV(H:Hp)(v:V):Option (Pn×Int)->Prop
 |none=>v=.non
 |some q=>∃t pv,v=.ref t/\H t=Ya (.tup [pv,.int q.2])/\WM H pv q.1
theorem WbV.up(s:my H H'){w:Option (Pn×Int)}(h:WbV H v w):WbV H' v w:=by
 cases w with
 |none=>exact h
 |some q=>obtain⟨t,pv,e,g1,g2⟩:=h;exact⟨t,pv,e,s _ _ g1,g2.up s⟩
def WL(p:Pn):Prop:=(0<=p.1/\p.1<9223372036854775808)/\(0<=p.2.1/\p.2.1<9223372036854775808)/\(0<=p.2.2/\p.2.2<9223372036854775808)/\∀i,p.2.2.toNat.testBit i=true->p.2.1.toNat.testBit i=true
structure WfC(c:Cg):Prop where
 y:∀q,c.y=Ya q->WL q.2
 ag:∀q,c.ag=Ya q->WL q
 rp:∀e∈c.rp,e.2.1.1=e.1/\(0<=e.1/\e.1<63)/\∀q,e.2.2=Ya q->WL q.2
variable{ag:Option Pn}
theorem WfC.r(w:WfC c):WfR c.rp:=λe he=>(w.rp e he).1
structure Hs where
 me:Int
 ro:Int
 nw:Int
 st:Option (Int×Int×Cg×Pn)
 wb:Option (Pn×Int)
 lg:List Ev
 db:Int
 nt:Int
 wo:Bool
 wi:Bool
variable{wi:Int}{S':Hs}{L M:List Hs}{stt:Nat->Hs}
def StA(K:Yd)(mg:Ym->Option Ye)(H:Hp)(F Fp:Yc->Prop)(me ro:Int)(pv cv cb:V):Option (Int×Int×Cg×Pn)->Prop
 |none=>pv=.non/\cv=.non/\cb=.non
 |some q=>∃pg x ch rd,pv=.ref pg/\cv=.ref ch/\CN K mg H Fp pg me q.1 q.2.1 ro x/\ChG K mg H ch me q.2.1 q.2.2.1 rd/\WM H cb q.2.2.2/\WfC q.2.2.1/\WL q.2.2.2/\(∀a,Fp a->F a)/\F ch/\F rd/\¬ Fp ch/\¬ Fp rd
structure Ng where
 C:Yc
 dx:Yc
 pv:V
 cv:V
 cb:V
 wb:V
 pa:Yc
 lg:Yc
 lo:Yc
 xs:List V
 Fp:Yc->Prop
variable{xs:List V}{C:Yc}
structure j6(K:Yd)(mg:Ym->Option Ye)(H:Hp)(F:Yc->Prop)(p:Yc)(S:Hs)(x:Ng):Prop where
 mH:mg "Hand"=Ya (.ref x.C)
 T:Rx K x.C
 ob:H p=Ya (.ins x.C x.dx (pH (.int S.me) (.int S.ro) (.int S.nw) x.pv x.cv x.cb x.wb (.ref x.pa) (.ref x.lg) (.ref x.lo) (.int S.db) (.int S.nt) (.bl S.wo) (.bl S.wi)))
 pa:H x.pa=Ya (.tup [])
 lg:H x.lg=Ya (.lst x.xs)
 ev:vz H x.xs S.lg
 lo:H x.lo=Ya (.lst [])
 nl:x.lg≠x.lo
 wb:WbV H x.wb S.wb
 wp:∀q,S.wb=Ya q->WL q.1
 st:StA K mg H F x.Fp S.me S.ro x.pv x.cv x.cb S.st
 fp:F p
 fl:F x.lg
 fo:F x.lo
 np:¬ x.Fp p/\¬ x.Fp x.lg/\¬ x.Fp x.lo
 dm:∀a,F a->H a≠Yb
 m0:0<=S.me
 m1:S.me<63
 d0:0<=S.db
 t0:0<=S.nt/\S.nt<9223372036854775808
variable{t0:ml}{wb:Option (Pn×Int)}
section
variable{F:Yc->Prop}{p:Yc}{S:Hs}{x:Ng}
theorem BL.off{p d:Yc}{me hd vo:Int}{b:Option ?S}{y:mF}{rp:List ?AX}(h:BL K mg H p me hd b y vo ag d rp)(o:Off G H H')(n1:¬ G p)(n2:¬ G d):BL K mg H' p me hd b y vo ag d rp:=h.up (λ_ e=>o.of _ _ e n1) (λ_ e=>o.of _ _ e n2) o.tp
theorem StA.off{Fp:Yc->Prop}{me ro:Int}{pv cv cb:V}{st:Option (Int×Int×Cg×Pn)}(h:StA K mg H F Fp me ro pv cv cb st)(o:Off G H H')(n:∀a,F a->¬ G a):StA K mg H' F Fp me ro pv cv cb st:=by
 cases st with
 |none=>exact h
 |some q=>
  obtain⟨pg,x,ch,rd,e1,e2,P,C,c,w,wp,f1,f2,f3,f4,f5⟩:=h;exact⟨pg,x,ch,rd,e1,e2,P.off o λa f=>n a (f1 a f),BL.off C o (n _ f2) (n _ f3),c.up o.tp,w,wp,f1,f2,f3,f4,f5⟩
theorem j6.off(h:j6 K mg H F p S x)(o:Off G H H')(n:∀a,F a->¬ G a):j6 K mg H' F p S x:=by
 refine⟨h.mH,h.T,o.of _ _ h.ob (n _ h.fp),o.tp _ _ h.pa,o.of _ _ h.lg (n _ h.fl),j7 o.tp h.ev,o.of _ _ h.lo (n _ h.fo),h.nl,h.wb.up o.tp,h.wp,h.st.off o n,h.fp,h.fl,h.fo,h.np,λa f=>?_,h.m0,h.m1,h.d0,h.t0⟩;cases e:H a with
 |none=>exact absurd e (h.dm a f)
 |some u=>rw[o.of a u e (n a f)];intro z;cases z
theorem j6.same(h:j6 K mg H F p S x)(s:aW H H'):j6 K mg H' F p S x:=h.off (G:=λ_=>False) (.sm s) λ_ _ z=>z
end
theorem Vq{m:Int}(n0:0<=n)(m0:0<=m)(n1:n<9223372036854775808):0<=YA n (YC m)/\YA n (YC m)<9223372036854775808:=by
 rw[aa3 n0 m0];omega
def uO(K:Yd)(mg:Ym->Option Ye):Sp:=λvs H Q _=>∃(p:Yc),vs=?CD/\(E3 λF S x=>j6 K mg H F p S x/\∀H' l,aW H H'->H l=Yb->H' l=Ya (.lst x.xs)->Q (.ref l) H')
theorem Rh:aF ["self"] aZ (az yu):=iw
variable(aC:Rx K bf)(aD:mg "Hand"=Ya (.ref bf))
include eV gM aC aD in
theorem Qd(F:cB K "events" "Hand.events" yu f fd):∅ 1 f fd aZ (uO K mg):=by
 refine F.oj Rh ?_;rintro _ _ _ _ H _ _ _ _ _ _ _ ⟨p,rfl,h⟩;refine⟨_,(aq (aX (cD (Js (K:=K) rfl) ?AE gM dy ?A5))),?_⟩;obtain⟨F',S,x,A1,kk⟩:=h;have hp:=A1.ob;obtain⟨cl,n1,n2,n3,n4,n5,n6,n7,n8,n9,n10,n11,n12,n13,n14⟩:=id A1.T;have sl:bK K H x.lg x.xs:=bK.of A1.lg;cbv;intro l H1 hl s1 g1;exact kk H1 l s1 hl g1
def mD(K:Yd)(mg:Ym->Option Ye):Sp:=λvs H Q _=>∃(p:Yc),vs=?CD/\(E3 λF S x=>j6 K mg H F p S x/\∀v,BaV H v (S.st.bind λq=>q.2.2.1.b)->Q v H)
theorem Oi:aF ["self"] aZ (az vp):=iw
include eV aL aC aN aD in
theorem Oz(F:cB K "stopped" "Hand.stopped" vp f fd):∅ 1 f fd aZ (mD K mg):=by
 refine F.oj Oi ?_;rintro _ _ _ _ _ _ _ _ _ _ _ _ ⟨p,rfl,h⟩;refine⟨_,(aq (aX (rM ?ET cA ?BY))),?_⟩;obtain⟨F',S,x,A1,kk⟩:=h;have hp:=A1.ob;obtain⟨cl,n1,n2,n3,n4,n5,n6,n7,n8,n9,n10,n11,n12,n13,n14⟩:=id A1.T;have T7:=aL.n3;have Tc:=aL.cl;have st:=A1.st;cases e:S.st with
 |none=>
  rw[e]at st kk;obtain⟨q1,q2,q3⟩:=st;rw[q1,q2,q3]at hp;cbv;rw[show decide (V.non=V.non)=true from decide_eq_true rfl];cbv;exact kk _ rfl
 |some q=>
  rw[e]at st kk;obtain⟨pg,y,ch,rd,e1,e2,P,⟨⟨C,dx,ba,ye,av,eC,hc,hb,_⟩,_⟩,_⟩:=st;rw[aN]at eC;cases eC;rw[e1,e2]at hp;cbv;rw[eO];cbv;exact kk _ hb
def nR(K:Yd)(mg:Ym->Option Ye):Sp:=λvs H Q _=>E2 fun(p:Yc) (n:Int)=>vs=[.ref p,.int n]/\(E3 λF S x=>j6 K mg H F p S x/\Q (.bl (match S.st with|none=>false|some q=>decide (q.1=n))) H)
abbrev U5:List Ym:=["self","number"]
theorem JQ:aF ["self","number"] U5 (az qm):=iw
include eV aC bj aD bI in
theorem Jv(F:cB K "stands_in" "Hand.stands_in" qm f fd):∅ 1 f fd U5 (nR K mg):=by
 refine F.oj JQ ?_;rintro _ _ _ _ _ _ _ _ _ _ _ _ ⟨p,n,rfl,h⟩;refine⟨_,(aq (aX (uz (ie mQ ?A cA ?BM) (uA (ie KZ ?BY ?AU ?BM))))),?_⟩;obtain⟨F',S,x,A1,kk⟩:=h;have hp:=A1.ob;obtain⟨cl,n1,n2,n3,n4,n5,n6,n7,n8,n9,n10,n11,n12,n13,n14⟩:=id A1.T;have T2:=bj.n2;have Tc:=bj.cl;have st:=A1.st;cases e:S.st with
 |none=>
  rw[e]at st kk;obtain⟨q1,q2,q3⟩:=st;rw[q1,q2,q3]at hp;cbv;exact kk
 |some q=>
  rw[e]at st kk;obtain⟨pg,y,ch,rd,e1,e2,P,_⟩:=st;obtain⟨C,dx,mP,_,hg⟩:=P.ob;rw[bI]at mP;cases mP;rw[e1,e2]at hp;cbv;rw[eO];cbv;exact kk
def lw(K:Yd)(mg:Ym->Option Ye):Sp:=λvs H Q _=>∃(p:Yc),vs=?CD/\(E3 λF S x=>A3 ?AP ((S.st=Yb->Q .non H)) (∀q,S.st=Ya q->∀H' t,aW H H'->H' t=Ya (.tup [.int q.1,.int q.2.1])->Q (.ref t) H'))
theorem Mw:aF ["self"] aZ (az sy):=iw
include eV aC bj aD bI in
theorem LC(F:cB K "standing" "Hand.standing" sy f fd):∅ 1 f fd aZ (lw K mg):=by
 refine F.oj Mw ?_;rintro _ _ _ _ _ _ _ _ _ _ _ _ ⟨p,rfl,h⟩;refine⟨_,(aq (aX (rM ?ET cA (dY (aj ?BY (aj ?BY ao)))))),?_⟩;obtain⟨F',S,x,A1,k1,k2⟩:=h;have hp:=A1.ob;obtain⟨cl,n1,n2,n3,n4,n5,n6,n7,n8,n9,n10,n11,n12,n13,n14⟩:=id A1.T;have T2:=bj.n2;have T3:=bj.n3;have Tc:=bj.cl;have st:=A1.st;cases e:S.st with
 |none=>
  rw[e]at st;obtain⟨q1,q2,q3⟩:=st;rw[q1,q2,q3]at hp;cbv;rw[show decide (V.non=V.non)=true from decide_eq_true rfl];cbv;exact k1 e
 |some q=>
  rw[e]at st;obtain⟨pg,y,ch,rd,e1,e2,P,_⟩:=st;obtain⟨C,dx,mP,_,hg⟩:=P.ob;rw[bI]at mP;cases mP;rw[e1,e2]at hp;cbv;rw[eO];cbv;intro t H1 ht s1 g1;exact k2 q e H1 t s1 g1
def mX(K:Yd)(mg:Ym->Option Ye):Sp:=λvs H Q _=>E2 fun(p l:Yc)=>vs=[.ref p,.ref l]/\(E3 λF S x=>A4 ?AP (bK K H l []) ?GO (∀H',aW H H'->Q .non H'))
abbrev U7:List Ym:=["self","taken"]
theorem Ip:aF ["self","taken"] U7 (az pA):=iw
include eV aC aD in
theorem Ij(F:cB K "note_taken" "Hand.note_taken" pA f fd):∅ 1 f fd U7 (mX K mg):=by
 refine F.oj Ip ?_;rintro _ _ _ _ H _ _ _ _ _ _ _ ⟨p,l,rfl,h⟩;refine⟨_,(aq (aP (ad3 nr zS z5 TX ?A (aj (cP ["told","why"] [Yb,Yb] rfl rfl ?J ?E2 ?BN ?AA ?AS) ao)))),?_⟩;obtain⟨F',S,x,A1,sl,ll,kk⟩:=h;have hp:=A1.ob;obtain⟨cl,n1,n2,n3,n4,n5,n6,n7,n8,n9,n10,n11,n12,n13,n14⟩:=id A1.T;have gl:=A1.lg;have lx:x.xs.length=S.lg.length:=bX A1.ev;cbv;intro D hD;refine cO (K:=K) (a:=l) (xs:=[]) (λi σ B=>aW H B/\B D=Ya (.lst [])) ⟨aH hD,aA⟩ (λi σ B _ z=>z.1.seq sl) ?AZ ?_;rintro σ B ⟨sB,gD⟩;refine⟨x.lg,D,x.xs,[],rfl,rfl,sB _ _ gl,gD,Y5 (bx (by rw[fe];omega)),kk _ λb o e=>?_⟩;by_cases z:b=x.lg
 ·rw[z,aA,dA,<-gl,<-z,e]
 ·rw[aQ z];exact sB _ _ e
noncomputable def cg0:Cg:=⟨Yb,Yb,0,Yb,[]⟩
noncomputable def jL(n h:Int):Bool:=n.toNat.testBit h.toNat
theorem ak3{h:Int}(h0:0<=h)(h1:h<63)(e:jL n h=true):h∈GB.hl n:=by
 have:=GB.VR (n:=n) (h:=h.toNat);rw[vt h0]at this;exact this.mpr ⟨by omega,e⟩
noncomputable def mxI(a b:Int):Int:=if b>a then b else a
noncomputable def Mu(S:Hs)(n:Int)(pl:Pn):Hs:={S with nw:=mxI S.nw n,st:=Ya (n,pl.2.1,cg0,pl),wb:=Yb,nt:=YA S.nt (YC pl.2.1),wi:=false,lg:=S.lg++[.lst n pl.2.1 pl.1 pl.2.2]}
def Hu(K:Yd)(mg:Ym->Option Ye):Sp:=λvs H Q _=>E3 fun(p:Yc) (n:Int) (v:V)=>vs=[.ref p,.int n,v]/\(E4 λF S x pl=>A6 ?AP (WM H v pl) (WL pl) (jL pl.2.1 S.me=true) ?GO (∀H' G x',Off F H H'->j6 K mg H' G p (Mu S n pl) x'->Gr F H G->Q .non H'))
abbrev aaQ:List Ym:=["self","number","plan"]
theorem Te:aF ["self","number","plan"] aaQ (az Ak):=iw
variable{wj:Yc}{BR:Yc}{vd:Yt}{yO:Yt}(xx:∅ 6 wj vd aga (uL K))(wB:Binds K vd aga [])(BX:∅ 6 BR yO aah (zq K mg))(Cd:Binds K yO aah [])(Ez:Mk K bZ wj)(Qh:Mk K fK BR)
include eV xx wB BX Cd Uk aL aC bj aN aD bI Ez Qh in
theorem Sw(F:cB K "enter" "Hand.enter" Ak f fd):∅ 8 f fd aaQ (Hu K mg):=by
 refine F.oj Te ?_;rintro _ _ _ _ H _ _ _ hr _ _ _ ⟨p,n,v,rfl,h⟩;refine⟨_,(ak (aU (K:=K) rfl ?Q (wz Qh BX hr rfl bI Cd .nil fc (aj ?A (aj ?AU (aj ?X ?A5)))) rfl)
   (ak (aU (K:=K) rfl ?Q (wz Ez xx hr rfl aN wB .nil fc (aj ?A (aj ?X ao))) rfl)
   (ak (aU (K:=K) rfl ?Q ?DR rfl)
   (ak ?BA
   (ak (aU (K:=K) rfl ?Q (cL (Uw rfl) ?AE Uk tT (aj ?A ?B0)) rfl)
   (ak (aU (K:=K) rfl ?Q (bU Fl ?A (K3 Mh ?X)) rfl)
   (ak ?D2
   (aq (aP (Qg (K:=K) rfl (ad3 nr Ap Aq Lq ?A (aj (dY (aj oV (aj ?AU (aj ?X (aj ?X (aj ?X ao)))))) ao)))))))))))),?_⟩
 refine xl8 ?_;intro _ _ _ _ _ _;obtain⟨F',S,x,pl,HA,⟨tp,te,rfl,gp0,gp1⟩,wp,hs,ll,kk⟩:=h;have hp:=HA.ob;obtain⟨cl,n1,n2,n3,n4,n5,n6,n7,n8,n9,n10,n11,n12,n13,n14⟩:=id HA.T;have eC:=HA.mH;rw[aD]at eC;have eC:=YK eC;have hme:=ak3 HA.m0 HA.m1 hs;have lx:x.xs.length=S.lg.length:=bX HA.ev;have cz:=dC.of (K:=K) gp0;have a0:mq ?BI 0=Ya (.int pl.1):=by kernel_rfl
 have a1:mq ?BI 1=Ya (.int pl.2.1):=by kernel_rfl
 have a2:mq ?BI 2=Ya (.int pl.2.2):=by kernel_rfl
 cbv;intro q dq A1 hq s1 g1;refine⟨q,S.me,n,pl.2.1,S.ro,rfl,_,dq,bI,bj,g1,wp.2.1.1,wp.2.1.2,hme,λA2 xq k2 P2=>⟨rfl,?_⟩⟩;have nq:∀{a u},H a=Ya u->a≠q:=λe z=>by rw[z,hq]at e;cases e
 have sA2:aW H A2:=λb u e=>k2 _ _ ?EU (nq e);have hpA:=sA2 _ _ hp;cbv;intro B1 b1 e1;rw[adP]at e1;have gtB:B1 tp=Ya (.tup [.int pl.1,.int pl.2.1,.int pl.2.2,.ref te]):=b1.at (bD (sA2 _ _ gp0) hpA ?C) (sA2 _ _ gp0);have stp1:=dC.of (K:=K) gtB;cbv;intro c dc A3 hc s3 g3;refine⟨c,S.me,pl.2.1,rfl,_,dc,aL,g3,λA4 rd k4 hrd grd gch=>⟨rfl,?_⟩⟩;have nc:∀{a u},B1 a=Ya u->a≠c:=λe z=>by rw[z,hc]at e;cases e
 have sA4:aW B1 A4:=λb u e=>k4 _ _ (s3 _ _ e) (nc e);have e1A:=sA4 _ _ e1;cbv;intro B2 b2 e2;rw[ac3]at e2;cbv;intro B3 b3 e3;rw[acZ]at e3;cbv;intro B4 b4 e4;rw[ady]at e4;cbv;refine⟨S.nw,n,rfl,?_⟩;cbv;intro B5 b5 e5;rw[adB]at e5;have kB15:∀b u,B1 b=Ya u->b≠p->B5 b=Ya u:=λb u e n=>b5.at n (b4.at n (b3.at n (b2.at n (sA4 _ _ e))));have ntp:tp≠p:=bD gp0 hp ?C;have stp5:=dC.of (K:=K) (kB15 _ _ gtB ntp);cbv;intro B6 b6 e6;rw[adk]at e6;cbv;intro B7 b7 e7;rw[ad4]at e7;have kB17:∀b u,B1 b=Ya u->b≠p->B7 b=Ya u:=λb u e n=>b7.at n (b6.at n (kB15 b u e n));have k07:∀b u,H b=Ya u->b≠p->B7 b=Ya u:=λb u e n=>kB17 _ _ (b1.at n (sA2 _ _ e)) n;have nlp:x.lg≠p:=bD HA.lg hp ?C;have glg:=k07 _ _ HA.lg nlp;have stp7:=dC.of (K:=K) (kB17 _ _ gtB ntp);cbv;intro t B8 ht s8 g8;have glg8:=s8 _ _ glg;have ls:x.xs.length<YB:=bx ?D;cbv;intro B9 b9 g9;have ntl:t≠x.lg:=bD g8 glg8 ?C;have k79:∀b u,B7 b=Ya u->b≠x.lg->B9 b=Ya u:=λb u e n=>b9.at n (s8 _ _ e);have k09:∀b u,H b=Ya u->b≠p->b≠x.lg->B9 b=Ya u:=λb u e m1 m2=>k79 _ _ (k07 _ _ e m1) m2;have tpk:my H B9:=λa xs e=>k09 _ _ e ?CB (bD e HA.lg ?C);have o9:Off F' H B9:=⟨λb u e m=>k09 b u e (λz=>m (z▸HA.fp)) λz=>m (z▸HA.fl),tpk,λa φ e=>k09 _ _ e ?CB (bD e HA.lg ?C)⟩;have gp9:=k79 _ _ e7 (bD e7 glg ?C);have nlo:x.lo≠p:=bD HA.lo hp ?C;have glo9:=k09 _ _ HA.lo nlo HA.nl.symm
 -- the page
 have fq:∀{a},Gw (λa=>a=q) A1 A2 a->H a=none:=fun{a} z=>z.1.elim (λw=>w▸hq) λw=>s1.free w;have nf:∀{a u},H a=Ya u->¬ Gw (λa=>a=q) A1 A2 a:=λe z=>by rw[fq z]at e;cases e
 have o29:Off (λa=>a=p\/a=x.lg) A2 B9:=⟨λb u e m=>k79 _ _ (kB17 _ _ (b1.at (λz=>m (.inl z)) e) λz=>m (.inl z)) λz=>m (.inr z),λa xs e=>k79 _ _ (kB17 _ _ (b1.at (bD e hpA ?C) e) (bD e hpA ?C)) (bD e (sA2 _ _ HA.lg) ?C),λa φ e=>k79 _ _ (kB17 _ _ (b1.at (bD e hpA ?C) e) (bD e hpA ?C)) (bD e (sA2 _ _ HA.lg) ?C)⟩;have P9:=P2.off o29 λa z w=>w.elim (λy=>nf hp (y▸z)) λy=>nf HA.lg (y▸z)
 -- the change
 have k49:∀b u,A4 b=Ya u->b≠p->b≠x.lg->B9 b=Ya u:=λb u e m1 m2=>k79 _ _ (b7.at m1 (b6.at m1 (b5.at m1 (b4.at m1 (b3.at m1 (b2.at m1 e)))))) m2;have ncp:c≠p:=λz=>by rw[z,e1]at hc;cases hc
 have gB1l:B1 x.lg=Ya (.lst x.xs):=b1.at nlp (sA2 _ _ HA.lg);have ncl:c≠x.lg:=λz=>by rw[z,gB1l]at hc;cases hc
 have hrd1:B1 rd=none:=s3.free hrd;have nrp:rd≠p:=λz=>by rw[z,e1]at hrd1;cases hrd1
 have nrl:rd≠x.lg:=λz=>by rw[z,gB1l]at hrd1;cases hrd1
 have gch9:=k49 _ _ gch ncp ncl;have grd9:=k49 _ _ grd nrp nrl;have fresh:∀{a},a≠p->B1 a=Yb->H a=Yb/\¬ Gw (λa=>a=q) A1 A2 a:=fun{a} m e=>by
  have e2:A2 a=none:=by
   cases z:A2 a with
   |none=>rfl
   |some u=>rw[b1.at m z]at e;cases e
  exact⟨sA2.free e2,λz=>z.2 e2⟩
 obtain⟨hcH,ncF⟩:=fresh ncp hc;obtain⟨hrH,nrF⟩:=fresh nrp hrd1;have C9:BL K mg B9 c S.me pl.2.1 Yb Yb 0 Yb rd []:=⟨⟨_,dc,.non,.non,.non,aN,gch9,rfl,rfl,.non⟩,⟨[],grd9,.nil,.nil⟩,HA.m0,HA.m1,wp.2.1.1,wp.2.1.2,⟨eF _,trivial⟩,⟨qk _,trivial⟩,λ_=>rfl⟩;refine kk B9 (λa=>a=p\/a=x.lg\/a=x.lo\/Gw (λa=>a=q) A1 A2 a\/a=c\/a=rd) {x with pv:=.ref q,cv:=.ref c,cb:=.ref tp,wb:=.non,xs:=x.xs++[.ref t],Fp:=Gw (λa=>a=q) A1 A2} o9 ?_ λa z=>?_
 ·refine⟨HA.mH,HA.T,gp9,tpk _ _ HA.pa,g9,sh (j7 tpk HA.ev) ⟨t,rfl,b9.at ntl g8⟩,glo9,HA.nl,rfl,(λq z=>nomatch z),⟨q,xq,c,rd,rfl,rfl,P9,C9,⟨tp,te,rfl,tpk _ _ gp0,tpk _ _ gp1⟩,⟨(λq z=>nomatch z),(λq z=>nomatch z),(λe z=>nomatch z)⟩,wp,λa z=>.inr (.inr (.inr (.inl z))),.inr (.inr (.inr (.inr (.inl rfl)))),.inr (.inr (.inr (.inr (.inr rfl)))),ncF,nrF⟩,.inl rfl,.inr (.inl rfl),.inr (.inr (.inl rfl)),⟨nf hp,nf HA.lg,nf HA.lo⟩,λa z=>?_,HA.m0,HA.m1,HA.d0,Vq HA.t0.1 wp.2.1.1 HA.t0.2⟩;rcases z with rfl|rfl|rfl|z|rfl|rfl
  ·rw[gp9];intro z;cases z
  ·rw[g9];intro z;cases z
  ·rw[glo9];intro z;cases z
  ·exact P9.dm a z
  ·rw[gch9];intro z;cases z
  ·rw[grd9];intro z;cases z
 ·rcases z with rfl|rfl|rfl|z|rfl|rfl
  ·exact .inl HA.fp
  ·exact .inl HA.fl
  ·exact .inl HA.fo
  ·exact .inr (fq z)
  ·exact .inr hcH
  ·exact .inr hrH
noncomputable def Jf(S:Hs)(n:Int):Hs:={S with st:=Yb,wo:=false,lg:=S.lg++[.out n]}
def oZ(K:Yd)(mg:Ym->Option Ye):Sp:=λvs H Q _=>∃(p:Yc),vs=?CD/\(E4 λF S x q=>A4 ?AP (S.st=Ya q) ?GO (∀H' x',Off F H H'->j6 K mg H' F p (Jf S q.1) x'->Q .non H'))
theorem QQ:aF ["self"] aZ (az yt):=iw
include eV aC bj aD bI in
theorem PJ(F:cB K "go_out" "Hand.go_out" yt f fd):∅ 1 f fd aZ (oZ K mg):=by
 refine F.oj QQ ?_;rintro _ _ _ _ H _ _ _ _ _ _ _ ⟨p,rfl,h⟩;refine⟨_,(ak (aP (Qg (K:=K) rfl (ad3 nr Ap Aq Lq ?A (aj (dY (aj oV (aj ?BY ao))) ao))))
   (ak ?BA
   (ak ?BA
   (ak ?BA
   (aq ?D2))))),?_⟩
 refine xl5 ?_;intro _ _ _;obtain⟨F',S,x,q,HA,es,ll,kk⟩:=h;have hp:=HA.ob;obtain⟨cl,n1,n2,n3,n4,n5,n6,n7,n8,n9,n10,n11,n12,n13,n14⟩:=id HA.T;have T2:=bj.n2;have Tc:=bj.cl;have st:=HA.st;rw[es]at st;obtain⟨pg,y,ch,rd,q1,q2,P,_⟩:=st;obtain⟨C,dx,mP,_,hg⟩:=P.ob;rw[bI]at mP;cases mP;rw[q1,q2]at hp;have lx:x.xs.length=S.lg.length:=bX HA.ev;have ls:x.xs.length<YB:=bx ?D;have glg:=HA.lg;cbv;intro t H1 ht s1 g1;have glg1:=s1 _ _ glg;have hp1:=s1 _ _ hp;cbv;intro H2 b2 g2;have nlp:p≠x.lg:=bD hp glg ?C;have hp2:=b2.at nlp hp1;cbv;intro H3 b3 g3;rw[adP]at g3;cbv;intro H4 b4 g4;rw[ac3]at g4;cbv;intro H5 b5 g5;rw[acZ]at g5;cbv;intro H6 b6 g6;rw[adh]at g6;have k26:∀b u,H2 b=Ya u->b≠p->H6 b=Ya u:=λb u e n=>b6.at n (b5.at n (b4.at n (b3.at n e)));have k06:∀b u,H b=Ya u->b≠p->b≠x.lg->H6 b=Ya u:=λb u e m1 m2=>k26 _ _ (b2.at m2 ?EU) m1;have tpk:my H H6:=λa xs e=>k06 _ _ e ?CB (bD e glg ?C);have o6:Off F' H H6:=⟨λb u e m=>k06 b u e (λz=>m (z▸HA.fp)) λz=>m (z▸HA.fl),tpk,λa φ e=>k06 _ _ e ?CB (bD e glg ?C)⟩;have glg6:=k26 _ _ g2 nlp.symm;refine kk H6 {x with pv:=.non,cv:=.non,cb:=.non,xs:=x.xs++[.ref t],Fp:=λ_=>False} o6 ⟨HA.mH,HA.T,g6,tpk _ _ HA.pa,glg6,sh (j7 tpk HA.ev) ⟨t,rfl,k26 _ _ (b2.at (bD g1 glg1 ?C) g1) (bD g1 hp1 ?C)⟩,k06 _ _ HA.lo (bD HA.lo hp ?C) HA.nl.symm,HA.nl,HA.wb.up tpk,HA.wp,⟨rfl,rfl,rfl⟩,HA.fp,HA.fl,HA.fo,⟨λz=>z,λz=>z,λz=>z⟩,λa f=>?_,HA.m0,HA.m1,HA.d0,HA.t0⟩;by_cases z1:a=p
 ·rw[z1,g6];intro z;cases z
 by_cases z2:a=x.lg
 ·rw[z2,glg6];intro z;cases z
 cases e:H a with
 |none=>exact absurd e (HA.dm a f)
 |some u=>rw[k06 a u e z1 z2];intro z;cases z
section
variable{F:Yc->Prop}{p:Yc}{S:Hs}{x:Ng}
theorem j6.fld{x':Ng}(h:j6 K mg H F p S x)(b:But p H H')(e:H' p=Ya (.ins x.C x.dx (pH (.int S'.me) (.int S'.ro) (.int S'.nw) x'.pv x'.cv x'.cb x'.wb (.ref x'.pa) (.ref x'.lg) (.ref x'.lo) (.int S'.db) (.int S'.nt) (.bl S'.wo) (.bl S'.wi))))(ex:x'.C=x.C/\x'.dx=x.dx/\x'.pv=x.pv/\x'.cv=x.cv/\x'.cb=x.cb/\x'.lg=x.lg/\x'.lo=x.lo/\x'.xs=x.xs/\x'.Fp=x.Fp)(es:S'.me=S.me/\S'.ro=S.ro/\S'.st=S.st/\S'.lg=S.lg)(pa:H' x'.pa=Ya (.tup []))(wb:WbV H' x'.wb S'.wb)(wp:∀q,S'.wb=Ya q->WL q.1)(d0:0<=S'.db)(t0:0<=S'.nt/\S'.nt<9223372036854775808):Off F H H'/\j6 K mg H' F p S' x':=by
 obtain⟨x1,x2,x3,x4,x5,x6,x7,x8,x9⟩:=ex;obtain⟨s1,s2,s3,s4⟩:=es;have hp:=h.ob;have o:Off F H H':=.but b hp h.fp ?R ?R;have nlp:x.lg≠p:=bD h.lg hp ?C;have nop:x.lo≠p:=bD h.lo hp ?C;have st:StA K mg H' F x.Fp S.me S.ro x.pv x.cv x.cb S.st:=by
  have st:=h.st;cases es:S.st with
  |none=>rw[es]at st;exact st
  |some q=>
   rw[es]at st;obtain⟨pg,y,ch,rd,e1,e2,P,C,c,w,wp,f1,f2,f3,f4,f5⟩:=st;have oS:Off (λa=>a=p) H H':=.but b hp rfl ?R ?R;have hc:∃C dx fs,H ch=Ya (.ins C dx fs)/\fs.length=7:=by
    obtain⟨⟨C,dx,ba,ye,av,_,g,_⟩,_⟩:=C;exact⟨C,dx,_,g,rfl⟩
   have hr:∃m,H rd=Ya (.dK m):=by
    obtain⟨_,⟨m,g,_⟩,_⟩:=C;exact⟨_,g⟩
   refine⟨pg,y,ch,rd,e1,e2,P.off oS (λa f z=>h.np.1 (z▸f)),BL.off C oS (λz=>?_) (λz=>?_),c.up oS.tp,w,wp,f1,f2,f3,f4,f5⟩
   ·obtain⟨C',dx',fs,g,l⟩:=hc;have z:ch=p:=z;rw[z,hp]at g;cases g;have l:(14:Nat)=7:=l;cases l
   ·obtain⟨m,g⟩:=hr;have z:rd=p:=z;rw[z,hp]at g;cases g
 refine⟨o,by rw[x1];exact h.mH,by rw[x1];exact h.T,by rw[x1,x2];exact e,pa,by rw[x6,x8];exact b.at nlp h.lg,by rw[x8,s4];exact j7 o.tp h.ev,by rw[x7];exact b.at nop h.lo,by rw[x6,x7];exact h.nl,wb,wp,by rw[x3,x4,x5,x9,s1,s2,s3];exact st,h.fp,by rw[x6];exact h.fl,by rw[x7];exact h.fo,by rw[x6,x7,x9];exact h.np,λa f=>?_,by rw[s1];exact h.m0,by rw[s1];exact h.m1,d0,t0⟩;by_cases z:a=p
 ·rw[z,e];intro z;cases z
 ·cases g:H a with
  |none=>exact absurd g (h.dm a f)
  |some u=>rw[b.at z g];intro z;cases z
end
noncomputable def Ou(S:Hs)(n:Int)(pl:Pn):Hs:=if(jL pl.1 S.me&&jL pl.2.1 S.me)=true then Mu S (n+ 1) pl else{Jf S n with wb:=Ya (pl,n)}
def xV(K:Yd)(mg:Ym->Option Ye):Sp:=λvs H Q _=>E2 fun(p:Yc) (v:V)=>vs=[.ref p,v]/\(E5 λF S x q pl=>A6 ?AP (S.st=Ya q) (WM H v pl) (WL pl) ?GO (∀H' G x',Off F H H'->j6 K mg H' G p (Ou S q.1 pl) x'->Gr F H G->Q .non H'))
abbrev Ud:List Ym:=["self","plan"]
theorem xW:aF ["self","plan","number","goes_on"] Ud (az Af):=iw
variable{GC:Yc}{Nj:Yc}{nH:Yc}{Ku:Yc}{xR:Yc}{Dn:Yt}{JR:Yt}{m7:Yt}{Hd:Yt}{vh:Yt}(uD:∅ 8 ac8 VJ acx (Vt K))(Hw:∅ 8 GC Dn aaB (FN K))(Hn:Binds K Dn aaB [])(N5:∅ 8 Nj JR aZ (Kv K mg))(NK:Binds K JR aZ [])(wR:∅ 8 nH m7 U7 (mX K mg))(jR:Binds K m7 U7 [])(lE:∅ 8 Ku Hd aaQ (Hu K mg))(lD:Binds K Hd aaQ [])(Hi:∅ 8 xR vh aZ (oZ K mg))(qX:Binds K vh aZ [])(dM:bY K bf "enter" Ku)(fM:bY K bf "go_out" xR)(dw:bY K bf "note_taken" nH)(jZ:bY K fK "finish" GC)(oX:bY K fK "rows" Nj)
include eV uD DP Hw Hn N5 NK wR jR lE lD Hi qX dW aC bj aD bI dM fM dw jZ oX in
theorem Sy(F:cB K "go_by" "Hand.go_by" Af f fd):∅ 9 f fd Ud (xV K mg):=by
 refine F.oj xW ?_;rintro _ A _ _ H _ Q _ hr _ _ _ ⟨p,v,rfl,h⟩;refine⟨_,(ak (bA (i:=2) xW.nd rfl ?E ?BY)
   (ak (bA (i:=3) xW.nd rfl ?E (bw uD DP hr (aj ?L ?A5)))
   (ak (cZ (aaS (K:=K) rfl ?BW) (ak (aP (aV (cj.cons aC.cl dw wR jR cj.nil) ?Q hr (aj (aV (cj.cons bj.cl jZ Hw Hn cj.nil) ?A hr ?IT) ao)))
   (aq (aU (K:=K) rfl ?Q (bU (ahP (K:=K) rfl) ?A (cD ?D4 ?AE dW bp (aj (bh (cj.cons bj.cl oX N5 NK cj.nil) ?A hr) ao))) rfl))) bN)
   (aq (cZ (PW.pt (uV (aaS (K:=K) rfl ?BW) (qO (du K rfl (bw uD DP hr (aj ?L ?A5)))))) (aq (aP (aV (cj.cons aC.cl dM lE lD cj.nil) ?Q hr (aj ?IU ?B0)))) (ak (aP (bh (cj.cons aC.cl fM Hi qX cj.nil) ?Q hr))
   (aq (aU (K:=K) rfl ?Q (dY (aj ?AU ?AW)) rfl)))))))),?_⟩
 refine xl4 ?_;intro _ _;obtain⟨F',S,x,q,pl,HA,es,⟨tp,te,rfl,gp0,gp1⟩,wp,ll,kk⟩:=h;obtain⟨cl,n1,n2,n3,n4,n5,n6,n7,n8,n9,n10,n11,n12,n13,n14⟩:=id aC;have hob:∀{A:Hp} {x1:Ng} {S1:Hs} {F1:Yc->Prop},j6 K mg A F1 p S1 x1->x1.C=bf:=λh=>by have:=h.mH;rw[aD]at this;cases this;rfl
 have hp:=HA.ob;rw[hob HA]at hp;have T2:=bj.n2;have Tc:=bj.cl;have st:=HA.st;rw[es]at st;obtain⟨pg,y,ch,rd,q1,q2,P,_⟩:=st;obtain⟨C,dx,mP,_,hg⟩:=P.ob;rw[bI]at mP;cases mP;rw[q1,q2]at hp;have cz:=dC.of (K:=K) gp0;have ste:=dC.of (K:=K) gp1;have a0:mq ?BI 0=Ya (.int pl.1):=by kernel_rfl
 have a1:mq ?BI 1=Ya (.int pl.2.1):=by kernel_rfl
 have a3:mq ?BI 3=Ya (.ref te):=by kernel_rfl
 have m1:=HA.m1;cbv;refine⟨pl.1,S.me,rfl,wp.1.1,HA.m0,by omega,?_⟩;cbv;refine yJ (λσ A=>A3 (σ=[Ya (.ref p),Ya (.ref tp),Ya (.int q.1),Ya (.bl (jL pl.1 S.me))]) (Off F' H A) (∃x1,j6 K mg A F' p S x1)) ?_ λN rest=>?_
 ·rintro σ A ⟨rfl,oA,x1,HB⟩;have hpA:=HB.ob;rw[hob HB]at hpA;have stpA:=dC.of (K:=K) (oA.tp _ _ gp0);have out:(jL pl.1 S.me&&jL pl.2.1 S.me)=false->aJ (adp (Vh [(bf,oZ K mg)] "go_out" (vO 0) sJ)) (ae8 K (vO 0) (akS (zj (vO 1) (zj (vO 2) sJ))) "went_by") {nx:=λx H'=>Q V.non H',rt:=Q} [Ya (V.ref p),Ya (V.ref tp),Ya (V.int q.1),Ya (V.bl (jL pl.1 S.me))] A:=λhf=>by
   cbv;refine⟨p,rfl,F',S,x1,q,HB,es,ll,λH2 x2 o2 H2A=>?_⟩;have hp2:=H2A.ob;rw[hob H2A]at hp2;cbv;intro t H3 ht s3 g3;have H3A:=H2A.same s3;have hp3:=s3 _ _ hp2;cbv;intro H4 b4 g4;rw[ady]at g4;have k34:my H3 H4:=λa xs e=>b4.at (bD e hp3 ?C) e;have pn4:WM H4 (.ref tp) pl:=WM.up (λa xs e=>k34 _ _ (s3 _ _ (o2.tp _ _ (oA.tp _ _ e)))) ⟨tp,te,rfl,gp0,gp1⟩;have pa2:=H3A.pa;obtain⟨o4,H4A⟩:=H3A.fld (S':={Jf S q.1 with wb:=Ya (pl,q.1)}) (x':={x2 with wb:=.ref t}) b4 (by rw[hob H2A];exact g4) ⟨rfl,rfl,rfl,rfl,rfl,rfl,rfl,rfl,rfl⟩ ⟨rfl,rfl,rfl,rfl⟩ (k34 _ _ pa2) ⟨t,_,rfl,k34 _ _ g3,pn4⟩ (λq' z=>by cases z;exact wp) H3A.d0 H3A.t0;have e:Ou S q.1 pl={Jf S q.1 with wb:=Ya (pl,q.1)}:=if_neg (by rw[hf];intro z;cases z);exact kk H4 F' _ (oA.trans (o2.trans ((Off.sm s3).trans o4))) (by rw[e];exact H4A) .self
  cbv;refine iu (λz=>?_) λz=>?_
  ·cbv;refine⟨pl.2.1,S.me,rfl,wp.2.1.1,HA.m0,by omega,?_⟩;cbv;refine iu (λw=>?_) λw=>?_
   ·have w:jL pl.2.1 S.me=true:=w;cbv;refine⟨p,_,_,rfl,F',S,x1,pl,HB,WM.up oA.tp ⟨tp,te,rfl,gp0,gp1⟩,wp,w,ll,λH2 G x2 o2 H2A gr=>?_⟩;have e:Ou S q.1 pl=Mu S (q.1+ 1) pl:=if_pos (by rw[z,w];rfl);exact kk H2 G x2 (oA.trans o2) (by rw[e];exact H2A) λa ga=>(gr a ga).imp id λy=>(oA.none y).elim (λf=>absurd y (HB.dm a f)) id
   ·exact out (by have w:jL pl.2.1 S.me=false:=dP.mpr w;rw[w,rq])
  ·exact out (by rw[dP.mpr z];rfl)
 ·cbv;refine iu (λz=>?_) λz=>?_
  ·have z:jL pl.1 S.me=true:=z;cbv;refine⟨_,te,rfl,ste,λH1 l s1 hl g1=>?_⟩;have hp1:=s1 _ _ hp;cbv;refine⟨p,l,rfl,F',S,x,HA.same s1,bK.of g1,ll,λH2 s2=>?_⟩;have s02:=s1.trans s2;have hp2:=s02 _ _ hp;have hg2:=s02 _ _ hg;cbv;refine⟨pg,rfl,_,_,_,_,_,_,P.same s02,λH3 l3 s3 hl3 g3=>?_⟩;have sl3:bK K H3 l3 []:=bK.of g3;cbv;intro t3 H4 ht3 s4 g4;have s04:=s02.trans (s3.trans s4);have HB:=HA.same s04;have hp4:=s04 _ _ hp;cbv;refine⟨x.pa,t3,[],[],rfl,rfl,dC.of HB.pa,dC.of g4,YX _,λ_=>?_,λz=>absurd rfl z,λz=>absurd rfl z⟩;cbv;intro H5 b5 g5;rw[ad5]at g5;have k45:my H4 H5:=λa xs e=>b5.at (bD e hp4 ?C) e;obtain⟨o5,HC⟩:=HB.fld (S':=S) (x':={x with pa:=t3}) b5 (by rw[hob HA,q1,q2];exact g5) ⟨rfl,rfl,rfl,rfl,rfl,rfl,rfl,rfl,rfl⟩ ⟨rfl,rfl,rfl,rfl⟩ (k45 _ _ g4) (HB.wb.up k45) HB.wp HB.d0 HB.t0;exact rest _ _ ⟨rfl,(Off.sm s04).trans o5,_,HC⟩
  ·have z:jL pl.1 S.me=false:=dP.mpr z;exact rest _ _ ⟨rfl,.refl _ _,x,HA⟩
theorem Xo:∀{ys:List mF} {g q},Ow ys g=Ya q->g=Ya q\/Ya q∈ys
 |[],g,q,h=>.inl h
 |y::ys,g,q,h=>by
  rcases Xo (ys:=ys) h with z|z
  ·split at z
   ·exact .inr (by rw[<-z];exact Yf)
   ·exact .inl z
  ·exact .inr (Yh _ z)
theorem aiw{rp:List ?AX}{q:(Int×Int)×Pn}(h:gOf rp=Ya q):∃e∈rp,e.2.2=Ya q:=by
 rcases Xo h with z|z
 ·cases z
 ·obtain⟨e,he,e2⟩:=YD.mp z;exact⟨e,he,e2⟩
theorem acD(h:∀x∈ns,0<=x/\x<63):0<=tH ns/\tH ns<9223372036854775808:=by
 unfold tH;have:ns.foldl (λn (h:Int)=>n ||| 2^h.toNat) 0<2^63:=yn _ λi hi=>by
  rw[wO,de,gy,dP];intro z;obtain⟨x,hx,e⟩:=eD.mp z;have:=h x hx;have:=of_decide_eq_true e;omega
 have p:(2:Nat)^63=9223372036854775808:=by decide
 omega
theorem amF{me:Int}{rp:List ?AX}(m0:0<=me)(m1:me<63)(a0:0<=ha)(w:0<=wi/\wi<9223372036854775808)(rg:∀e∈rp,0<=e.1/\e.1<63):WL (plR me ha rp wi):=by
 have n:=Vq w.1 a0 w.2;have r1:=acD (ns:=rp.map (·.1)) λx hx=>by obtain⟨e,he,rfl⟩:=YD.mp hx;exact rg e he
 have r2:=acD (ns:=(rp.filter λe=>!e.2.1.2).map (·.1)) λx hx=>by obtain⟨e,he,rfl⟩:=YD.mp hx;exact rg e (Y9.mp he).1
 have b:=acM m0 m1;have o:=adm r2.1 r2.2 b.1 b.2;refine⟨r1,adm o.1 o.2 n.1 n.2,n,λi hi=>?_⟩;show(YQ _ _).toNat.testBit i=true;rw[vA o.1 n.1,Yy,mi,show(YA wi (YC ha)).toNat.testBit i=true from hi,Bool.or_true]
theorem amd{me hd:Int}(h:WfC c)(m0:0<=me)(m1:me<63)(a0:0<=hd)(w:0<=wi/\wi<9223372036854775808):WfC (Og me hd dd wi c):=by
 unfold Og;split
 ·have wp:WL (J3 me hd wi c):=by
   unfold J3;split
   ·exact amF m0 m1 a0 w λe he=>(h.rp e he).2.1
   ·next g e=>
    obtain⟨r,hr,e2⟩:=aiw e;exact(h.rp r hr).2.2 g e2
  refine⟨λq z=>by cases z;exact wp,λq z=>?_,h.rp⟩;have z:Gy c.ag (Ya ?D6) ?C4 hd=Ya q:=z;unfold Gy at z;split at z
  ·split at z
   ·cases z;exact wp
   ·cases z
  ·next p e=>exact h.ag q (by rw[e];exact z)
 ·exact h
noncomputable def Aw(S:Hs):Hs:=match S.st with
 |none=>S
 |some q=>match(Og S.me q.2.1 S.db ?IG q.2.2.1).ag with
  |none=>{S with st:=Ya (q.1,q.2.1,Og S.me q.2.1 S.db ?IG q.2.2.1,q.2.2.2)}
  |some pl=>Ou {S with st:=Ya (q.1,q.2.1,Og S.me q.2.1 S.db ?IG q.2.2.1,q.2.2.2)} q.1 pl
abbrev eX(Pt:Yc)(H:Hp):Prop:=amk Pt (alU dH) "Hand.settle.<locals>.<lambda>" H
def FT(F:Yc->Prop)(Pt:Yc):Yc->Prop:=λa=>F a\/a=Pt
theorem eX.off{F:Yc->Prop}(t:eX Pt H)(o:Off F H H')(n:¬ F Pt):eX Pt H':=by
 rcases t with t|⟨c,t,u⟩
 ·exact .inl (o.of _ _ t n)
 ·exact .inr ⟨c,o.of _ _ t n,o.ex _ _ u⟩
theorem eX.some(t:eX Pt H):∃ps,H Pt=Ya (.tbl ps):=by
 rcases t with t|⟨c,t,u⟩
 ·exact⟨_,t⟩
 ·exact⟨_,t⟩
theorem j6.chg{F:Yc->Prop}{p:Yc}{S:Hs}{x:Ng}{ch rd':Yc}{y:PgX}{c':Cg}(h:j6 K mg H F p S x)(es:S.st=Ya q)(e1:x.pv=.ref pg)(e2:x.cv=.ref ch)(P:CN K mg H x.Fp pg S.me q.1 q.2.1 S.ro y)(f1:∀a,x.Fp a->F a)(f2:F ch)(f4:¬ x.Fp ch)(f5:¬ x.Fp rd)(f3:F rd)(pn:WM H x.cb q.2.2.2)(wp:WL q.2.2.2)(hc:∃C dx fs,H ch=Ya (.ins C dx fs)/\fs.length=7)(hr:∃m,H rd=Ya (.dK m))(nP:¬ F Pt)(o:Off (λa=>a=ch\/a=rd\/a=Pt) H H')(C:ChG K mg H' ch S.me q.2.1 c' rd')(w:WfC c')(fr:rd'=rd\/H rd'=Yb):
  Off (FT F Pt) H H'/\∃G,j6 K mg H' G p {S with st:=Ya (q.1,q.2.1,c',q.2.2.2)} x/\Gr F H G:=by
 obtain⟨C1,dx1,fs1,g1,l1⟩:=hc;obtain⟨m1,g2⟩:=hr;have hp:=h.ob;have npc:p≠ch:=λz=>by rw[<-z,hp]at g1;cases g1;have l1:(14:Nat)=7:=l1;cases l1
 have npr:p≠rd:=bD hp g2 ?C;have nlc:x.lg≠ch:=bD h.lg g1 ?C;have nlr:x.lg≠rd:=bD h.lg g2 ?C;have noc:x.lo≠ch:=bD h.lo g1 ?C;have nor:x.lo≠rd:=bD h.lo g2 ?C;have nF:∀{a},F a->a≠Pt:=λf z=>nP (z▸f);have k:∀{a u},H a=Ya u->a≠ch->a≠rd->F a->H' a=Ya u:=λe m1 m2 f=>o.of _ _ e λz=>by
  rcases z with z|z|z
  ·exact m1 z
  ·exact m2 z
  ·exact nF f z
 have hrd':∃m,H' rd'=Ya (.dK m):=by obtain⟨_,⟨m,g,_⟩,_⟩:=C;exact⟨_,g⟩
 obtain⟨mr,grd'⟩:=hrd';have hch':∃u,H' ch=Ya u:=by obtain⟨⟨_,_,_,_,_,_,g,_⟩,_⟩:=C;exact⟨_,g⟩
 obtain⟨uc,gch'⟩:=hch';have P':=P.off o λa f z=>by
  rcases z with z|z|z
  ·exact f4 (z▸f)
  ·exact f5 (z▸f)
  ·exact nF (f1 a f) z
 have gp:=k hp npc npr h.fp;have gl:=k h.lg nlc nlr h.fl;have go:=k h.lo noc nor h.fo;refine⟨o.mono λa z=>by
  rcases z with z|z|z
  ·exact .inl (z▸f2)
  ·exact .inl (z▸f3)
  ·exact .inr z,λa=>a=p\/a=x.lg\/a=x.lo\/x.Fp a\/a=ch\/a=rd',⟨h.mH,h.T,gp,o.tp _ _ h.pa,gl,j7 o.tp h.ev,go,h.nl,h.wb.up o.tp,h.wp,⟨pg,y,ch,rd',e1,e2,P',C,pn.up o.tp,w,wp,λa z=>.inr (.inr (.inr (.inl z))),.inr (.inr (.inr (.inr (.inl rfl)))),.inr (.inr (.inr (.inr (.inr rfl)))),f4,λz=>?_⟩,.inl rfl,.inr (.inl rfl),.inr (.inr (.inl rfl)),h.np,λa z=>?_,h.m0,h.m1,h.d0,h.t0⟩,λa z=>?_⟩
 ·rcases fr with y|y
  ·exact f5 (y▸z)
  ·exact P.dm _ z y
 ·rcases z with rfl|rfl|rfl|z|rfl|rfl
  ·rw[gp];intro z;cases z
  ·rw[gl];intro z;cases z
  ·rw[go];intro z;cases z
  ·exact P'.dm a z
  ·rw[gch'];intro z;cases z
  ·rw[grd'];intro z;cases z
 ·rcases z with rfl|rfl|rfl|z|rfl|rfl
  ·exact .inl h.fp
  ·exact .inl h.fl
  ·exact .inl h.fo
  ·exact .inl (f1 a z)
  ·exact .inl f2
  ·rcases fr with y|y
   ·exact .inl (by rw[y];exact f3)
   ·exact .inr y
def Eo(K:Yd)(mg:Ym->Option Ye)(P_mk:Yc):Sp:=λvs H Q _=>∃(p:Yc),vs=?CD/\(E3 λF S x=>A5 ?AP ?GO (eX P_mk H) (¬ F P_mk) (∀H' G x',Off (FT F P_mk) H H'->j6 K mg H' G p (Aw S) x'->Gr F H G->eX P_mk H'->Q .non H'))
theorem oH:aF ["self","hands","wishes","plan"] aZ (az qL):=iw
variable{zX:Yc}{yM:Yc}{Bb:Yc}{wA:Yt}{wN:Yt}{yC:Yt}{abF:Yc}{P_mk:Yc}(hC:HK base abF P_mk)(hB:Wv base mg)(zK:∅ 9 zX wA aZ (wF K mg))(yL:Binds K wA aZ [])(zr:∅ 9 yM wN aaZ (vX K mg))(yQ:Binds K wN aaZ [])(ug:∅ 9 Bb yC Ud (xV K mg))(kZ:Binds K yC Ud [])(iR:bY K bZ "propose" yM)(iH:bY K bZ "settled" zX)(dO:bY K bf "go_by" Bb)
include eV hC hB zK yL zr yQ ug kZ aL aC bj aN aD bI iR iH dO in
theorem Qv(F:agC K "settle" "Hand.settle" qL f fd abF):∅ 10 f fd aZ (Eo K mg P_mk):=by
 refine F.ok oH (λvs H Q E h=>?_) (λA outer s H vs Q E hr h=>?_)
 ·obtain⟨p,rfl,_⟩:=h;rfl
 obtain⟨p,rfl,h⟩:=h;have hu64:=hr.units;have hu0:=hr.units0;have hu:=Ql hr;refine⟨_,(ak (cZ ?ET (aq VN) bN)
   (ak (bA (i:=1) oH.nd rfl ?IC ?BY)
   (ak (bA (i:=2) oH.nd rfl ?IC (bU Fl ?A (K3 Mh ?A)))
   (ak (aP (ago (cj.cons aL.cl iR zr yQ cj.nil) ?A hr (apu (i1:=2) (i2:=0) (i3:=1) (x1:="wishes") (x2:="self") (x3:="hands") (c1:=s.heap.objs.size+ 1+ 1+ 1) (c2:=s.heap.objs.size+ 1) (c3:=s.heap.objs.size+ 1+ 1) (ag0 _).symm (pS _) (pS _).symm rfl rfl rfl rfl rfl rfl rfl rfl rfl rfl rfl rfl) (aj ?A (aj (ajH (c:=abF) (Pt:=P_mk) rfl rfl rfl hC hB) ao))))
   (ak (bA (i:=3) oH.nd rfl ?E (bh (cj.cons aL.cl iH zK yL cj.nil) ?A hr))
   (aq (cZ (bL mQ ?BW cA ?BM) (aq (aP (aV (cj.cons aC.cl dO ug kZ cj.nil) ?Q hr (aj ?BW ao)))) bN))))))),?_⟩
 refine xl6 ?_;intro _ _ _ _;obtain⟨F',S,x,HA,ll,tb,nP,kk⟩:=h;obtain⟨cl,n1,n2,n3,n4,n5,n6,n7,n8,n9,n10,n11,n12,n13,n14⟩:=id aC;have hob:∀{A:Hp} {x1:Ng} {S1:Hs} {F1:Yc->Prop},j6 K mg A F1 p S1 x1->x1.C=bf:=λh=>by have:=h.mH;rw[aD]at this;cases this;rfl
 have hp:=HA.ob;rw[hob HA]at hp;have st:=HA.st;cases es:S.st with
 |none=>
  rw[es]at st;obtain⟨q1,q2,q3⟩:=st;rw[q1,q2,q3]at hp;have e:Aw S=S:=by unfold Aw;rw[es]
  rw[e]at kk;refine Nz ?_;cbv;exact kk H F' x (.refl _ _) HA .self tb
 |some q=>
  rw[es]at st;obtain⟨pg,y,ch,rd,q1,q2,P,C,pn,w,wp,f1,f2,f3,f4,f5⟩:=st;obtain⟨Cp,dxp,mP,Tp,hg⟩:=P.ob;rw[bI]at mP;cases mP;obtain⟨⟨Cc,dc,ba,ye,av,mC,hc,hbb,_⟩,⟨mr,hrd,_⟩,_⟩:=id C;rw[aN]at mC;cases mC;rw[q1,q2]at hp;have T3:=bj.n3;have Tc:=bj.cl;have Td:=aL.cl;refine Nz ?_;cbv;rw[eO];cbv;refine amz tb λf9 c9 ctv H2 hf9 sm2 ef ec eP=>?_;obtain⟨psT,hPT⟩:=eX.some tb;have nt:∀{a o},H a=Ya o->(∀ps,o≠.tbl ps)->a≠P_mk:=λe n z=>by rw[z,hPT]at e;cases e;exact n _ rfl
  have k2:∀a o,H a=Ya o->(∀ps,o≠.tbl ps)->H2 a=Ya o:=λa o e n=>sm2 a o (nt e n) e;have C2:ChG K mg H2 ch S.me q.2.1 q.2.2.1 rd:=BL.up C (λo e=>by rw[hc]at e;cases e;exact k2 _ _ hc ?R) (λo e=>by rw[hrd]at e;cases e;exact k2 _ _ hrd ?R) λa xs e=>k2 _ _ e ?R;have hp2:=k2 _ _ hp ?R;have hc2:=k2 _ _ hc ?R;cbv;obtain⟨wi,ewi⟩:∃wi,wi=YA S.nt (YC S.db):=⟨_,rfl⟩;have wrg:0<=wi/\wi<9223372036854775808:=by rw[ewi];exact Vq HA.t0.1 HA.d0 HA.t0.2
  refine⟨[.int wi,.ref p,.int q.2.1],rfl,an0 (by rw[ewi];rfl) rfl rfl,λL ld=>?_⟩;have sL:=ld.same;have hcL:=sL _ _ hc2;refine⟨ch,S.db,f9,rfl,S.me,q.2.1,q.2.2.1,rd,wi,p,BL.same C2 sL,⟨c9,_,_,_,_,ctv,⟨(ag0 _).symm,pS _,(pS _).symm⟩,sL _ _ ef,sL _ _ ec,ld.all⟩,⟨_,_,_,_,_,_,_,_,_,_,_,_,_,_,_,aC,sL _ _ hp2⟩,w.r,HA.d0,λr H5 k5 S5=>?_⟩;have fz:∀c∈(Sv (s.heap.objs.size+ 1+ 1+ 1) ?U (s.heap.objs.size+ 1+ 1)).map (·.2),∃o φ,H5 c=Ya (.frz o (.ext φ)):=λc hc'=>by
   obtain⟨o,φ,e⟩:=ld.all.frz c hc';exact⟨o,φ,k5 _ _ (bD e hcL ?C) e⟩
  show(ahT _ _) _ _;unfold ahT;have un:∀x o,H5 x=Ya o->(∀o' φ,o≠.frz o' (.ext φ))->Oh ?CE H5 x=Ya o:=λx o e n=>adE fz e n;have fr5:∀x o,x≠ch->H2 x=Ya o->Oh ?CE H5 x=Ya o:=λx o m e=>by
   rw[jO λz=>by rw[ld.non x z]at e;cases e];exact k5 _ _ m (sL _ _ e)
  generalize Oh ?CE H5=A5 at un fr5⊢;have S6:ChG K mg A5 ch S.me q.2.1 (Og S.me q.2.1 S.db wi q.2.2.1) rd:=by
   obtain⟨⟨C5,dx5,ba5,ye5,av5,eC5,hp5,_⟩,⟨m5,hd5,_⟩,_⟩:=id S5;exact BL.up S5 (λo e=>by rw[hp5]at e;cases e;exact un _ _ hp5 ?EB) (λo e=>by rw[hd5]at e;cases e;exact un _ _ hd5 ?EB) λa xs e=>un _ _ e ?EB
  have o5:Off (λa=>a=ch\/a=rd\/a=P_mk) H A5:=⟨λb o e m=>fr5 b o (λz=>m (.inl z)) (sm2 b o (λz=>m (.inr (.inr z))) e),λa xs e=>fr5 _ _ (bD e hc ?C) (k2 _ _ e ?R),λa φ e=>fr5 _ _ (bD e hc ?C) (k2 _ _ e ?R)⟩;have tb5:eX P_mk A5:=.inr ⟨c9,fr5 _ _ (bD eP hc2 ?C) eP,fr5 _ _ (bD ec hc2 ?C) ec⟩;have w5:WfC (Og S.me q.2.1 S.db wi q.2.2.1):=amd w HA.m0 HA.m1 P.h0 wrg;obtain⟨oF,G,HB,gr⟩:=HA.chg es q1 q2 P f1 f2 f4 f5 f3 pn wp ⟨_,_,_,hc,rfl⟩ ⟨_,hrd⟩ nP o5 S6 w5 (.inl rfl);have hpB:=HB.ob;rw[hob HA,q1,q2]at hpB;obtain⟨⟨C6,dx6,ba6,ye6,av6,mC6,hc6,_⟩,_⟩:=id S6;rw[aN]at mC6;cases mC6;have nPG:¬ G P_mk:=λz=>(gr _ z).elim nP λy=>by rw[hPT]at y;cases y
  cbv;refine⟨ch,rfl,S.me,q.2.1,_,_,_,_,rd,_,S6,λH6 z s6 pz=>?_⟩;have HC:=HB.same s6;have oC:Off (FT F' P_mk) H H6:=oF.trans (.sm s6);have tb6:eX P_mk H6:=eX.off tb5 (Off.sm (F:=λ_=>False) s6) λz=>z;have hp6:=s6 _ _ hpB;have es0:Aw S=match(Og S.me q.2.1 S.db wi q.2.2.1).ag with
   |none=>{S with st:=Ya (q.1,q.2.1,Og S.me q.2.1 S.db wi q.2.2.1,q.2.2.2)}
   |some pl=>Ou {S with st:=Ya (q.1,q.2.1,Og S.me q.2.1 S.db wi q.2.2.1,q.2.2.2)} q.1 pl:=by
   unfold Aw;rw[es,ewi]
  cases ea:(Og S.me q.2.1 S.db wi q.2.2.1).ag with
  |none=>
   rw[ea]at pz es0;obtain rfl:z=.non:=by
    have pz:Pl H6 2 z .none:=pz;cases pz;rfl
   cbv;rw[show decide (V.non=V.non)=true from decide_eq_true rfl];cbv;exact kk H6 G x oC (by rw[es0];exact HC) gr tb6
  |some pl=>
   rw[ea]at pz es0;have pnz:=aki (show Pl H6 2 z (plD pl)from pz);obtain⟨tz,_,rfl,_⟩:=id pnz;cbv;rw[eO];cbv;refine⟨p,.ref tz,rfl,G,_,x,_,pl,HC,rfl,pnz,w5.ag pl ea,ll,λH7 G7 x7 o7 H7A gr7=>?_⟩;have gC:Gr F' H G7:=λa ga=>(gr7 a ga).elim (gr a) λy=>(oC.none y).elim (λf=>f.elim .inl λe=>absurd (eX.some tb6) (by rw[<-e,y];rintro⟨_,z⟩;cases z)) .inr;refine kk H7 G7 x7 ⟨λb o e m=>o7.of b o (oC.of b o e m) (λg=>(gr b g).elim (λf=>m (.inl f)) λy=>by rw[e]at y;cases y),λa xs e=>o7.tp _ _ (oC.tp _ _ e),λa φ e=>o7.ex _ _ (oC.ex _ _ e)⟩ (by rw[es0];exact H7A) gC (eX.off tb6 o7 nPG)
structure Lt where
 me:Int
 nu:Int
 cb:Pn
 b:Option ?S
 y:mF
 vo:Int
 rp:Option Bool
variable{b nu:Int}{l:Lt}
structure WfL(l:Lt):Prop where
 m0:0<=l.me
 m1:l.me<63
 cb:WL l.cb
 y:∀q,l.y=Ya q->WL q.2
 vo:0<=l.vo
 rp:l.b≠Yb->l.rp≠Yb
variable{y vo:Int}{rp:List ?AX}
def LtA(H:Hp)(t:Yc)(l:Lt):Prop:=∃cv pa pc ms,H t=Ya (.tup [.str "in",.int l.me,.int l.nu,cv,.ref pa,.ref pc,.ref ms])/\WM H cv l.cb/\H pa=Ya (.tup [])/\PcA H pc l.me/\aap H ms l.me l.b l.y l.vo (l.rp.map λv=>(l.me,v))
theorem LtA.up(h:LtA H t l)(s:my H H'):LtA H' t l:=by
 obtain⟨cv,pa,pc,ms,g0,g1,g2,g3,g4⟩:=h;exact⟨cv,pa,pc,ms,s _ _ g0,g1.up s,s _ _ g2,g3.up s,g4.up s⟩
def LaA(H:Hp)(t:Yc)(me:Int)(wi:Bool)(wb:Option (Pn×Int)):Prop:=∃wv,H t=Ya (.tup [.str "away",.int me,.bl wi,wv])/\WbV H wv wb
theorem LaA.up{me:Int}{wi:Bool}(h:LaA H t me wi wb)(s:my H H'):LaA H' t me wi wb:=by
 obtain⟨wv,g0,g1⟩:=h;exact⟨wv,s _ _ g0,g1.up s⟩
noncomputable def V4(S:Hs)(q:Int×Int×Cg×Pn):Lt:=⟨S.me,q.1,q.2.2.2,q.2.2.1.b,q.2.2.1.y,q.2.2.1.vo,if q.2.2.1.b=Yb then Yb else Ya S.wo⟩
def gZ(K:Yd)(mg:Ym->Option Ye):Sp:=λvs H Q _=>∃(p:Yc),vs=[.ref p,.int 0,.non]/\(E3 λF S x=>A3 ?AP ((S.st=Yb->∀H' t,aW H H'->H t=Yb->LaA H' t S.me S.wi S.wb->Q (.ref t) H')) (∀q,S.st=Ya q->∀H' t,aW H H'->LtA H' t (V4 S q)->WfL (V4 S q)->Q (.ref t) H'))
theorem uH:aF ["self","skip","many","report","piece"] v9 (az yh):=iw
variable{zJ:Yc}{KD:Yc}{yl:Yc}{nD:Yc}{xG:Yt}{GJ:Yt}{uB:Yt}{mU:Yt}(zN:∅ 6 zJ xG agx (wQ K mg))(yK:Binds K xG agx [])(JX:∅ 6 KD GJ v9 (Hr K mg))(KR:Binds K GJ v9 [])(Hg:∅ 6 yl uB UG (uZ K mg))(qQ:Binds K uB UG [])(FP:∅ 6 nD mU aZ (mD K mg))(jb:Binds K mU aZ [])(iQ:bY K bZ "message" zJ)(cT:bY K bf "stopped" nD)(lU:bY K fK "piece" KD)(fj:bY K fK "report" yl)
include eV zN yK JX KR Hg qQ FP jb aL aC bj aN aD bI iQ cT lU fj in
theorem Qm(F:Mi K "letter" "Hand.letter" yh f fd [.int 0 t0,.none]):∅ 7 f fd v9 (gZ K mg):=by
 refine F.ok uH (λvs H Q E h=>?_) (λcdv A outer s H vs Q E hr h=>?_)
 ·obtain⟨p,rfl,_⟩:=h;rfl
 obtain⟨p,rfl,h⟩:=h;have hu64:=hr.units;have hu0:=hr.units0;have hu:=Ql hr;refine⟨_,(ak (cZ ?ET (aq (aX (dY (aj oV (aj ?A (aj ?A ?A5)))))) bN)
   (ak (bA (i:=3) uH.nd rfl ?E (rM (bL oY (bh (cj.cons aC.cl cT FP jb cj.nil) ?Q hr) cA ?BM) cA (aV (cj.cons bj.cl fj Hg qQ cj.nil) ?A hr ?A5)))
   (ak (bA (i:=4) uH.nd rfl ?E (aV (cj.cons bj.cl lU JX KR cj.nil) ?A hr (aj ?AU ?AW)))
   (aq (aX (dY (aj oV (aj ?A (aj ?BY (aj ?A (aj ?A (aj (pv 4) (aj (aV (cj.cons aL.cl iQ zN yK cj.nil) ?A hr (aj ?BW ao)) ao))))))))))))),?_⟩
 refine xl4 ?_;intro _ _;obtain⟨F',S,x,HA,k1,k2⟩:=h;obtain⟨cl,n1,n2,n3,n4,n5,n6,n7,n8,n9,n10,n11,n12,n13,n14⟩:=id aC;have hob:∀{A:Hp} {x1:Ng} {S1:Hs} {F1:Yc->Prop},j6 K mg A F1 p S1 x1->x1.C=bf:=λh=>by have:=h.mH;rw[aD]at this;cases this;rfl
 have hp:=HA.ob;rw[hob HA]at hp;have st:=HA.st;cases es:S.st with
 |none=>
  rw[es]at st;obtain⟨q1,q2,q3⟩:=st;rw[q1,q2,q3]at hp;refine Nz ?_;cbv;rw[show decide (V.non=V.non)=true from decide_eq_true rfl];cbv;intro t H1 ht s1 g1;exact k1 es H1 t s1 ht ⟨_,g1,HA.wb.up (.same s1)⟩
 |some q=>
  rw[es]at st;obtain⟨pg,y,ch,rd,q1,q2,P,C,pn,w,wp,f1,f2,f3,f4,f5⟩:=st;obtain⟨Cp,dxp,mP,Tp,hg⟩:=P.ob;rw[bI]at mP;cases mP;obtain⟨⟨Cc,dc,ba,ye,av,mC,hc,hbb,_⟩,⟨mr,hrd,_⟩,_,_,_,_,_,sv,_⟩:=id C;rw[aN]at mC;cases mC;rw[q1,q2]at hp;have T2:=bj.n2;have Tc:=bj.cl;have Td:=aL.cl;have wl:WfL (V4 S q):=⟨HA.m0,HA.m1,wp,w.y,sv.1,λz=>by unfold V4 at z⊢;dsimp only at z⊢;rw[if_neg z];intro z;cases z⟩;refine Nz ?_;cbv;rw[eO];refine iu (λz=>nomatch z) λ_=>?_;dsimp only;refine yJ (λσ A=>σ=[Ya (.ref p),Ya (.int 0),Ya .non,Yb,Yb]/\H=A) ?_ λN rest=>rest _ _ ⟨rfl,rfl⟩;rintro σ _ ⟨rfl,rfl⟩;refine yJ (λσ A=>∃rv,A3 (σ=[Ya (.ref p),Ya (.int 0),Ya .non,Ya rv,Yb]) (aW H A) (Pl A 2 rv (roD ((V4 S q).rp.map λv=>(S.me,v))))) ?_ λN rest=>?_
  ·rintro σ A ⟨rv,rfl,sA,pr⟩;have hpA:=sA _ _ hp;have hgA:=sA _ _ hg;cbv;refine⟨pg,rfl,_,_,_,_,_,_,P.same sA,λH2 pc s2 pcA=>?_⟩;have s02:=sA.trans s2;have hp2:=s02 _ _ hp;have hg2:=s02 _ _ hg;have hc2:=s02 _ _ hc;cbv;refine⟨ch,rv,rfl,_,_,_,_,_,_,_,_,_,BL.same C s02,pr.up (.same s2),λH3 ms s3 mx=>?_⟩;cbv;intro t H4 ht s4 g4;have s04:=s02.trans (s3.trans s4);exact k2 q es H4 t s04 ⟨_,_,_,_,g4,pn.up (.same s04),s04 _ _ HA.pa,pcA.up (.same (s3.trans s4)),mx.up (.same s4)⟩ wl
  ·cbv;refine⟨p,rfl,F',S,x,HA,λv hv=>?_⟩;rw[es]at hv;have hv:BaV H v q.2.2.1.b:=hv;cases eb:q.2.2.1.b with
   |none=>
    rw[eb]at hv;obtain rfl:v=.non:=hv;cbv;rw[show decide (V.non=V.non)=true from decide_eq_true rfl];cbv;refine rest _ _ ⟨.non,rfl,.refl _,?_⟩;unfold V4;rw[eb];exact .non
   |some b0=>
    rw[eb]at hv;obtain⟨tv,rfl,gv⟩:=hv;cbv;rw[eO];cbv;refine⟨pg,S.wo,rfl,_,_,_,_,_,_,P,λH1 z s1 rz=>?_⟩;refine rest _ _ ⟨z,rfl,s1,?_⟩;unfold V4;rw[eb];exact akb rz
def Rs(K:Yd)(mg:Ym->Option Ye)(Pt:Yc)(F:Yc->Prop)(H:Hp)(p:Yc)(S':Hs)(H':Hp):Prop:=Off (FT F Pt) H H'/\eX Pt H'/\∃G x',j6 K mg H' G p S' x'/\Gr F H G
section
variable{p:Yc}{F:Yc->Prop}{H1 H2:Hp}{S:Hs}{x:Ng}
theorem ajY{a:Yc}(o:Off (FT F Pt) H H1)(t:eX Pt H1)(e:H1 a=Yb):F a\/H a=none:=by
 rcases o.none e with(z|z)|z
 ·exact .inl z
 ·obtain⟨ps,g⟩:=eX.some t;rw[z,g]at e;cases e
 ·exact .inr z
theorem akY(o:Off (FT F Pt) H H1)(g:Gr F H G)(r:Off (FT G Pt) H1 H2):Off (FT F Pt) H H2:=
 ⟨λb u e m=>r.of b u (o.of b u e m) (λz=>z.elim (λy=>(g b y).elim (λf=>m (.inl f)) λw=>by rw[e]at w;cases w) λy=>m (.inr y)),λa xs e=>r.tp _ _ (o.tp _ _ e),λa φ e=>r.ex _ _ (o.ex _ _ e)⟩
theorem alp(o:Off (FT F Pt) H H1)(t:eX Pt H1)(g:Gr F H G)(g':Gr G H1 G'):Gr F H G':=λa z=>(g' a z).elim (g a) λw=>ajY o t w
theorem Av(o:Off (FT F Pt) H H1)(t:eX Pt H1)(g:Gr F H G)(r:Rs K mg Pt G H1 p S' H2):Rs K mg Pt F H p S' H2:=by
 obtain⟨o2,t2,G',x',h,g2⟩:=r;exact⟨akY o g o2,t2,G',x',h,alp o t g g2⟩
theorem Rs.end(r:Rs K mg Pt F H p S' H1)(s:aW H1 H2):Rs K mg Pt F H p S' H2:=by
 obtain⟨o2,t2,G',x',h,g2⟩:=r;exact⟨o2.trans (.sm s),eX.off t2 (Off.sm (F:=λ_=>False) s) λz=>z,G',x',h.same s,g2⟩
theorem Rz(h:j6 K mg H F p S x)(t:eX Pt H):Rs K mg Pt F H p S H:=⟨.refl _ _,t,F,x,h,.self⟩
theorem En(o:Off F H H1):Off (FT F Pt) H H1:=o.mono λ_ z=>.inl z
theorem Tr(t:eX Pt H)(n:¬ F Pt)(g:Gr F H G):¬ G Pt:=λz=>(g _ z).elim n λy=>by obtain⟨ps,e⟩:=eX.some t;rw[e]at y;cases y
end
theorem wY{α β:Type}{F:α->β->Prop}:∀{n:Nat} {l:List α} {m:List β},dQ F l m->dQ F (l.drop n) (m.drop n)
 |0,_,_,h=>h
 |_+ 1,_,_,.nil=>.nil
 |n+ 1,_,_,.cons _ t=>wY (n:=n) t
theorem PX(xs:List V)(k:Int)(h:0<=k):K6 xs (Ya k) Yb=xs.drop k.toNat:=by
 obtain⟨n,rfl⟩:=fg h;unfold K6;have e1:HT.ql xs.length 0 (Ya (n:Int))=min n xs.length:=by
  show(if(n:Int)<0 then((n:Int)+ (xs.length:Nat)).toNat else min (n:Int).toNat xs.length)=_;rw[if_neg ?D,Yy]
 have e2:HT.ql xs.length xs.length Yb=xs.length:=rfl;rw[e1,e2,Yy];rcases Nat.le_total n xs.length with z|z
 ·rw[Nat.min_eq_left z,List.take_of_length_le (by rw[ti];exact Yo _)]
 ·rw[Nat.min_eq_right z,BB ?BU,BB z,List.take_nil]
def qI(K:Yd)(mg:Ym->Option Ye):Sp:=λvs H Q _=>∃(p:Yc),vs=?CD/\(E3 λF S x=>A3 ?AP (S.st≠Yb) (Q .non H))
theorem Mg:aF ["self"] aZ (az rY):=iw
include eV aC aD in
theorem Lx(F:cB K "check_in" "Hand.check_in" rY f fd):∅ 1 f fd aZ (qI K mg):=by
 refine F.oj Mg ?_;rintro _ _ _ _ _ _ _ _ _ _ _ _ ⟨p,rfl,h⟩;refine⟨_,(aq (cZ ?ET (aq cJ) bN)),?_⟩;obtain⟨F',S,x,HA,ns,kk⟩:=h;obtain⟨cl,n1,n2,n3,n4,n5,n6,n7,n8,n9,n10,n11,n12,n13,n14⟩:=id HA.T;have hp:=HA.ob;have st:=HA.st;cases es:S.st with
 |none=>exact absurd es ns
 |some q=>
  rw[es]at st;obtain⟨pg,y,ch,rd,q1,q2,_⟩:=st;rw[q1,q2]at hp;cbv;rw[eO];cbv;exact kk
noncomputable def abj(S:Hs)(c:Cg)(m:Int):Cg:=⟨Ya (bl c.b+ m,S.me),c.y,c.vo,c.ag,[(S.me,(S.me,S.wo),c.y)]⟩
noncomputable def Lr(S:Hs)(m:Int):Hs:=match S.st with
 |none=>S
 |some q=>Aw {S with st:=Ya (q.1,q.2.1,abj S q.2.2.1 m,q.2.2.2)}
def lN(K:Yd)(mg:Ym->Option Ye)(P_mk:Yc):Sp:=λvs H Q _=>E2 fun(p:Yc) (m:Int)=>vs=[.ref p,.int m]/\(E3 λF S x=>A6 ?AP (S.st≠Yb) (S.lg.length<=890) (eX P_mk H) (¬ F P_mk) (∀H' l ys,Rs K mg P_mk F H p (Lr S m) H'->H' l=Ya (.lst ys)->vz H' ys ((Lr S m).lg.drop S.lg.length)->Q (.ref l) H'))
abbrev Nh:List Ym:=["self","more"]
theorem G5:aF ["self","more","start"] Nh (az Ba):=iw
variable{Es:Yc}{HF:Yc}{rQ:Yc}{Bu:Yt}{Fz:Yt}{qt:Yt}(Ew:∅ 10 Es Bu ahR (Bv K mg))(Eb:Binds K Bu ahR [])(zV:∅ 10 yl uB UG (uZ K mg))(jD:∅ 10 HF Fz aZ (Eo K mg P_mk))(jE:Binds K Fz aZ [])(Ce:∅ 10 rQ qt aZ (qI K mg))(mJ:Binds K qt aZ [])(jB:bY K bZ "begin" Es)(d8:bY K bf "check_in" rQ)(dh:bY K bf "settle" HF)
include eV Ew Eb zV qQ jD jE Ce mJ oM aL aC bj aN aD bI jB d8 dh fj in
theorem Sq(F:Mi K "renew" "Hand.renew" Ba f fd [.int 1 t0]):∅ 11 f fd Nh (lN K mg P_mk):=by
 refine F.ok G5 (λvs H Q E h=>?_) (λcdv A outer s H vs Q E hr h=>?_)
 ·obtain⟨p,m,rfl,_⟩:=h;rfl
 obtain⟨p,m,rfl,h⟩:=h;have hu64:=hr.units;have hu0:=hr.units0;have hu:=Ql hr;refine⟨_,(ak (aP (bh (cj.cons aC.cl d8 Ce mJ cj.nil) ?Q hr))
   (ak (bA (i:=2) G5.nd rfl ?E (cL ?EZ ?AE oM gF ?A5))
   (ak (aP (aV (cj.cons aL.cl jB Ew Eb cj.nil) ?A hr (aj ?AU (aj (aV (cj.cons bj.cl fj zV qQ cj.nil) ?A hr ?A5) ao))))
   (ak ?GS
   (aq (aX (oJ ?G5 ?A (qP ?DR) xF))))))),?_⟩
 refine xl5 ?_;intro _ _ _;obtain⟨F',S,x,HA,ns,ll,tb,nP,kk⟩:=h;obtain⟨cl,n1,n2,n3,n4,n5,n6,n7,n8,n9,n10,n11,n12,n13,n14⟩:=id aC;have hob:∀{A:Hp} {x1:Ng} {S1:Hs} {F1:Yc->Prop},j6 K mg A F1 p S1 x1->x1.C=bf:=λh=>by have:=h.mH;rw[aD]at this;cases this;rfl
 have hp:=HA.ob;rw[hob HA]at hp;have st:=HA.st;obtain⟨q,es⟩:=qc.mp ns;rw[es]at st;obtain⟨pg,y,ch,rd,q1,q2,P,C,pn,w,wp,f1,f2,f3,f4,f5⟩:=st;obtain⟨Cp,dxp,mP,Tp,hg⟩:=P.ob;rw[bI]at mP;cases mP;obtain⟨⟨Cc,dc,ba,ye,av,mC,hc,hbb,_⟩,⟨mr,hrd,_⟩,_⟩:=id C;rw[aN]at mC;cases mC;rw[q1,q2]at hp;have Tc:=bj.cl;have Td:=aL.cl;have lx:x.xs.length=S.lg.length:=bX HA.ev;have sl:bK K H x.lg x.xs:=bK.of HA.lg;cbv;refine⟨p,rfl,F',S,x,HA,ns,?_⟩;cbv;refine⟨pg,S.wo,rfl,_,_,_,_,_,_,P,λH1 v s1 rv=>?_⟩;cbv;refine⟨ch,m,v,rfl,_,_,_,_,_,_,_,_,(S.me,S.wo),BL.same C s1,akb rv,λH2 rd' k2 C2 hr2=>?_⟩;have hc1:=s1 _ _ hc;have o2:Off (λa=>a=ch\/a=rd\/a=P_mk) H H2:=⟨λb o e n=>k2 _ _ (λz=>n (.inl z)) ?EU,λa xs e=>k2 _ _ (bD e hc ?C) ?EU,λa φ e=>k2 _ _ (bD e hc ?C) ?EU⟩;have w2:WfC (abj S q.2.2.1 m):=⟨w.y,w.ag,λe he=>by rw[YU.mp he];exact⟨rfl,⟨HA.m0,HA.m1⟩,λq' z=>w.y q' z⟩⟩;obtain⟨oF,G,HB,gr⟩:=HA.chg (c':=abj S q.2.2.1 m) es q1 q2 P f1 f2 f4 f5 f3 pn wp ⟨_,_,_,hc,rfl⟩ ⟨_,hrd⟩ nP o2 C2 w2 (.inr (s1.free hr2));have hpB:=HB.ob;rw[hob HA,q1,q2]at hpB;obtain⟨psT,hPT⟩:=eX.some tb;have tb2:eX P_mk H2:=by
  have kk2:∀b o,H b=Ya o->(∀C dx fs,o≠.ins C dx fs)->H2 b=Ya o:=λb o e n=>k2 _ _ (λz=>by rw[z,hc]at e;cases e;exact n _ _ _ rfl) ?EU;rcases tb with t|⟨c,t,u⟩
  ·exact .inl (kk2 _ _ t ?AK)
  ·exact .inr ⟨c,kk2 _ _ t ?AK,kk2 _ _ u ?AK⟩
 have nPG:¬ G P_mk:=Tr tb nP gr;cbv;refine⟨p,rfl,G,_,x,HB,by show S.lg.length<=900;omega,tb2,nPG,λH3 G3 x3 o3 HC gr3 tb3=>?_⟩;have hp3:=HC.ob;rw[hob HC]at hp3;have es2:Lr S m=Aw {S with st:=Ya (q.1,q.2.1,abj S q.2.2.1 m,q.2.2.2)}:=by unfold Lr;rw[es]
 have r3:Rs K mg P_mk F' H p (Lr S m) H3:=by
  rw[es2];exact Av oF tb2 gr ⟨o3,tb3,G3,x3,HC,gr3⟩
 have sl3:bK K H3 x3.lg x3.xs:=bK.of HC.lg;cbv;intro l H4 hl s4 g4;rw[PX _ _ (cc _),Yy,lx]at g4;refine kk H4 l _ (r3.end s4) g4 ?_;rw[es2];exact wY (j7 (.same s4) HC.ev)
noncomputable def Vr(S:Hs)(h:Int):Hs:=Aw {S with db:=YA h (YC (2^S.me.toNat))}
def mL(K:Yd)(mg:Ym->Option Ye)(P_mk:Yc):Sp:=λvs H Q _=>E2 fun(p:Yc) (h:Int)=>vs=[.ref p,.int h]/\(E3 λF S x=>A6 ?AP (0<=h) (S.lg.length<=890) (eX P_mk H) (¬ F P_mk) (∀H' l ys,Rs K mg P_mk F H p (Vr S h) H'->H' l=Ya (.lst ys)->vz H' ys ((Vr S h).lg.drop S.lg.length)->Q (.ref l) H'))
theorem Cz:aF ["self","hands","start"] Hx (az uW):=iw
variable(M9:∅ 10 yS ux VD (ut K))
include eV M9 iG jD jE oM aC aD dh in
theorem Oc(F:cB K "suspect" "Hand.suspect" uW f fd):∅ 11 f fd Hx (mL K mg P_mk):=by
 refine F.oj Cz ?_;rintro _ A _ _ H _ _ _ hr _ _ _ ⟨p,h',rfl,h⟩;refine⟨_,(ak (bA (i:=2) Cz.nd rfl ?E (cL ?EZ ?AE oM gF ?A5))
   (ak (aU (K:=K) rfl ?Q (bU Fl ?AU (K3 Mh (bw M9 iG hr ?A5))) rfl)
   (ak ?GS
   (aq (aX (oJ ?G5 ?A (qP ?DR) xF)))))),?_⟩
 refine xl4 ?_;intro _ _;obtain⟨F',S,x,HA,h0,ll,tb,nP,kk⟩:=h;obtain⟨cl,n1,n2,n3,n4,n5,n6,n7,n8,n9,n10,n11,n12,n13,n14⟩:=id aC;have hob:∀{A:Hp} {x1:Ng} {S1:Hs} {F1:Yc->Prop},j6 K mg A F1 p S1 x1->x1.C=bf:=λh=>by have:=h.mH;rw[aD]at this;cases this;rfl
 have hp:=HA.ob;rw[hob HA]at hp;have lx:x.xs.length=S.lg.length:=bX HA.ev;have sl:bK K H x.lg x.xs:=bK.of HA.lg;have m1:=HA.m1;cbv;refine⟨S.me,rfl,HA.m0,by omega,?_⟩;cbv;intro H1 b1 g1;rw[aiX]at g1;have k1:my H H1:=λa xs e=>b1.at ?CB e;obtain⟨o1,HB⟩:=HA.fld (S':={S with db:=YA h' (YC (2^S.me.toNat))}) (x':=x) b1 (by rw[hob HA];exact g1) ⟨rfl,rfl,rfl,rfl,rfl,rfl,rfl,rfl,rfl⟩ ⟨rfl,rfl,rfl,rfl⟩ (k1 _ _ HA.pa) (HA.wb.up k1) HA.wp (tY h0 (eF _)).1 HA.t0;have tb1:eX P_mk H1:=eX.off tb o1 nP;cbv;refine⟨p,rfl,F',_,x,HB,by show S.lg.length<=900;omega,tb1,nP,λH3 G3 x3 o3 HC gr3 tb3=>?_⟩;have hp3:=HC.ob;rw[hob HC]at hp3;have r3:Rs K mg P_mk F' H p (Vr S h') H3:=Av (En o1) tb1 .self ⟨o3,tb3,G3,x3,HC,gr3⟩;have sl3:bK K H3 x3.lg x3.xs:=bK.of HC.lg;cbv;intro l H4 hl s4 g4;rw[PX _ _ (cc _),Yy,lx]at g4;exact kk H4 l _ (r3.end s4) g4 (wY (j7 (.same s4) HC.ev))
def zm(K:Yd):Sp:=λvs H Q _=>E2 fun(l t:Yc)=>vs=[.ref l,.ref t]/\(E2 λxs es=>A4 (bK K H l xs) (vz H xs es) (dC K H t []) (∀H' a,aW H H'->H a=Yb->H' a=Ya (.lst [])->Q (.ref a) H'))
abbrev aa1:List Ym:=["events","book"]
theorem zB:aF ["events","book","in_book"] aa1 (az sW):=iw
include eV jK in
theorem Ml(F:cB K "names_lacking" "names_lacking" sW f fd):∅ 1 f fd aa1 (zm K):=by
 refine F.oj zB ?_;rintro _ _ _ _ H _ _ E _ hu64 _ _ ⟨l,t,rfl,h⟩;refine⟨_,(ak (bA (i:=2) zB.nd rfl ?IC (cD (Fe rfl (iP (hZ ?B _) hu64)) ?AE jK iq (aj (cP ["row"] [Yb] rfl rfl ?J (Gf (K:=K) rfl ?AU) ?T ?AA ?AS) ao)))
   (aq (aX (cP ["in_book","event"] [Ya 2,Yb] rfl rfl ?J ?CM ?AD (λ_ _ _ _ _=>(qM (PW.pt (uV (bL KZ ?L oV ?BM) (qO Fx))))) ?AS)))),?_⟩
 obtain⟨xs,es,hS,he,hT,kk⟩:=h;cbv;intro D hD;refine KJ (K:=K) (a:=t) (xs:=[]) (λi σ B=>aW H B/\B D=Ya (.lst [])) ⟨aH hD,aA⟩ (λi σ B _ z=>DW z.1 hT) ?AZ ?_;rintro σ H1 ⟨s1,g1⟩;refine⟨D,[],[],rfl,g1,.nil,YX _,λd hd=>?_⟩;have s2:=aH (o:=.dT (xZ [])) hd;generalize upd H1 d (.dT (xZ []))=H2 at s2⊢;have s02:=s1.trans s2;have hS2:=s02.seq hS;have he2:=j7 (.same s02) he;cbv;intro E hE;refine cO (K:=K) (a:=l) (xs:=xs) (λi σ B=>∃v,A3 (σ=[Ya (.ref d),v]) (aW H2 B) (B E=Ya (.lst []))) ⟨Yb,rfl,aH hE,aA⟩ (λi σ B _ z=>by obtain⟨_,_,z,_⟩:=z;exact z.seq hS2) ?_ ?_
 ·rintro i x σ B hx ⟨v,rfl,sB,gE⟩;obtain⟨e,_,ev⟩:=iZ he2 hx;cases e with
  |lst n h o w=>
   obtain⟨u,rfl,g⟩:=ev;have su:=dC.of (K:=K) (sB _ _ g);have a0:mq [V.str "list",.int n,.int h,.int o,.int w] 0=Ya (.str "list"):=by kernel_rfl
   cbv;refine iu (λz=>absurd ?D5 ?AV) λ_=>?_;exact⟨_,rfl,sB,gE⟩
  |out n=>
   obtain⟨u,rfl,g⟩:=ev;have su:=dC.of (K:=K) (sB _ _ g);have a0:mq [V.str "out",.int n] 0=Ya (.str "out"):=by kernel_rfl
   cbv;refine iu (λz=>absurd ?D5 ?AV) λ_=>?_;exact⟨_,rfl,sB,gE⟩
 rintro σ B ⟨v,rfl,sB,gE⟩;cbv;exact kk B E (s02.trans sB) (s02.free hE) gE
noncomputable def QJ(S:Hs)(l:Lt):Hs:=if(decide (l.nu>S.nw)&&jL l.cb.2.2 S.me)=true then Mu S l.nu l.cb else S
def yH(K:Yd)(mg:Ym->Option Ye):Sp:=λvs H Q _=>E2 fun(p t:Yc)=>vs=[.ref p,.ref t]/\(E4 λF S x l=>A6 ?AP (LtA H t l) (WfL l) (S.st=Yb) ?GO (∀H' G x',Off F H H'->j6 K mg H' G p (QJ S l) x'->Gr F H G->Q .non H'))
abbrev jm:List Ym:=["self","letter"]
theorem Ly:aF ["self","letter"] jm (az sV):=iw
variable{Bj:Yc}{yU:Yt}(Bs:∅ 8 Bj yU aa1 (zm K))(Cu:iU K mg "names_lacking" Bj yU aa1)
include eV uD DP lE lD Bs Cu aC aD dM in
theorem LQ(F:cB K "come_new" "Hand.come_new" sV f fd):∅ 9 f fd jm (yH K mg):=by
 refine F.oj Ly ?_;rintro _ A _ _ H _ Q _ hr _ _ _ ⟨p,t,rfl,h⟩;refine⟨_,(aq (cZ (PW.pt (uV (bL ahm ?L ?A ?BM) (qO (du K rfl (bw uD DP hr (aj (aM ?A7 ?L aB ?G) ?A5)))))) (ak (aU (K:=K) rfl ?Q (bw Bs Cu hr (aj ?A ?IT)) rfl)
   (ak (aU (K:=K) rfl ?Q ?L rfl)
   (aq (aP (aV (cj.cons aC.cl dM lE lD cj.nil) ?Q hr (aj ?L ?IT)))))) bN)),?_⟩
 obtain⟨F',S,x,l,HA,⟨cv,pa,pc,ms,g0,⟨tp,te,rfl,gp0,gp1⟩,ga,gpc,gms⟩,wl,es,ll,kk⟩:=h;obtain⟨cl,n1,n2,n3,n4,n5,n6,n7,n8,n9,n10,n11,n12,n13,n14⟩:=id aC;have hob:∀{A:Hp} {x1:Ng} {S1:Hs} {F1:Yc->Prop},j6 K mg A F1 p S1 x1->x1.C=bf:=λh=>by have:=h.mH;rw[aD]at this;cases this;rfl
 have hp:=HA.ob;rw[hob HA]at hp;have st:=dC.of (K:=K) g0;have cz:=dC.of (K:=K) gp0;have sta:=dC.of (K:=K) ga;have a2:mq [V.str "in",.int l.me,.int l.nu,.ref tp,.ref pa,.ref pc,.ref ms] 2=Ya (.int l.nu):=by kernel_rfl
 have a3:mq [V.str "in",.int l.me,.int l.nu,.ref tp,.ref pa,.ref pc,.ref ms] 3=Ya (.ref tp):=by kernel_rfl
 have a4:mq [V.str "in",.int l.me,.int l.nu,.ref tp,.ref pa,.ref pc,.ref ms] 4=Ya (.ref pa):=by kernel_rfl
 have b2:mq [V.int l.cb.1,.int l.cb.2.1,.int l.cb.2.2,.ref te] 2=Ya (.int l.cb.2.2):=by kernel_rfl
 have m1:=HA.m1;have no:(decide (l.nu>S.nw)&&jL l.cb.2.2 S.me)=false->Q .non H:=λe=>kk H F' x (.refl _ _) (by unfold QJ;rw[e];exact HA) .self;cbv;refine iu (λz=>?_) λz=>?_
 ·have z:l.nu>S.nw:=of_decide_eq_true z;cbv;refine⟨l.cb.2.2,S.me,rfl,wl.cb.2.2.1.1,HA.m0,by omega,?_⟩;cbv;refine iu (λw=>?_) λw=>?_
  ·have w:jL l.cb.2.2 S.me=true:=w;have slg:bK K H x.lg x.xs:=bK.of HA.lg;cbv;refine⟨x.lg,pa,rfl,_,_,slg,HA.ev,sta,λH1 lo s1 hlo g1=>?_⟩;have hp1:=s1 _ _ hp;cbv;intro H2 b2' g2;rw[ajI]at g2;have st2:=dC.of (K:=K) (b2'.at (bD (s1 _ _ g0) hp1 ?C) (s1 _ _ g0));cbv;intro H3 b3 g3;rw[ad5]at g3;have k3:∀b o,H b=Ya o->b≠p->H3 b=Ya o:=λb o e n=>b3.at n (b2'.at n ?EU);have tp3:my H H3:=λa xs e=>k3 _ _ e ?CB;have o3:Off F' H H3:=⟨λb o e n=>k3 b o e λz=>n (z▸HA.fp),tp3,λa φ e=>k3 _ _ e ?CB⟩;have nlp:lo≠p:=λz=>by rw[z,hp]at hlo;cases hlo
   have glo3:=b3.at nlp (b2'.at nlp g1);have nlg:x.lg≠p:=bD HA.lg hp ?C;have stn:=HA.st;rw[es]at stn;have H3A:j6 K mg H3 (λa=>a=p\/a=x.lg\/a=lo) p S {x with pa:=pa,lo:=lo,Fp:=λ_=>False}:=by
    refine⟨HA.mH,HA.T,by show H3 p=Ya (.ins x.C _ _);rw[hob HA];exact g3,tp3 _ _ ga,k3 _ _ HA.lg nlg,j7 tp3 HA.ev,glo3,(λz=>by have z:x.lg=lo:=z;rw[<-z,HA.lg]at hlo;cases hlo),HA.wb.up tp3,HA.wp,by rw[es];exact stn,.inl rfl,.inr (.inl rfl),.inr (.inr rfl),⟨λz=>z,λz=>z,λz=>z⟩,λa z=>?_,HA.m0,HA.m1,HA.d0,HA.t0⟩;rcases z with rfl|rfl|rfl
    ·rw[g3];intro z;cases z
    ·rw[k3 _ _ HA.lg nlg];intro z;cases z
    ·rw[glo3];intro z;cases z
   have gr3:Gr F' H (λa=>a=p\/a=x.lg\/a=lo):=λa z=>by
    rcases z with rfl|rfl|rfl
    ·exact .inl HA.fp
    ·exact .inl HA.fl
    ·exact .inr hlo
   have st3:=dC.of (K:=K) (tp3 _ _ g0);cbv;refine⟨p,_,_,rfl,_,S,_,l.cb,H3A,⟨tp,te,rfl,tp3 _ _ gp0,tp3 _ _ gp1⟩,wl.cb,wl.cb.2.2.2 _ w,ll,λH4 G x4 o4 H4A gr4=>?_⟩;have e:QJ S l=Mu S l.nu l.cb:=if_pos (by rw[decide_eq_true z,w];rfl);exact kk H4 G x4 (o3.run gr3 o4) (by rw[e];exact H4A) (Gr.run o3 gr3 gr4)
  ·have w:jL l.cb.2.2 S.me=false:=dP.mpr w;exact no (by rw[w,rq])
 ·exact no (by rw[dP.mpr z];rfl)
noncomputable def QS(me ha:Int)(c:Cg)(l:Lt):Cg:=⟨Bl c.b l.b,(lO (Bl c.b l.b) c.y c.vo l.y l.vo me).1,(lO (Bl c.b l.b) c.y c.vo l.y l.vo me).2,Gy c.ag (lO (Bl c.b l.b) c.y c.vo l.y l.vo me).1 (lO (Bl c.b l.b) c.y c.vo l.y l.vo me).2 ha,Ve c.b l.b (lO (Bl c.b l.b) c.y c.vo l.y l.vo me).1 me c.rp l.me (l.rp.map λv=>(l.me,v)) l.y⟩
theorem amv{me:Int}(w:WfC c)(wl:WfL l):WfC (QS me ha c l):=by
 have wy:∀q,(lO (Bl c.b l.b) c.y c.vo l.y l.vo me).1=Ya q->WL q.2:=λq z=>by
  unfold lO at z;split at z
  ·exact w.y q z
  ·next q' e=>
   split at z
   ·cases z;exact wl.y _ e
   ·split at z<;>exact w.y q z
 refine⟨wy,λq z=>?_,λe he=>?_⟩
 ·have z:Gy c.ag (lO (Bl c.b l.b) c.y c.vo l.y l.vo me).1 (lO (Bl c.b l.b) c.y c.vo l.y l.vo me).2 ha=Ya q:=z;unfold Gy at z;split at z
  ·split at z
   ·unfold plY at z;obtain⟨q',e1,e2⟩:=af.mp z;rw[<-e2];exact wy q' e1
   ·cases z
  ·next p e=>exact w.ag q (by rw[e];exact z)
 ·have he:e∈Ve c.b l.b (lO (Bl c.b l.b) c.y c.vo l.y l.vo me).1 me c.rp l.me (l.rp.map λv=>(l.me,v)) l.y:=he;have old:∀e∈gtR c.b l.b c.rp,e.2.1.1=e.1/\(0<=e.1/\e.1<63)/\∀q,e.2.2=Ya q->WL q.2:=λe he=>by
   unfold gtR at he;split at he
   ·cases he
   ·exact w.rp e he
  unfold Ve at he;split at he
  ·next hg=>
   have put:∀{m:List ?AX} {k:Int} {v:Rt×mF} {e:Int×Rt×mF},e∈Rr m k v->e=(k,v)\/e∈m:=by
    intro m
    induction m with
    |nil=>intro k v e h;exact .inl (YU.mp h)
    |cons p m ih=>
     intro k v e h;have h:e∈(if p.1=k then(p.1,v)::m else p::Rr m k v):=h;split at h
     ·next z=>
      rcases Yz.mp h with y|y
      ·exact .inl (by rw[y,z])
      ·exact .inr (Yh _ y)
     ·rcases Yz.mp h with y|y
      ·exact .inr (by rw[y];exact Yf)
      ·exact(ih y).imp id λz=>Yh _ z
   rcases put he with y|y
   ·have hb:l.b≠none:=λz=>by
     rw[<-hg.1,z]at hg;cases hg.2
    obtain⟨v,ev⟩:=qc.mp (wl.rp hb);rw[y,ev];exact⟨rfl,⟨wl.m0,wl.m1⟩,λq z=>wl.y q z⟩
   ·exact old e y
  ·exact old e he
theorem j6.pgs{F:Yc->Prop}{p:Yc}{S:Hs}{x:Ng}{ch:Yc}{y':PgX}{G1:Yc->Prop}(h:j6 K mg H F p S x)(es:S.st=Ya q)(e1:x.pv=.ref pg)(e2:x.cv=.ref ch)(C:ChG K mg H ch S.me q.2.1 q.2.2.1 rd)(pn:WM H x.cb q.2.2.2)(w:WfC q.2.2.1)(wp:WL q.2.2.2)(f1:∀a,x.Fp a->F a)(f2:F ch)(f3:F rd)(f4:¬ x.Fp ch)(f5:¬ x.Fp rd)(o:Off x.Fp H H')(P:CN K mg H' G1 pg S.me q.1 q.2.1 S.ro y')(g1:Gr x.Fp H G1):Off F H H'/\∃G,j6 K mg H' G p S {x with Fp:=G1}/\Gr F H G:=by
 have nG:∀{a u},H a=Ya u->¬ x.Fp a->¬ G1 a:=λe n z=>(g1 _ z).elim n λy=>by rw[e]at y;cases y
 obtain⟨hc,hr⟩:(∃u,H ch=Ya u)/\∃u,H rd=Ya u:=by
  obtain⟨⟨_,_,_,_,_,_,g,_⟩,⟨_,g',_⟩,_⟩:=C;exact⟨⟨_,g⟩,⟨_,g'⟩⟩
 obtain⟨uc,hc⟩:=hc;obtain⟨ur,hr⟩:=hr;have gp:=o.of _ _ h.ob h.np.1;have gl:=o.of _ _ h.lg h.np.2.1;have go:=o.of _ _ h.lo h.np.2.2;refine⟨o.mono f1,λa=>a=p\/a=x.lg\/a=x.lo\/G1 a\/a=ch\/a=rd,⟨h.mH,h.T,gp,o.tp _ _ h.pa,gl,j7 o.tp h.ev,go,h.nl,h.wb.up o.tp,h.wp,?_,.inl rfl,.inr (.inl rfl),.inr (.inr (.inl rfl)),⟨nG h.ob h.np.1,nG h.lg h.np.2.1,nG h.lo h.np.2.2⟩,λa z=>?_,h.m0,h.m1,h.d0,h.t0⟩,λa z=>?_⟩
 ·rw[es];exact⟨pg,y',ch,rd,e1,e2,P,BL.off C o f4 f5,pn.up o.tp,w,wp,λa z=>.inr (.inr (.inr (.inl z))),.inr (.inr (.inr (.inr (.inl rfl)))),.inr (.inr (.inr (.inr (.inr rfl)))),nG hc f4,nG hr f5⟩
 ·rcases z with rfl|rfl|rfl|z|rfl|rfl
  ·rw[gp];intro z;cases z
  ·rw[gl];intro z;cases z
  ·rw[go];intro z;cases z
  ·exact P.dm a z
  ·rw[o.of _ _ hc f4];intro z;cases z
  ·rw[o.of _ _ hr f5];intro z;cases z
 ·rcases z with rfl|rfl|rfl|z|rfl|rfl
  ·exact .inl h.fp
  ·exact .inl h.fl
  ·exact .inl h.fo
  ·exact(g1 a z).imp (f1 a) id
  ·exact .inl f2
  ·exact .inl f3
noncomputable def RM(S:Hs)(l:Lt):Hs:=match S.st with
 |none=>S
 |some q=>Aw {S with st:=Ya ?DC}
def sZ(K:Yd)(mg:Ym->Option Ye)(P_mk:Yc):Sp:=λvs H Q _=>E2 fun(p t:Yc)=>vs=[.ref p,.ref t]/\(E4 λF S x l=>A9 ?AP (LtA H t l) (WfL l) (l.me≠S.me) (S.st≠Yb) ?GO (eX P_mk H) (¬ F P_mk) (∀H',Rs K mg P_mk F H p (RM S l) H'->Q .non H'))
theorem Gx:aF ["self","letter"] jm (az m6):=iw
variable{zW:Yc}{Ho:Yc}{xH:Yt}{Ft:Yt}(zY:∅ 10 zW xH aa8 (xj K mg))(zT:Binds K xH aa8 [])(Hy:∅ 10 Ho Ft XS (CQ K mg))(HJ:Binds K Ft XS [])(wU:∅ 10 nD mU aZ (mD K mg))(rD:∅ 10 nH m7 U7 (mX K mg))(iJ:bY K bZ "receive" zW)(jX:bY K fK "listen" Ho)
include eV zY zT Hy HJ wU jb rD jR jD jE aL aC bj aN aD bI iJ dw dh cT jX in
theorem Gv(F:cB K "hear_fellow" "Hand.hear_fellow" m6 f fd):∅ 11 f fd jm (sZ K mg P_mk):=by
 refine F.oj Gx ?_;rintro _ A _ _ H _ _ _ hr _ _ _ ⟨p,t,rfl,h⟩;refine⟨_,(ak (cZ (bL oY (bh (cj.cons aC.cl cT wU jb cj.nil) ?Q hr) cA ?BM) (aq (aP (aV (cj.cons aC.cl dw rD jR cj.nil) ?Q hr (aj (aV (cj.cons bj.cl jX Hy HJ cj.nil) ?A hr ?IT) ao)))) bN)
   (ak (aP (aV (cj.cons aL.cl iJ zY zT cj.nil) ?A hr ?IT))
   (aq ?GS))),?_⟩
 refine xl3 ?_;intro _;obtain⟨F',S,x,l,HA,⟨cv,pa,pc,ms,g0,pnl,ga,gpc,gms⟩,wl,ne,ns,ll,tb,nP,kk⟩:=h;obtain⟨cl,n1,n2,n3,n4,n5,n6,n7,n8,n9,n10,n11,n12,n13,n14⟩:=id aC;have hob:∀{A:Hp} {x1:Ng} {S1:Hs} {F1:Yc->Prop},j6 K mg A F1 p S1 x1->x1.C=bf:=λh=>by have:=h.mH;rw[aD]at this;cases this;rfl
 obtain⟨q,es⟩:=qc.mp ns;have Tc:=bj.cl;have Td:=aL.cl;have a5:mq [V.str "in",.int l.me,.int l.nu,cv,.ref pa,.ref pc,.ref ms] 5=Ya (.ref pc):=by kernel_rfl
 have a6:mq [V.str "in",.int l.me,.int l.nu,cv,.ref pa,.ref pc,.ref ms] 6=Ya (.ref ms):=by kernel_rfl
 have hp:=HA.ob;rw[hob HA]at hp;refine yJ (λσ A=>A3 (σ=[Ya (.ref p),Ya (.ref t)]) (Off F' H A) (E2 λG x'=>j6 K mg A G p S x'/\Gr F' H G)) ?_ λN rest=>?_
 ·rintro σ A ⟨rfl,oA,G,x1,HB,gr⟩;have tbA:eX P_mk A:=eX.off tb oA nP;have nPG:¬ G P_mk:=Tr tb nP gr;have st:=HB.st;rw[es]at st;obtain⟨pg,y,ch,rd,q1,q2,P,C,pn,w,wp,f1,f2,f3,f4,f5⟩:=st;obtain⟨⟨Cc,dc,ba,ye,av,mC,hc,hbb,_⟩,⟨mr,hrd,_⟩,_⟩:=id C;rw[aN]at mC;cases mC;have hpA:=HB.ob;rw[hob HB,q1,q2]at hpA;have stA:=dC.of (K:=K) (oA.tp _ _ g0);cbv;refine⟨ch,ms,rfl,_,_,_,_,_,_,_,_,l.me,l.b,l.y,l.vo,_,C,gms.up oA.tp,λz=>?_,ne,wl.m0,wl.m1,⟨wl.vo,trivial⟩,λH2 rd' k2 C2 fr2=>?_⟩
  ·have:=wl.rp z;cases e:l.rp with
   |none=>exact absurd e this
   |some v=>intro z;cases z
  have o2:Off (λa=>a=ch\/a=rd\/a=P_mk) A H2:=⟨λb o e n=>k2 _ _ (λz=>n (.inl z)) (λz=>n (.inr (.inl z))) e,λa xs e=>k2 _ _ (bD e hc ?C) (bD e hrd ?C) e,λa φ e=>k2 _ _ (bD e hc ?C) (bD e hrd ?C) e⟩;have w2:WfC (QS S.me q.2.1 q.2.2.1 l):=amv w wl;obtain⟨oF,G2,HC,gr2⟩:=HB.chg (c':=QS S.me q.2.1 q.2.2.1 l) es q1 q2 P f1 f2 f4 f5 f3 pn wp ⟨_,_,_,hc,rfl⟩ ⟨_,hrd⟩ nPG o2 C2 w2 fr2;have tb2:eX P_mk H2:=by
   have kk2:∀b o,A b=Ya o->(∀C dx fs,o≠.ins C dx fs)->(∀m,o≠.dK m)->H2 b=Ya o:=λb o e n m=>k2 _ _ (λz=>by rw[z,hc]at e;cases e;exact n _ _ _ rfl) (λz=>by rw[z,hrd]at e;cases e;exact m _ rfl) e;rcases tbA with t|⟨c,t,u⟩
   ·exact .inl (kk2 _ _ t ?AK ?R)
   ·exact .inr ⟨c,kk2 _ _ t ?AK ?R,kk2 _ _ u ?AK ?R⟩
  have hpC:=HC.ob;rw[hob HC,q1,q2]at hpC;cbv;refine⟨p,rfl,G2,_,x1,HC,ll,tb2,Tr tbA nPG gr2,λH3 G3 x3 o3 HD gr3 tb3=>?_⟩;have e:RM S l=Aw {S with st:=Ya ?DC}:=by unfold RM;rw[es]
  refine kk H3 ?_;rw[e];exact Av (En oA) tbA gr (Av oF tb2 gr2 ⟨o3,tb3,G3,x3,HD,gr3⟩)
 ·have st:=HA.st;rw[es]at st;obtain⟨pg,y,ch,rd,q1,q2,P,C,pn,w,wp,f1,f2,f3,f4,f5⟩:=st;obtain⟨Cp,dxp,mP,Tp,hg⟩:=P.ob;rw[bI]at mP;cases mP;rw[q1,q2]at hp;have st0:=dC.of (K:=K) g0;cbv;refine⟨p,rfl,F',S,x,HA,λv hv=>?_⟩;rw[es]at hv;have hv:BaV H v q.2.2.1.b:=hv;cases eb:q.2.2.1.b with
  |some b0=>
   rw[eb]at hv;obtain⟨tv,rfl,gv⟩:=hv;cbv;rw[eO];cbv;exact rest _ _ ⟨rfl,.refl _ _,F',x,HA,.self⟩
  |none=>
   rw[eb]at hv;obtain rfl:v=.non:=hv;cbv;rw[show decide (V.non=V.non)=true from decide_eq_true rfl];cbv;refine⟨pg,pc,rfl,_,_,_,_,_,_,l.me,P,gpc,ne,λH1 G1 y1 lr o1 P1 gr1 gl1=>?_⟩;obtain⟨oF,G,HB,gr⟩:=HA.pgs es q1 q2 C pn w wp f1 f2 f3 f4 f5 o1 P1 gr1;have hpB:=HB.ob;rw[hob HA,q1,q2]at hpB;cbv;exact⟨p,lr,rfl,G,S,_,HB,bK.of gl1,ll,λH2 s2=>rest _ _ ⟨rfl,oF.trans (.sm s2),G,_,HB.same s2,gr⟩⟩
noncomputable def RT(S:Hs)(n:Int):Hs:=match S.st with
 |none=>S
 |some q=>if q.1<n-1 then Jf S q.1 else S
noncomputable def W5(S:Hs)(l:Lt):Hs:=match S.st with
 |none=>QJ S l
 |some q=>if q.1=l.nu-1 then Ou S q.1 l.cb else S
noncomputable def h3S(S:Hs)(l:Lt):Hs:=match S.st with
 |none=>S
 |some q=>if q.1=l.nu then RM S l else S
noncomputable def Ol(S:Hs)(l:Lt):Hs:={h3S ?DD l with nw:=mxI (h3S ?DD l).nw l.nu}
theorem QX(S:Hs)(n:Int)(pl:Pn):(Ou S n pl).me=S.me/\(Ou S n pl).lg.length=S.lg.length+ 1:=by
 unfold Ou;split
 ·exact⟨rfl,by unfold Mu;simp⟩
 ·exact⟨rfl,by unfold Jf;simp⟩
theorem ajJ(S:Hs)(l:Lt):(QJ S l).me=S.me/\(QJ S l).lg.length<=S.lg.length+ 1:=by
 unfold QJ;split
 ·exact⟨rfl,by unfold Mu;simp⟩
 ·exact⟨rfl,by omega⟩
theorem afF(S:Hs)(n:Int):(RT S n).me=S.me/\(RT S n).lg.length<=S.lg.length+ 1:=by
 unfold RT;split
 ·exact⟨rfl,by omega⟩
 ·split
  ·exact⟨rfl,by unfold Jf;simp⟩
  ·exact⟨rfl,by omega⟩
theorem agS(S:Hs)(l:Lt):(W5 S l).me=S.me/\(W5 S l).lg.length<=S.lg.length+ 1:=by
 unfold W5;split
 ·exact ajJ S l
 ·split
  ·exact⟨(QX S _ l.cb).1,kg (QX S _ l.cb).2⟩
  ·exact⟨rfl,by omega⟩
def pN(K:Yd)(mg:Ym->Option Ye)(P_mk:Yc):Sp:=λvs H Q _=>E2 fun(p t:Yc)=>vs=[.ref p,.ref t]/\(E4 λF S x l=>A8 ?AP (LtA H t l) (WfL l) (l.me≠S.me) (S.lg.length<=890) (eX P_mk H) (¬ F P_mk) (∀H',Rs K mg P_mk F H p (Ol S l) H'->Q .non H'))
theorem pQ:aF ["self","letter","number"] jm (az jY):=iw
variable{qJ:Yc}{Cj:Yc}{vL:Yc}{nY:Yt}{zL:Yt}{tM:Yt}(qj:∅ 11 qJ nY U5 (nR K mg))(jd:Binds K nY U5 [])(zx:∅ 11 xR vh aZ (oZ K mg))(Ca:∅ 11 Bb yC Ud (xV K mg))(Bm:∅ 11 Cj zL jm (yH K mg))(Bk:Binds K zL jm [])(uU:∅ 11 vL tM jm (sZ K mg P_mk))(uJ:Binds K tM jm [])(je:bY K bf "come_new" Cj)(gH:bY K bf "hear_fellow" vL)(cY:bY K bf "stands_in" qJ)
include eV qj jd zx qX Ca kZ Bm Bk uU uJ Uk aC bj aD bI je dO fM gH cY in
theorem CJ(F:cB K "hear_standing" "Hand.hear_standing" jY f fd):∅ 12 f fd jm (pN K mg P_mk):=by
 refine F.oj pQ ?_;rintro _ A _ _ H _ _ _ hr _ _ _ ⟨p,t,rfl,h⟩;refine⟨_,(ak (bA (i:=2) pQ.nd rfl ?E ?L)
   (ak (cZ (PW.pt (uV (bL mQ ?A cA ?BM) (qO (bL aab ?BY (bU agq ?DR aB) ?BM)))) (aq (aP (bh (cj.cons aC.cl fM zx qX cj.nil) ?Q hr))) bN)
   (ak (cZ ?ET (aq (aP (aV (cj.cons aC.cl je Bm Bk cj.nil) ?Q hr ?B0))) (aq (cZ (du K rfl (aV (cj.cons aC.cl cY qj jd cj.nil) ?Q hr (aj (bU agq ?DR aB) ao))) (aq (aP (aV (cj.cons aC.cl dO Ca kZ cj.nil) ?Q hr ?IT))) bN)))
   (ak (cZ (du K rfl (aV (cj.cons aC.cl cY qj jd cj.nil) ?Q hr ?AW)) (aq (aP (aV (cj.cons aC.cl gH uU uJ cj.nil) ?Q hr ?B0))) bN)
   (aq (aU (K:=K) rfl ?Q (cL (Uw rfl) ?AE Uk tT (aj ?A ?AW)) rfl)))))),?_⟩
 refine xl5 ?_;intro _ _ _;obtain⟨F',S,x,l,HA,LA,wl,ne,ll,tb,nP,kk⟩:=h;obtain⟨cl,n1,n2,n3,n4,n5,n6,n7,n8,n9,n10,n11,n12,n13,n14⟩:=id aC;have hob:∀{A:Hp} {x1:Ng} {S1:Hs} {F1:Yc->Prop},j6 K mg A F1 p S1 x1->x1.C=bf:=λh=>by have:=h.mH;rw[aD]at this;cases this;rfl
 have Tc:=bj.cl;have T2:=bj.n2;obtain⟨cv,pa,pc,ms,g0,pnl,ga,gpc,gms⟩:=id LA;have a2:mq [V.str "in",.int l.me,.int l.nu,cv,.ref pa,.ref pc,.ref ms] 2=Ya (.int l.nu):=by kernel_rfl
 have a3:mq [V.str "in",.int l.me,.int l.nu,cv,.ref pa,.ref pc,.ref ms] 3=Ya cv:=by kernel_rfl
 have st0:=dC.of (K:=K) g0;have hp:=HA.ob;rw[hob HA]at hp;obtain⟨me1,lg1⟩:=afF S l.nu;obtain⟨me2,lg2⟩:=agS (RT S l.nu) l;have nPr:∀{A:Hp} {S1:Hs},Rs K mg P_mk F' H p S1 A->∃G x',Off (FT F' P_mk) H A/\eX P_mk A/\j6 K mg A G p S1 x'/\Gr F' H G/\¬ G P_mk:=fun⟨o,t,G,x',h,g⟩=>⟨G,x',o,t,h,g,Tr tb nP g⟩;cbv;refine yJ (λσ A=>σ=[Ya (.ref p),Ya (.ref t),Ya (.int l.nu)]/\Rs K mg P_mk F' H p (RT S l.nu) A) ?_ λN rest=>?_
 ·rintro σ A ⟨rfl,r1⟩;refine yJ (λσ A=>σ=[Ya (.ref p),Ya (.ref t),Ya (.int l.nu)]/\Rs K mg P_mk F' H p ?DD A) ?_ λN rest=>?_
  ·rintro σ B ⟨rfl,r2⟩;refine yJ (λσ A=>σ=[Ya (.ref p),Ya (.ref t),Ya (.int l.nu)]/\Rs K mg P_mk F' H p (h3S ?DD l) A) ?_ λN rest=>?_
   ·rintro σ D ⟨rfl,r3⟩;obtain⟨G,x1,o,tD,HD,gr,nPG⟩:=nPr r3;have hpD:=HD.ob;rw[hob HD]at hpD;cbv;refine⟨_,l.nu,rfl,?_⟩;cbv;intro H1 b1 g1;rw[adB]at g1;have k1:my D H1:=λa xs e=>b1.at (bD e hpD ?C) e;obtain⟨o1,HB⟩:=HD.fld (S':=Ol S l) (x':=x1) b1 (by rw[hob HD];exact g1) ⟨rfl,rfl,rfl,rfl,rfl,rfl,rfl,rfl,rfl⟩ ⟨rfl,rfl,rfl,rfl⟩ (k1 _ _ HD.pa) (HD.wb.up k1) HD.wp HD.d0 HD.t0;exact kk H1 (Av o tD gr ⟨En o1,eX.off tD o1 nPG,G,x1,HB,.self⟩)
   ·obtain⟨G,x1,o,tB,HB,gr,nPG⟩:=nPr r2;have hpB:=HB.ob;rw[hob HB]at hpB;have LB:=LA.up o.tp;generalize W5 (RT S l.nu) l=S2 at HB rest lg2 me2 hpB;cbv;refine⟨p,l.nu,rfl,G,S2,x1,HB,?_⟩;have e3:h3S S2 l=(match S2.st with|none=>S2|some q=>if q.1=l.nu then RM S2 l else S2):=rfl;cbv;cases es:S2.st with
    |none=>
     rw[es]at e3;refine iu (λz=>nomatch z) λ_=>?_;exact rest _ _ ⟨rfl,by rw[e3];exact⟨o,tB,G,x1,HB,gr⟩⟩
    |some q=>
     rw[es]at e3;refine iu (λz=>?_) λz=>?_
     ·have z:q.1=l.nu:=of_decide_eq_true z;cbv;refine⟨p,t,rfl,G,S2,x1,l,HB,LB,wl,(by rw[me2,me1];exact ne),(by rw[es];intro z;cases z),by omega,tB,nPG,λH2 r=>rest _ _ ⟨rfl,?_⟩⟩;rw[e3];show Rs K mg P_mk F' H p (if q.1=l.nu then RM S2 l else S2) H2;rw[if_pos z];exact Av o tB gr r
     ·have z:¬ q.1=l.nu:=λy=>z (decide_eq_true y);refine rest _ _ ⟨rfl,?_⟩;rw[e3];show Rs K mg P_mk F' H p (if q.1=l.nu then RM S2 l else S2) B;rw[if_neg z];exact⟨o,tB,G,x1,HB,gr⟩
  ·obtain⟨G,x1,o,tA,HB,gr,nPG⟩:=nPr r1;have hpA:=HB.ob;rw[hob HB]at hpA;have LB:=LA.up o.tp;have stA:=dC.of (K:=K) (o.tp _ _ g0);generalize RT S l.nu=S1 at HB rest lg1 me1 hpA lg2 me2;have st:=HB.st;have e2:W5 S1 l=(match S1.st with|none=>QJ S1 l|some q=>if q.1=l.nu-1 then Ou S1 q.1 l.cb else S1):=rfl;cases es:S1.st with
   |none=>
    rw[es]at st e2;obtain⟨q1,q2,q3⟩:=st;rw[q1,q2,q3]at hpA;cbv;rw[show decide (V.non=V.non)=true from decide_eq_true rfl];cbv;refine⟨p,t,rfl,G,S1,x1,l,HB,LB,wl,es,by omega,λH2 G2 x2 o2 HC gr2=>rest _ _ ⟨rfl,?_⟩⟩;rw[e2];exact Av o tA gr ⟨En o2,eX.off tA o2 nPG,G2,x2,HC,gr2⟩
   |some q=>
    rw[es]at st e2;obtain⟨pg,y,ch,rd,q1,q2,_⟩:=st;rw[q1,q2]at hpA;cbv;rw[eO];cbv;refine⟨p,l.nu-1,rfl,G,S1,x1,HB,?_⟩;rw[es];cbv;refine iu (λz=>?_) λz=>?_
    ·have z:q.1=l.nu-1:=of_decide_eq_true z;cbv;refine⟨p,cv,rfl,G,S1,x1,q,l.cb,HB,es,pnl.up o.tp,wl.cb,by omega,λH2 G2 x2 o2 HC gr2=>rest _ _ ⟨rfl,?_⟩⟩;rw[e2];show Rs K mg P_mk F' H p (if q.1=l.nu-1 then Ou S1 q.1 l.cb else S1) H2;rw[if_pos z];exact Av o tA gr ⟨En o2,eX.off tA o2 nPG,G2,x2,HC,gr2⟩
    ·have z:¬ q.1=l.nu-1:=λy=>z (decide_eq_true y);refine rest _ _ ⟨rfl,?_⟩;rw[e2];show Rs K mg P_mk F' H p (if q.1=l.nu-1 then Ou S1 q.1 l.cb else S1) A;rw[if_neg z];exact⟨o,tA,G,x1,HB,gr⟩
 ·have st:=HA.st;have e1:RT S l.nu=(match S.st with|none=>S|some q=>if q.1<l.nu-1 then Jf S q.1 else S):=rfl;cases es:S.st with
  |none=>
   rw[es]at st e1;obtain⟨q1,q2,q3⟩:=st;rw[q1,q2,q3]at hp;cbv;rw[show decide (V.non=V.non)=true from decide_eq_true rfl];cbv;exact rest _ _ ⟨rfl,by rw[e1];exact Rz HA tb⟩
  |some q=>
   rw[es]at st e1;obtain⟨pg,y,ch,rd,q1,q2,P,_⟩:=st;obtain⟨Cp,dxp,mP,Tp,hg⟩:=P.ob;rw[bI]at mP;cases mP;rw[q1,q2]at hp;cbv;rw[eO];cbv;refine iu (λz=>?_) λz=>?_
   ·have z:q.1<l.nu-1:=of_decide_eq_true z;cbv;refine⟨p,rfl,F',S,x,q,HA,es,by omega,λH2 x2 o2 HC=>rest _ _ ⟨rfl,?_⟩⟩;rw[e1];show Rs K mg P_mk F' H p (if q.1<l.nu-1 then Jf S q.1 else S) H2;rw[if_pos z];exact⟨En o2,eX.off tb o2 nP,F',x2,HC,.self⟩
   ·have z:¬ q.1<l.nu-1:=λy=>z (decide_eq_true y);refine rest _ _ ⟨rfl,?_⟩;rw[e1];show Rs K mg P_mk F' H p (if q.1<l.nu-1 then Jf S q.1 else S) H;rw[if_neg z];exact Rz HA tb
noncomputable def ue(S:Hs)(wb:Option (Pn×Int)):Hs:=match wb with
 |none=>S
 |some w=>match S.st with
  |none=>S
  |some q=>if q.1=w.2 then Ou S q.1 w.1 else S
noncomputable def Lj(S:Hs)(me:Int)(wi:Bool)(wb:Option (Pn×Int)):Hs:=match(ue S wb).st with
 |none=>ue S wb
 |some q=>if(wi&& !jL q.2.1 me)=true then{ue S wb with nt:=YQ (ue S wb).nt ?C4}else ue S wb
theorem ac4(S:Hs)(wb:Option (Pn×Int)):(ue S wb).me=S.me/\(ue S wb).lg.length<=S.lg.length+ 1:=by
 unfold ue;split
 ·exact⟨rfl,by omega⟩
 ·split
  ·exact⟨rfl,by omega⟩
  ·split
   ·exact⟨(QX S _ _).1,kg (QX S _ _).2⟩
   ·exact⟨rfl,by omega⟩
def wG(K:Yd)(mg:Ym->Option Ye)(P_mk:Yc):Sp:=λvs H Q _=>E2 fun(p t:Yc)=>vs=[.ref p,.ref t]/\(E6 λF S x me wi wb=>A9 ?AP (LaA H t me wi wb) ((∀w,wb=Ya w->WL w.1)) (0<=me) (me<63) (S.lg.length<=890) (eX P_mk H) (¬ F P_mk) (∀H',Rs K mg P_mk F H p (Lj S me wi wb) H'->Q .non H'))
theorem xJ:aF ["self","letter","last"] jm (az qz):=iw
variable(Ny:∅ 9 yS ux VD (ut K))(W0:∅ 9 ac8 VJ acx (Vt K))(tL:∅ 9 qJ nY U5 (nR K mg))
include eV Ny iG W0 DP tL jd ug kZ aC bj aD bI dO cY in
theorem J6(F:cB K "hear_away" "Hand.hear_away" qz f fd):∅ 10 f fd jm (wG K mg P_mk):=by
 refine F.oj xJ ?_;rintro _ A _ _ H _ Q _ hr _ _ _ ⟨p,t,rfl,h⟩;refine⟨_,(ak (bA (i:=2) xJ.nd rfl ?E ?L)
   (ak (cZ (PW.pt (uV (bL mQ ?DR cA ?BM) (qO (du K rfl (aV (cj.cons aC.cl cY tL jd cj.nil) ?Q hr (aj ?X ao)))))) (aq (aP (aV (cj.cons aC.cl dO ug kZ cj.nil) ?Q hr (aj ?X ao)))) bN)
   (aq (cZ (PW.pt (uV (afP ?L) (uV (bL mQ ?A cA ?BM) (qO (Az (du K rfl (bw W0 DP hr (aj ?BY ?IT)))))))) (aq (aU (K:=K) rfl ?Q (bU JP ?A (bw Ny iG hr ?IT)) rfl)) bN)))),?_⟩
 refine xl3 ?_;intro _;obtain⟨F',S,x,me,wi,wb,HA,LA,wf,e0,e1,ll,tb,nP,kk⟩:=h;obtain⟨cl,n1,n2,n3,n4,n5,n6,n7,n8,n9,n10,n11,n12,n13,n14⟩:=id aC;have hob:∀{A:Hp} {x1:Ng} {S1:Hs} {F1:Yc->Prop},j6 K mg A F1 p S1 x1->x1.C=bf:=λh=>by have:=h.mH;rw[aD]at this;cases this;rfl
 have Tc:=bj.cl;have T3:=bj.n3;obtain⟨wv,g0,hw⟩:=id LA;have a1:mq [V.str "away",.int me,.bl wi,wv] 1=Ya (.int me):=by kernel_rfl
 have a2:mq [V.str "away",.int me,.bl wi,wv] 2=Ya (.bl wi):=by kernel_rfl
 have a3:mq [V.str "away",.int me,.bl wi,wv] 3=Ya wv:=by kernel_rfl
 have st0:=dC.of (K:=K) g0;obtain⟨me1,lg1⟩:=ac4 S wb;cbv;refine yJ (λσ A=>σ=[Ya (.ref p),Ya (.ref t),Ya wv]/\Rs K mg P_mk F' H p (ue S wb) A) ?_ λN rest=>?_
 ·rintro σ A ⟨rfl,o,tA,G,x1,HB,gr⟩;have nPG:=Tr tb nP gr;have hpA:=HB.ob;rw[hob HB]at hpA;have stA:=dC.of (K:=K) (o.tp _ _ g0);have r1:Rs K mg P_mk F' H p (ue S wb) A:=⟨o,tA,G,x1,HB,gr⟩;have e2:Lj S me wi wb=(match(ue S wb).st with|none=>ue S wb|some q=>if(wi&& !jL q.2.1 me)=true then{ue S wb with nt:=YQ (ue S wb).nt ?C4}else ue S wb):=rfl;generalize ue S wb=S1 at HB hpA e2 r1;have st:=HB.st;have no:(∀q,S1.st=Ya q->(wi&& !jL q.2.1 me)=false)->Q .non A:=λhn=>kk A (by
   rw[e2];cases es:S1.st with
   |none=>exact r1
   |some q=>
    show Rs K mg P_mk F' H p (if(wi&& !jL q.2.1 me)=true then _ else S1) A;rw[if_neg (by rw[hn q es];intro z;cases z)];exact r1)
  cbv;refine iu (λz=>?_) λz=>?_
  ·cases es:S1.st with
   |none=>
    rw[es]at st;obtain⟨q1,q2,q3⟩:=st;rw[q1,q2,q3]at hpA;cbv;rw[show decide (V.non=V.non)=true from decide_eq_true rfl];cbv;exact no λq y=>by rw[es]at y;cases y
   |some q=>
    rw[es]at st;obtain⟨pg,y,ch,rd,q1,q2,P,_⟩:=st;obtain⟨Cp,dxp,mP,Tp,hg⟩:=P.ob;rw[bI]at mP;cases mP;rw[q1,q2]at hpA;cbv;rw[eO];cbv;refine⟨q.2.1,me,rfl,P.h0,e0,by omega,?_⟩;cbv;refine iu (λw=>?_) λw=>?_
    ·have w:jL q.2.1 me=false:=by
      cases e:jL q.2.1 me with
      |false=>rfl
      |true=>rw[show q.2.1.toNat.testBit me.toNat=true from e]at w;cases w
     cbv;refine⟨me,rfl,e0,by omega,?_⟩;cbv;intro H1 b1 g1;rw[adk]at g1;have k1:my A H1:=λa xs e=>b1.at (bD e hpA ?C) e;have bt:=acM e0 e1;obtain⟨o1,HC⟩:=HB.fld (S':={S1 with nt:=YQ S1.nt ?C4}) (x':=x1) b1 (by rw[hob HB,q1,q2];exact g1) ⟨rfl,rfl,rfl,rfl,rfl,rfl,rfl,rfl,rfl⟩ ⟨rfl,rfl,rfl,rfl⟩ (k1 _ _ HB.pa) (HB.wb.up k1) HB.wp HB.d0 (adm HB.t0.1 HB.t0.2 bt.1 bt.2);refine kk H1 ?_;rw[e2,es];show Rs K mg P_mk F' H p (if(wi&& !jL q.2.1 me)=true then _ else S1) H1;rw[if_pos (by rw[w,show wi=true from z];rfl)];exact Av o tA gr ⟨En o1,eX.off tA o1 nPG,G,x1,HC,.self⟩
    ·exact no λq' y=>by
      rw[es]at y;cases y;cases e:jL q.2.1 me with
      |true=>simp
      |false=>rw[show q.2.1.toNat.testBit me.toNat=false from e]at w;exact absurd rfl w
  ·exact no λq _=>by rw[dP.mpr z];rfl
 ·have hp:=HA.ob;rw[hob HA]at hp;cases wb with
  |none=>
   obtain rfl:wv=.non:=hw;cbv;rw[show decide (V.non=V.non)=true from decide_eq_true rfl];cbv;exact rest _ _ ⟨rfl,Rz HA tb⟩
  |some w=>
   obtain⟨tw,pv,rfl,gw,pw⟩:=hw;have stw:=dC.of (K:=K) gw;have b0:mq [pv,V.int w.2] 0=Ya pv:=by kernel_rfl
   have b1:mq [pv,V.int w.2] 1=Ya (.int w.2):=by kernel_rfl
   have e1':ue S (Ya w)=(match S.st with|none=>S|some q=>if q.1=w.2 then Ou S q.1 w.1 else S):=rfl;cbv;rw[eO];cbv;refine⟨p,w.2,rfl,F',S,x,HA,?_⟩;cbv;cases es:S.st with
   |none=>
    rw[es]at e1';refine iu (λz=>nomatch z) λ_=>?_;exact rest _ _ ⟨rfl,by rw[e1'];exact Rz HA tb⟩
   |some q=>
    rw[es]at e1';refine iu (λz=>?_) λz=>?_
    ·have z:q.1=w.2:=of_decide_eq_true z;cbv;refine⟨p,pv,rfl,F',S,x,q,w.1,HA,es,pw,wf w rfl,by omega,λH2 G2 x2 o2 HC gr2=>rest _ _ ⟨rfl,?_⟩⟩;rw[e1'];show Rs K mg P_mk F' H p (if q.1=w.2 then Ou S q.1 w.1 else S) H2;rw[if_pos z];exact⟨En o2,eX.off tb o2 nP,G2,x2,HC,gr2⟩
    ·have z:¬ q.1=w.2:=λy=>z (decide_eq_true y);refine rest _ _ ⟨rfl,?_⟩;rw[e1'];show Rs K mg P_mk F' H p (if q.1=w.2 then Ou S q.1 w.1 else S) H;rw[if_neg z];exact Rz HA tb
def KN(K:Yd)(v:V):Prop:=v=.int 62
inductive WT where
 |inn (l:Lt)
 |away (me:Int) (wi:Bool) (wb:Option (Pn×Int))
variable{T:WT}
noncomputable def WT.me:WT->Int
 | .inn l=>l.me
 | .away m _ _=>m
variable{me:Int}
def Th(H:Hp)(t:Yc):WT->Prop
 | .inn l=>LtA H t l
 | .away me wi wb=>LaA H t me wi wb
theorem Th.up{L:WT}(h:Th H t L)(s:my H H'):Th H' t L:=by
 cases L with
 |inn l=>exact LtA.up h s
 |away me wi wb=>exact LaA.up h s
def WfT:WT->Prop
 | .inn l=>WfL l
 | .away me _ wb=>(0<=me/\me<63)/\∀w,wb=Ya w->WL w.1
noncomputable def Ec(S:Hs):WT:=match S.st with
 |none=>.away S.me S.wi S.wb
 |some q=>.inn (V4 S q)
noncomputable def Jl(S:Hs)(L:WT):Hs:=if L.me=S.me then S else match L with
 | .inn l=>Ol S l
 | .away me wi wb=>Lj S me wi wb
def jq(K:Yd)(mg:Ym->Option Ye)(P_mk:Yc):Sp:=λvs H Q _=>E2 fun(p t:Yc)=>vs=[.ref p,.ref t]/\(E4 λF S x L=>A7 ?AP (Th H t L) (WfT L) (S.lg.length<=880) (eX P_mk H) (¬ F P_mk) (∀H' l ys,Rs K mg P_mk F H p (Jl S L) H'->H' l=Ya (.lst ys)->vz H' ys ((Jl S L).lg.drop S.lg.length)->Q (.ref l) H'))
theorem Jy:aF ["self","letter","start"] jm (az Eh):=iw
variable{rK:Yc}{yR:Yc}{pU:Yt}{w6:Yt}(rF:∅ 12 rK pU jm (pN K mg P_mk))(rB:Binds K pU jm [])(zp:∅ 12 yR w6 jm (wG K mg P_mk))(zH:Binds K w6 jm [])(iI:bY K bf "hear_away" yR)(eQ:bY K bf "hear_standing" rK)
include eV rF rB zp zH oM aC aD iI eQ in
theorem Vs(F:cB K "hear" "Hand.hear" Eh f fd):∅ 13 f fd jm (jq K mg P_mk):=by
 refine F.oj Jy ?_;rintro _ A _ _ H _ _ _ hr _ _ _ ⟨p,t,rfl,h⟩;refine⟨_,(ak (bA (i:=2) Jy.nd rfl ?E (cL ?EZ ?AE oM gF ?A5))
   (ak (cZ (bL ahj ?L ?A ?BM) (aq (cZ (bL KZ ?L oV ?BM) (aq (aP (aV (cj.cons aC.cl eQ rF rB cj.nil) ?Q hr ?B0))) (aq (aP (aV (cj.cons aC.cl iI zp zH cj.nil) ?Q hr ?B0))))) bN)
   (aq (aX (oJ ?G5 ?A (qP ?DR) xF))))),?_⟩
 refine xl3 ?_;intro _;obtain⟨F',S,x,L,HA,LA,wt,ll,tb,nP,kk⟩:=h;obtain⟨cl,n1,n2,n3,n4,n5,n6,n7,n8,n9,n10,n11,n12,n13,n14⟩:=id aC;have hob:∀{A:Hp} {x1:Ng} {S1:Hs} {F1:Yc->Prop},j6 K mg A F1 p S1 x1->x1.C=bf:=λh=>by have:=h.mH;rw[aD]at this;cases this;rfl
 have hp:=HA.ob;rw[hob HA]at hp;have lx:x.xs.length=S.lg.length:=bX HA.ev;have sl:bK K H x.lg x.xs:=bK.of HA.lg;cbv;refine yJ (λσ A=>σ=[Ya (.ref p),Ya (.ref t),Ya (.int (x.xs.length:Nat))]/\Rs K mg P_mk F' H p (Jl S L) A) ?_ λN rest=>?_
 ·rintro σ A ⟨rfl,r⟩;obtain⟨o,tA,G,x1,HB,gr⟩:=id r;have hpA:=HB.ob;rw[hob HB]at hpA;have sl3:bK K A x1.lg x1.xs:=bK.of HB.lg;cbv;intro l H4 hl s4 g4;rw[PX _ _ (cc _),Yy,lx]at g4;exact kk H4 l _ (r.end s4) g4 (wY (j7 (.same s4) HB.ev))
 ·cases L with
  |inn l=>
   have eS:Jl S (.inn l)=if l.me=S.me then S else Ol S l:=rfl
   obtain⟨cv,pa,pc,ms,g0,_⟩:=id LA;have st0:=dC.of (K:=K) g0;have a0:mq [V.str "in",.int l.me,.int l.nu,cv,.ref pa,.ref pc,.ref ms] 0=Ya (.str "in"):=by kernel_rfl
   have a1:mq [V.str "in",.int l.me,.int l.nu,cv,.ref pa,.ref pc,.ref ms] 1=Ya (.int l.me):=by kernel_rfl
   cbv;refine iu (λz=>?_) λz=>?_
   ·have z:¬ l.me=S.me:=by simpa using z
    cbv;refine iu (λ_=>?_) λy=>absurd (decide_eq_true rfl) y;cbv;refine⟨p,t,rfl,F',S,x,l,HA,LA,wt,z,by omega,tb,nP,λH2 r=>rest _ _ ⟨rfl,?_⟩⟩;rw[eS];show Rs K mg P_mk F' H p (if l.me=S.me then S else Ol S l) H2;rw[if_neg z];exact r
   ·have z:l.me=S.me:=by simpa using z
    refine rest _ _ ⟨rfl,?_⟩;rw[eS];show Rs K mg P_mk F' H p (if l.me=S.me then S else Ol S l) H;rw[if_pos z];exact Rz HA tb
  |away me wi wb=>
   have eS:Jl S (.away me wi wb)=if me=S.me then S else Lj S me wi wb:=rfl
   obtain⟨wv,g0,_⟩:=id LA;have st0:=dC.of (K:=K) g0;have a0:mq [V.str "away",.int me,.bl wi,wv] 0=Ya (.str "away"):=by kernel_rfl
   have a1:mq [V.str "away",.int me,.bl wi,wv] 1=Ya (.int me):=by kernel_rfl
   cbv;refine iu (λz=>?_) λz=>?_
   ·have z:¬ me=S.me:=by simpa using z
    cbv;refine iu (λy=>absurd (of_decide_eq_true y) ?AV) λ_=>?_;cbv;refine⟨p,t,rfl,F',S,x,me,wi,wb,HA,LA,wt.2,wt.1.1,wt.1.2,by omega,tb,nP,λH2 r=>rest _ _ ⟨rfl,?_⟩⟩;rw[eS];show Rs K mg P_mk F' H p (if me=S.me then S else Lj S me wi wb) H2;rw[if_neg z];exact r
   ·have z:me=S.me:=by simpa using z
    refine rest _ _ ⟨rfl,?_⟩;rw[eS];show Rs K mg P_mk F' H p (if me=S.me then S else Lj S me wi wb) H;rw[if_pos z];exact Rz HA tb
def Ni(K:Yd):Sp:=λvs H Q _=>∃(w:Int),vs=[.int w]/\Q (.bl true) H
theorem XM:aF ["value"] sO (az Ji):=iw
variable(afN:mg "bool"=Yb)(akA:mg "int"=Yb)
include eV afN akA dz in
theorem Xw(F:cB K "is_whole" "is_whole" Ji f fd):∅ 1 f fd sO (Ni K):=by
 refine F.oj XM ?_;rintro _ _ _ _ _ _ _ _ _ _ _ _ ⟨w,rfl,h⟩;refine⟨_,(aq (aX (uz (cL (zQ (K:=K) rfl) ?AE dz gS (aj ?Q (aj (JM akA KA) ao))) (uA (amT (cL (zQ (K:=K) rfl) ?AE dz gS (aj ?Q (aj (JM afN Ki) ao)))))))),?_⟩;cbv;refine⟨_,_,_,true,rfl,.int _,?J,?_⟩;cbv;refine⟨_,_,_,false,rfl,.int _,?J,?_⟩;cbv;exact h
def Qy(K:Yd):Sp:=λvs H Q _=>∃(w:Int),vs=[.int w]/\(A3 (0<=w) (w<63) (Q (.bl true) H))
theorem ab2:aF ["value"] sO (az Mj):=iw
variable{QD:Yc}{MT:Yt}{t8:V}{Ks:Ye}(Ao:∅ 1 QD MT sO (Ni K))(z8:iU K mg "is_whole" QD MT sO)(jz:mg "LAST_HAND"=Ya Ks)(jo:RelV t8 Ks)(jy:KN K t8)
include eV Ao z8 jz jo jy in
theorem ab3(F:cB K "is_hand" "is_hand" Mj f fd):∅ 2 f fd sO (Qy K):=by
 refine F.oj ab2 ?_;rintro _ _ _ _ H _ Q _ hr _ _ _ ⟨w,rfl,h⟩;refine⟨_,(aq (aX (uz (bw Ao z8 hr ?IS) (uA (Xf agb agb aB ?Q (Wj rfl jz jo)))))),?_⟩;obtain⟨h0,h1,kk⟩:=h;obtain rfl:t8=.int 62:=jy;cbv;refine⟨w,rfl,?_⟩;cbv;refine⟨_,rfl,_,_,rfl,rfl,_,rfl,?_⟩;rw[if_pos (decide_eq_true h0)];refine⟨_,_,rfl,rfl,?_⟩;show Q (.bl (decide (w<=62))) H;rw[decide_eq_true (show w<=62 by omega)];exact kk
def Uj(K:Yd):Sp:=λvs H Q _=>∃(w:Int),vs=[.int w]/\(A3 (0<=w) (w<9223372036854775808) (Q (.bl true) H))
theorem aej:aF ["value"] sO (az Ri):=iw
include eV Ao z8 jz jo jy in
theorem afj(F:cB K "is_set" "is_set" Ri f fd):∅ 2 f fd sO (Uj K):=by
 refine F.oj aej ?_;rintro _ _ _ _ _ _ _ _ hr _ _ _ ⟨w,rfl,h⟩;refine⟨_,(aq (aX (uz (bw Ao z8 hr ?IS) (uA (Xf agb aab aB ?Q (bU rZ aB (bU jH (Wj rfl jz jo) aB))))))),?_⟩;obtain⟨h0,h1,kk⟩:=h;obtain rfl:t8=.int 62:=jy;cbv;refine⟨w,rfl,?_⟩;cbv;refine⟨_,rfl,_,_,rfl,rfl,_,rfl,?_⟩;rw[if_pos (decide_eq_true h0)];have cp:acl 1 63:=⟨by decide,by decide,by decide⟩;cbv;rw[decide_eq_true (show w<1*2^(62+ 1:Int).toNat by rw[show(1:Int)*2^(62+ 1:Int).toNat=9223372036854775808 by decide +kernel];exact h1)];exact kk
noncomputable def newS(me ha nu ro:Int):Hs:=if jL ha me=true then Mu ⟨me,ro,nu,Yb,Yb,[],0,0,false,false⟩ nu (0,ha,ha)else⟨me,ro,nu,Yb,Yb,[],0,0,false,false⟩
def kW(K:Yd)(mg:Ym->Option Ye):Sp:=λvs H Q _=>E5 fun(p:Yc) (me ha nu ro:Int)=>vs=[.ref p,.int me,.int ha,.int nu,.int ro]/\(E2 λC dx=>A8 (mg "Hand"=Ya (.ref C)) (Rx K C) (H p=Ya (.ins C dx [])) (0<=me) (me<63) (0<ha) (ha<9223372036854775808) (∀H' G x,?E0->j6 K mg H' G p (newS me ha nu ro) x->Gr (λa=>a=p) H G->Q .non H'))
abbrev K5:List Ym:=["self","me","hands","number","room"]
theorem Mq:aF ["self","me","hands","number","room"] K5 (az sI):=iw
variable{TY:Yc}{aan:Yc}{QC:Yt}{Va:Yt}(Tv:∅ 8 TY QC sO (Qy K))(Tu:iU K mg "is_hand" TY QC sO)(W7:∅ 8 aan Va sO (Uj K))(aaO:iU K mg "is_set" aan Va sO)
include eV uD DP lE lD Tv Tu W7 aaO aC aD dM in
theorem Ma{t1:ml}(F:Mi K "__init__" "Hand.__init__" sI f fd [.int 1 t0,.int 8 t1]):∅ 9 f fd K5 (kW K mg):=by
 refine F.ok Mq (λvs H Q E h=>?_) (λcdv A outer s H vs Q E hr h=>?_)
 ·obtain⟨p,me,ha,nu,ro,rfl,_⟩:=h;rfl
 obtain⟨p,me,ha,nu,ro,rfl,h⟩:=h;have hu64:=hr.units;have hu0:=hr.units0;have hu:=Ql hr;refine⟨_,(ak (cZ (Az (du K rfl (bw Tv Tu hr ?B0))) (aq cJ) bN)
   (ak (cZ (PW.pt (akx (Az (du K rfl (bw W7 aaO hr ?AW))) (age (bL KZ ?DR aB ?BM)))) (aq cJ) bN)
   (ak ?GA
   (ak (aU (K:=K) rfl ?Q (pv 4) rfl)
   (ak (aU (K:=K) rfl ?Q ?BW rfl)
   (ak ?BA
   (ak ?BA
   (ak ?BA
   (ak ?BA
   (ak (aU (K:=K) rfl ?Q (dY ao) rfl)
   (ak ?IE
   (ak ?IE
   (ak (aU (K:=K) rfl ?Q aB rfl)
   (ak (aU (K:=K) rfl ?Q aB rfl)
   (ak ?D2
   (ak ?D2
   (aq (cZ (du K rfl (bw uD DP hr (aj ?DR ?B0))) (aq (aP (aV (cj.cons aC.cl dM lE lD cj.nil) ?Q hr (aj ?BW (aj (dY (aj aB (aj ?DR (aj ?DR (aj (dY ao) ao))))) ao))))) bN)))))))))))))))))),?_⟩
 refine apo ?_;intro _ _ _ _ _ _ _ _ _ _ _ _ _ _ _;obtain⟨C,dx,mH,T,hp,m0,m1,a0,a1,kk⟩:=h;have eC:=mH;rw[aD]at eC;cases eC;obtain⟨cl,n1,n2,n3,n4,n5,n6,n7,n8,n9,n10,n11,n12,n13,n14⟩:=id T;cbv;refine⟨me,rfl,m0,m1,?_⟩;cbv;refine⟨ha,rfl,by omega,a1,?_⟩;cbv;refine iu (λz=>absurd ?D5 ?D) λ_=>?_;cbv;intro H1 b1 g1;cbv;intro H2 b2 g2;cbv;intro H3 b3 g3;cbv;intro H4 b4 g4;cbv;intro H5 b5 g5;cbv;intro H6 b6 g6;cbv;intro H7 b7 g7;have k7:∀b o,H b=Ya o->b≠p->H7 b=Ya o:=λb o e n=>b7.at n (b6.at n (b5.at n ?IV));cbv;intro pa A1 hpa s1 gpa;have g7':=s1 _ _ g7;cbv;intro H8 b8 g8;cbv;intro lg A2 hlg s2 glg;have g8':=s2 _ _ g8;cbv;intro H9 b9 g9;cbv;intro lo A3 hlo s3 glo;have g9':=s3 _ _ g9;cbv;intro H10 b10 g10;cbv;intro H11 b11 g11;cbv;intro H12 b12 g12;cbv;intro H13 b13 g13;cbv;intro H14 b14 g14;rw[aiY]at g14;have np:∀{a:Yc} {A:Hp} {u:HO},A p=Ya u->A a=Yb->a≠p:=λe n z=>by rw[z]at n;rw[n]at e;cases e
 have npa:=np g7 hpa;have nlg:=np g8 hlg;have nlo:=np g9 hlo;have k10:∀b o,H10 b=Ya o->b≠p->H14 b=Ya o:=λb o e n=>b14.at n (b13.at n (b12.at n (b11.at n e)));have k9:∀b o,H9 b=Ya o->b≠p->H14 b=Ya o:=λb o e n=>k10 _ _ (b10.at n (s3 _ _ e)) n;have k8:∀b o,H8 b=Ya o->b≠p->H14 b=Ya o:=λb o e n=>k9 _ _ (b9.at n (s2 _ _ e)) n;have kA:∀b o,H7 b=Ya o->b≠p->H14 b=Ya o:=λb o e n=>k8 _ _ (b8.at n ?EU) n;have k0:∀b o,H b=Ya o->b≠p->H14 b=Ya o:=λb o e n=>kA _ _ (k7 b o e n) n;have fr:∀{a:Yc} {A:Hp},(∀b u,H b=Ya u->b≠p->A b=Ya u)->a≠p->A a=Yb->H a=none:=fun{a A} kA n e=>by
  cases z:H a with
  |none=>rfl
  |some u=>rw[kA a u z n]at e;cases e
 have fpa:=fr k7 npa hpa;have flg:=fr (λb u e n=>b8.at n (s1 _ _ (k7 b u e n))) nlg hlg;have flo:=fr (λb u e n=>b9.at n (s2 _ _ (b8.at n (s1 _ _ (k7 b u e n))))) nlo hlo;have gpa14:=k8 _ _ (b8.at npa gpa) npa;have glg14:=k9 _ _ (b9.at nlg glg) nlg;have glo14:=k10 _ _ (b10.at nlo glo) nlo;have HA:j6 K mg H14 (λa=>a=p\/a=lg\/a=lo) p ⟨me,ro,nu,Yb,Yb,[],0,0,false,false⟩ ⟨bf,dx,.non,.non,.non,.non,pa,lg,lo,[],λ_=>False⟩:=by
  refine⟨mH,T,g14,gpa14,glg14,.nil,glo14,(λz=>by have z:lg=lo:=z;rw[<-z,b9.at nlg glg]at hlo;cases hlo),rfl,(λq z=>nomatch z),⟨rfl,rfl,rfl⟩,.inl rfl,.inr (.inl rfl),.inr (.inr rfl),⟨λz=>z,λz=>z,λz=>z⟩,λa z=>?_,m0,m1,qk _,⟨qk _,by show(0:Int)<9223372036854775808;decide⟩⟩;rcases z with rfl|rfl|rfl
  ·rw[g14];intro z;cases z
  ·rw[glg14];intro z;cases z
  ·rw[glo14];intro z;cases z
 have gr:Gr (λa=>a=p) H (λa=>a=p\/a=lg\/a=lo):=λa z=>by
  rcases z with rfl|rfl|rfl
  ·exact .inl rfl
  ·exact .inr flg
  ·exact .inr flo
 cbv;refine⟨ha,me,rfl,by omega,m0,by omega,?_⟩;cbv;refine iu (λz=>?_) λz=>?_
 ·have z:jL ha me=true:=z;cbv;intro te B1 hte sB1 gte;cbv;intro tp B2 htp sB2 gtp;have HB:=HA.same (sB1.trans sB2);cbv;refine⟨p,nu,.ref tp,rfl,_,_,_,(0,ha,ha),HB,⟨tp,te,rfl,gtp,sB2 _ _ gte⟩,⟨⟨qk _,by show(0:Int)<9223372036854775808;decide⟩,⟨by show 0<=ha;omega,a1⟩,⟨by show 0<=ha;omega,a1⟩,λi hi=>hi⟩,z,YX _,λH' G x o HC g2=>?_⟩;have e:newS me ha nu ro=Mu ⟨me,ro,nu,Yb,Yb,[],0,0,false,false⟩ nu (0,ha,ha):=if_pos z;have sB:=sB1.trans sB2;have nf:∀{b u},H b=Ya u->b≠p->¬ (b=p\/b=lg\/b=lo):=fun{b u} e n y=>by
   rcases y with y|y|y
   ·exact n y
   ·rw[y,flg]at e;cases e
   ·rw[y,flo]at e;cases e
  refine kk H' G x (λb u e n=>o.of _ _ (sB _ _ (k0 b u e n)) (nf e n)) (by rw[e];exact HC) λa ga=>?_;rcases g2 a ga with y|y
  ·exact gr a y
  ·by_cases y2:a=p
   ·exact .inl y2
   ·exact .inr (fr k0 y2 (sB.free y))
 ·have z:jL ha me=false:=dP.mpr z;have e:newS me ha nu ro=⟨me,ro,nu,Yb,Yb,[],0,0,false,false⟩:=if_neg (by rw[z];intro z;cases z);exact kk H14 _ _ k0 (by rw[e];exact HA) gr
structure WE where
 p:Yc
 S:Hs
 F:Yc->Prop
 x:Ng
variable{p:Yc}{F:Yc->Prop}{S:Hs}{x:Int}{W:List WE}
structure Wd(K:Yd)(mg:Ym->Option Ye)(Pt:Yc)(H:Hp)(W:List WE)(ls:List (Yc×HO)):Prop where
 hd:∀(i:Nat) (w:WE),W[i]?=Ya w->j6 K mg H w.F w.p w.S w.x
 dj:∀(i j:Nat) (u v:WE),W[i]?=Ya u->W[j]?=Ya v->i≠j->∀a,u.F a->¬ v.F a
 nP:∀(i:Nat) (w:WE),W[i]?=Ya w->¬ w.F Pt
 tb:eX Pt H
 ls:∀e∈ls,H e.1=Ya e.2/\e.1≠Pt/\∀(i:Nat) (w:WE),W[i]?=Ya w->¬ w.F e.1
variable{hd:Int}{ls:List (Yc×HO)}
section
theorem Wd.same(D:Wd K mg Pt H W ls)(s:aW H H'):Wd K mg Pt H' W ls:=⟨λi w h=>(D.hd i w h).same s,D.dj,D.nP,eX.off D.tb (Off.sm (F:=λ_=>False) s) λz=>z,λe he=>⟨s _ _ (D.ls e he).1,(D.ls e he).2⟩⟩
theorem Wd.add(D:Wd K mg Pt H W ls)(s:aW H H'){l:Yc}(hl:H l=Yb)(g:H' l=Ya o):Wd K mg Pt H' W ((l,o)::ls):=by
 refine⟨(D.same s).hd,D.dj,D.nP,(D.same s).tb,λe he=>?_⟩;rcases Yz.mp he with rfl|z
 ·refine⟨g,λy=>?_,λi w h f=>(D.hd i w h).dm _ f hl⟩;have y:l=Pt:=y;obtain⟨ps,q⟩:=eX.some D.tb;rw[<-y,hl]at q;cases q
 ·exact(D.same s).ls e z
theorem Wd.less(D:Wd K mg Pt H W ls)(m:∀e∈ls',e∈ls):Wd K mg Pt H W ls':=⟨D.hd,D.dj,D.nP,D.tb,λe he=>D.ls e (m e he)⟩
theorem pW{w u:WE}(h:(W.set i w)[j]?=Ya u):(j=i/\u=w)\/(j≠i/\W[j]?=Ya u):=by
 rw[xS]at h;by_cases z:i=j
 ·rw[if_pos z]at h;split at h
  ·exact .inl ⟨z.symm,(YK h).symm⟩
  ·cases h
 ·rw[if_neg z]at h;exact .inr ⟨λy=>z y.symm,h⟩
theorem Wd.step(D:Wd K mg Pt H W ls){w:WE}(h:W[i]?=Ya w)(r:Rs K mg Pt w.F H w.p S' H'):∃G x',Wd K mg Pt H' (W.set i ⟨w.p,S',G,x'⟩) ls:=by
 obtain⟨o,t,G,x',hA,gr⟩:=r;have nG:∀(j:Nat) (u:WE),W[j]?=Ya u->j≠i->∀a,u.F a->¬ G a:=λj u hu n a f g=>(gr a g).elim (λz=>D.dj j i u w hu h n a f z) λz=>(D.hd j u hu).dm a f z;have nPG:¬ G Pt:=Tr D.tb (D.nP i w h) gr;refine⟨G,x',λj u hu=>?_,λj k u v hu hv n a f=>?_,λj u hu=>?_,t,λe he=>?_⟩
 ·rcases pW hu with⟨_,rfl⟩|⟨n,hu⟩
  ·exact hA
  ·exact(D.hd j u hu).off o λa f z=>z.elim (λy=>D.dj j i u w hu h n a f y) λy=>D.nP j u hu (y▸f)
 ·rcases pW hu with⟨e1,rfl⟩|⟨n1,hu⟩
  ·rcases pW hv with⟨e2,rfl⟩|⟨n2,hv⟩
   ·exact absurd (e1.trans e2.symm) n
   ·exact λy=>nG k v hv n2 a y f
  ·rcases pW hv with⟨e2,rfl⟩|⟨n2,hv⟩
   ·exact nG j u hu n1 a f
   ·exact D.dj j k u v hu hv n a f
 ·rcases pW hu with⟨_,rfl⟩|⟨_,hu⟩
  ·exact nPG
  ·exact D.nP j u hu
 ·obtain⟨q1,q2,q3⟩:=D.ls e he;refine⟨o.of _ _ q1 (λz=>z.elim (q3 i w h) q2),q2,λj u hu=>?_⟩;rcases pW hu with⟨_,rfl⟩|⟨_,hu⟩
  ·exact λy=>(gr _ y).elim (q3 i w h) λz=>by rw[q1]at z;cases z
  ·exact q3 j u hu
end
theorem adR{x:Ng}(h:j6 K mg H F p S x):WfT (Ec S):=by
 have st:=h.st;unfold Ec;cases es:S.st with
 |none=>exact⟨⟨h.m0,h.m1⟩,h.wp⟩
 |some q=>
  rw[es]at st;obtain⟨pg,y,ch,rd,q1,q2,P,C,pn,w,wp,_⟩:=st;exact⟨h.m0,h.m1,wp,w.y,C.sv.1,λz=>by unfold V4 at z⊢;dsimp only at z⊢;rw[if_neg z];intro z;cases z⟩
theorem afb{x:Ng}(h:j6 K mg H F p S x)(k:∀H' t,aW H H'->Th H' t (Ec S)->Q (.ref t) H'):gZ K mg [.ref p,.int 0,.non] H Q E0:=by
 refine⟨p,rfl,F,S,x,h,λes H' t s _ la=>k H' t s ?_,λq es H' t s la _=>k H' t s ?_⟩
 ·unfold Ec;rw[es];exact la
 ·unfold Ec;rw[es];exact la
noncomputable def evD:Ev->cy
 | .lst n h o w=>.tuple [.str "list",.int n,.int h,.int o,.int w]
 | .out n=>.tuple [.str "out",.int n]
theorem akv{e:Ev}(h:EvA H v e):Dp K H v (evD e):=by
 cases e with
 |lst n h o w=>obtain⟨t,rfl,g⟩:=h;exact .tup (dC.of g) (.cons (.str _) (.cons (.int _) (.cons (.int _) (.cons (.int _) (.cons (.int _) .nil)))))
 |out n=>obtain⟨t,rfl,g⟩:=h;exact .tup (dC.of g) (.cons (.str _) (.cons (.int _) .nil))
theorem ahy{H:Hp}:∀{xs:List V} {es:List Ev},vz H xs es->Dps K H xs (es.map evD)
 |_,_,.nil=>.nil
 |_,_,.cons h t=>.cons (akv h) (ahy t)
theorem agp:(GN "list").canLay0=true:=by decide +kernel
theorem ajV:(GN "out").canLay0=true:=by decide +kernel
theorem Vu(e:Ev):(evD e).canLay0=true:=by
 cases e with
 |lst n h o w=>exact abP (by rw[sM,agp];rfl)
 |out n=>exact abP (by rw[sM,ajV];rfl)
theorem V6:∀es:List Ev,EV (es.map evD)=true
 |[]=>rfl
 |e::es=>by rw[YS,sM,Vu,V6 es];rfl
inductive Op where
 |ren (i:Nat)
 |sus (i:Nat) (m:Int)
 |lea (i:Nat)
 |com (i:Nat)
 |hea (i j:Nat)
 |hrl (i:Nat) (T:WT)
noncomputable def hz:Hs:=⟨0,8,0,Yb,Yb,[],0,0,false,false⟩
noncomputable def gL(L:List Hs)(i:Nat):Hs:=L.getD i hz
noncomputable def ahE(S:Hs):Hs:={S with wo:=true}
noncomputable def ceS(S:Hs):Hs:={S with wi:=true}
noncomputable def cz(L:List Hs):Op->List Hs
 | .ren i=>L.set i (Lr ?EP 1)
 | .sus i m=>L.set i (Vr ?EP m)
 | .lea i=>L.set i (ahE ?EP)
 | .com i=>L.set i (ceS ?EP)
 | .hea i j=>L.set i (Jl ?EP (Ec (gL L j)))
 | .hrl i T=>L.set i (Jl ?EP T)
noncomputable def rop(so:List Nat)(o:Nat):List Op:=(so.filter λr=>!decide (o=r)).map λr=>.hea r o
noncomputable def lM(so:List Nat)(n:Nat):List Op:=(br n so).flatten.flatMap (rop so)
noncomputable def wM(n:Int):Bool:=decide (0<=n)&&decide (n<32)
noncomputable def wH(n:Int):Bool:=decide (0<=n)&&decide (n<5)
noncomputable def wC(c:Cg):Bool:=wM c.vo&&c.rp.all λe=>wH e.1
noncomputable def wS(S:Hs):Bool:=wH S.me&&decide (0<=S.nt)&&decide (0<=S.db)&&match S.st with
 |none=>true
 |some q=>wM q.2.1&&wC q.2.2.1
noncomputable def wP(p:Pn):Bool:=decide (0<=p.2.1)
noncomputable def wL(l:Lt):Bool:=wH l.me&&decide (0<=l.vo)&&wP l.cb&&(l.b.isNone||l.rp.isSome)
noncomputable def wT:WT->Bool
 | .inn l=>wL l
 | .away me _ wb=>wH me&&match wb with
  |none=>true
  |some w=>wP w.1
noncomputable def ae0(S:Hs):Bool:=wS S&&match S.st with
 |none=>true
 |some q=>match(Og S.me q.2.1 S.db ?IG q.2.2.1).ag with
  |none=>true
  |some p=>wP p
noncomputable def ams(S:Hs):Bool:=wS S&&match S.st with
 |none=>false
 |some q=>ae0 {S with st:=Ya (q.1,q.2.1,abj S q.2.2.1 1,q.2.2.2)}
noncomputable def ale(S:Hs)(m:Int):Bool:=wS S&&decide (0<=m)&&ae0 {S with db:=YA m (YC (2^S.me.toNat))}
noncomputable def akX(S:Hs)(l:Lt):Bool:=wS S&&match S.st with
 |none=>true
 |some q=>if q.1=l.nu then ae0 {S with st:=Ya ?DC}else true
noncomputable def adO(S:Hs)(T:WT):Bool:=wS S&&wT T&&match T with
 | .inn l=>wS (RT S l.nu)&&akX ?DD l
 | .away _ _ wb=>wS (ue S wb)
noncomputable def apF(S:Hs):Bool:=wS S&&match S.st with
 |none=>false
 |some q=>decide (q.2.2.1.b=Yb)
noncomputable def vU(L:List Hs):Op->Bool
 | .ren i=>decide (i<L.length)&&ams ?EP
 | .sus i m=>decide (i<L.length)&&ale ?EP m
 | .lea i=>decide (i<L.length)&&apF ?EP
 | .com i=>decide (i<L.length)&&(gL L i).st.isNone
 | .hea i j=>decide (i<L.length)&&decide (j<L.length)&&adO ?EP (Ec (gL L j))
 | .hrl i T=>decide (i<L.length)&&adO ?EP T
noncomputable def rW:List Hs->List Op->Bool
 |_,[]=>true
 |L,o::os=>vU L o&&rW (cz L o) os
noncomputable def iy(L:List Hs)(os:List Op):List Hs:=os.foldl cz L
noncomputable def nm(a b k:Int):Int:=a+ k*b
structure Nm(a b:Int):Prop where
 a0:0<=a
 b1:1<=b
 up:a+ 4*b<63
section
theorem aas(h:Nm a b){l:Int}:nm a b k<nm a b l↔k<l:=by
 unfold nm;have:=h.b1;constructor
 ·intro z;refine FL λy=>?_;have:l*b<=k*b:=i8 y ?D;omega
 ·intro z;have:(k+ 1)*b<=l*b:=i8 ?D ?D;have:(k+ 1)*b=k*b+ b:=by rw[Int.add_mul,BA]
  omega
theorem Bw(h:Nm a b){l:Int}:nm a b k=nm a b l↔k=l:=by
 refine⟨λz=>?_,λz=>by rw[z]⟩;have h1:=aas h (k:=k) (l:=l);have h2:=aas h (k:=l) (l:=k);omega
theorem BZ(h:Nm a b)(k0:0<=k)(k5:k<5):0<=nm a b k/\nm a b k<63:=by
 have:=h.a0;have:=h.b1;have:=h.up;have h1:0*b<=k*b:=i8 k0 ?D;have h2:k*b<=4*b:=i8 ?D ?D;unfold nm;omega
theorem ah5(h:Nm a b){l:Int}(k0:0<=k)(k5:k<5)(l0:0<=l)(l5:l<5)(e:(nm a b k).toNat=(nm a b l).toNat):k=l:=by
 have:=BZ h k0 k5;have:=BZ h l0 l5;exact(Bw h).mp ?D
noncomputable def fS(a b n:Int):Int:=tH ((([0,1,2,3,4]:List Int).filter λk=>n.toNat.testBit k.toNat).map (nm a b))
theorem amJ:k∈([0,1,2,3,4]:List Int)↔0<=k/\k<5:=by
 simp only[Yz,fi,or_false];omega
theorem lR:0<=fS a b n:=cc _
theorem abJ:(fS a b n).toNat.testBit i=true↔∃k:Int,(0<=k/\k<5)/\n.toNat.testBit k.toNat=true/\(nm a b k).toNat=i:=by
 unfold fS tH;rw[Yy,wO,de,gy,eD];constructor
 ·rintro⟨x,hx,e⟩;obtain⟨k,hk,rfl⟩:=YD.mp hx;obtain⟨m,t⟩:=Y9.mp hk;exact⟨k,amJ.mp m,t,of_decide_eq_true e⟩
 ·rintro⟨k,r,t,e⟩;exact⟨nm a b k,eJ (Y9.mpr ⟨amJ.mpr r,t⟩),decide_eq_true e⟩
theorem Ea(h:Nm a b)(k0:0<=k)(k5:k<5):(fS a b n).toNat.testBit (nm a b k).toNat=n.toNat.testBit k.toNat:=by
 rw[dS,abJ];constructor
 ·rintro⟨j,⟨j0,j5⟩,t,e⟩;rw[<-ah5 h j0 j5 k0 k5 e];exact t
 ·exact λt=>⟨k,⟨k0,k5⟩,t,rfl⟩
theorem Xb(h:∀k:Int,0<=k->k<5->i≠(nm a b k).toNat):(fS a b n).toNat.testBit i=false:=by
 rw[dP];intro z;obtain⟨k,⟨k0,k5⟩,_,e⟩:=abJ.mp z;exact h k k0 k5 e.symm
theorem adT(h:Nm a b)(n0:0<=n)(h1:∀k:Int,0<=k->k<5->n.toNat.testBit (nm a b k).toNat=x.toNat.testBit k.toNat)(h2:∀i,(∀k:Int,0<=k->k<5->i≠(nm a b k).toNat)->n.toNat.testBit i=false):n=fS a b x:=by
 have e:n.toNat=(fS a b x).toNat:=kT λi=>by
  by_cases z:∃k:Int,(0<=k/\k<5)/\i=(nm a b k).toNat
  ·obtain⟨k,⟨k0,k5⟩,rfl⟩:=z;rw[h1 k k0 k5,Ea h k0 k5]
  ·have z:∀k:Int,0<=k->k<5->i≠(nm a b k).toNat:=λk k0 k5 e=>z ⟨k,⟨k0,k5⟩,e⟩;rw[h2 i z,Xb z]
 have:=lR (a:=a) (b:=b) (n:=x);omega
theorem anf(h:Nm a b)(x0:0<=x)(y0:0<=y):YA (fS a b x) (fS a b y)=fS a b (YA x y):=by
 refine adT h (by rw[xr lR lR];exact cc _) (λk k0 k5=>?_) λi hi=>?_
 ·rw[xr lR lR,xr x0 y0,Yy,Yy,i7,i7,Ea h k0 k5,Ea h k0 k5]
 ·rw[xr lR lR,Yy,i7,Xb hi];rfl
theorem adn(h:Nm a b)(x0:0<=x)(y0:0<=y):YA (fS a b x) (YC (fS a b y))=fS a b (YA x (YC y)):=by
 refine adT h (tY lR lR).1 (λk k0 k5=>?_) λi hi=>?_
 ·rw[(tY lR lR).2,(tY x0 y0).2,Ea h k0 k5,Ea h k0 k5]
 ·rw[(tY lR lR).2,Xb hi];rfl
theorem X7(h:Nm a b)(x0:0<=x)(y0:0<=y):YQ (fS a b x) (fS a b y)=fS a b (YQ x y):=by
 refine adT h (by rw[vA lR lR];exact cc _) (λk k0 k5=>?_) λi hi=>?_
 ·rw[vA lR lR,vA x0 y0,Yy,Yy,mi,mi,Ea h k0 k5,Ea h k0 k5]
 ·rw[vA lR lR,Yy,mi,Xb hi,Xb hi];rfl
theorem ad2(h:Nm a b)(rg:∀k∈ks,0<=k/\k<5):tH (ks.map (nm a b))=fS a b (tH ks):=by
 have bt:∀(ls:List Int) (i:Nat),(tH ls).toNat.testBit i=true↔∃x∈ls,x.toNat=i:=λls i=>by
  unfold tH;rw[Yy,wO,de,gy,eD];exact⟨fun⟨x,hx,e⟩=>⟨x,hx,of_decide_eq_true e⟩,fun⟨x,hx,e⟩=>⟨x,hx,decide_eq_true e⟩⟩
 refine adT h (cc _) (λk k0 k5=>?_) λi hi=>?_
 ·rw[dS,bt,bt];constructor
  ·rintro⟨x,hx,e⟩;obtain⟨j,hj,rfl⟩:=YD.mp hx;exact⟨j,hj,by rw[ah5 h (rg j hj).1 (rg j hj).2 k0 k5 e]⟩
  ·rintro⟨x,hx,e⟩;have:=rg x hx;exact⟨_,eJ hx,by rw[show x=k by omega]⟩
 ·rw[dP];intro z;obtain⟨x,hx,e⟩:=(bt _ _).mp z;obtain⟨j,hj,rfl⟩:=YD.mp hx;exact hi j (rg j hj).1 (rg j hj).2 e.symm
theorem adF(k:Int):tH [k]=2^k.toNat:=by
 unfold tH;rw[hW,HI,Nat.zero_or];exact AR 2 k.toNat
theorem Uc(h:Nm a b)(k0:0<=k)(k5:k<5):(2:Int)^(nm a b k).toNat=fS a b (2^k.toNat):=by
 rw[<-adF,<-adF];exact ad2 h (ks:=[k]) λx hx=>by rw[YU.mp hx];exact⟨k0,k5⟩
theorem Ry(h:Nm a b)(k0:0<=k)(k5:k<5):jL (fS a b x) (nm a b k)=jL x k:=Ea h k0 k5
theorem Vj:x∈GB.hl n↔(0<=x/\x<63)/\n.toNat.testBit x.toNat=true:=by
 constructor
 ·intro m;obtain⟨h1,h2,h3⟩:=af9 m;exact⟨⟨h1,h2⟩,h3⟩
 ·rintro⟨⟨h1,h2⟩,h3⟩;have:=(GB.VR (n:=n) (h:=x.toNat)).mpr ⟨by omega,h3⟩;rwa [vt h1]at this
theorem aj4(n:Int):(GB.hl n).Pairwise (·<·):=by
 unfold GB.hl;rw[hJ];exact(GB.wX _).imp λh=>by omega
theorem Rq:wM n=true↔0<=n/\n<32:=by
 unfold wM;rw[aw,decide_eq_true_iff,decide_eq_true_iff]
theorem Vi:wH n=true↔0<=n/\n<5:=by
 unfold wH;rw[aw,decide_eq_true_iff,decide_eq_true_iff]
theorem ahY(w:wM n=true)(m:x∈GB.hl n):0<=x/\x<5:=by
 obtain⟨⟨h1,h2⟩,h3⟩:=Vj.mp m;have w:=Rq.mp w;refine⟨h1,FL λz=>?_⟩;have p5:(2:Nat)^5=32:=by decide
 have:n.toNat<2^x.toNat:=YM (show n.toNat<2^5 by omega) (kU ?B ?D);rw[og this]at h3;cases h3
theorem alS(h:Nm a b)(w:wM n=true):GB.hl (fS a b n)=(GB.hl n).map (nm a b):=by
 have u1:=aj4 (fS a b n);have u2:((GB.hl n).map (nm a b)).Pairwise (·<·):=by
  rw[hJ];exact(aj4 n).imp λz=>(aas h).mpr z
 refine List.Perm.eq_of_pairwise (le:=(·<·)) (λx y _ _ h1 h2=>by omega) u1 u2 ?_;refine(kM (u1.imp λz=>by omega) (u2.imp λz=>by omega)).mpr λx=>?_;rw[Vj,abJ,YD];constructor
 ·rintro⟨⟨x0,x1⟩,k,⟨k0,k5⟩,t,e⟩;have:=BZ h k0 k5;exact⟨k,Vj.mpr ⟨⟨k0,by omega⟩,t⟩,by omega⟩
 ·rintro⟨k,m,rfl⟩;have r:=ahY w m;exact⟨BZ h r.1 r.2,k,r,(Vj.mp m).2,rfl⟩
theorem ak2(h:Nm a b){v:Int}(v0:0<=v)(w:wM n=true):PP (fS a b v) (fS a b n)=PP v n:=by
 have wn:=Rq.mp w;have w2:wM (YA v n)=true:=by
  rw[Rq,xr v0 wn.1];have:=FI (n:=v.toNat) (m:=n.toNat);omega
 unfold PP;rw[anf h v0 wn.1,alS h w2,alS h w,Yk,Yk]
theorem ahq(h:Nm a b):nm a b x∈ks.map (nm a b)↔x∈ks:=by
 rw[YD];exact⟨fun⟨y,hy,e⟩=>(Bw h).mp e▸hy,λm=>⟨x,m,rfl⟩⟩
theorem aoR(h:Nm a b)(w:wM hd=true):eno (fS a b hd) (fS a b dd) (ks.map (nm a b))=eno hd dd ks:=by
 unfold eno;rw[alS h w,Yk,AU,Yk];have e1:(∀x∈(GB.hl hd).map (nm a b),(fS a b dd).toNat.testBit x.toNat=true\/x∈ks.map (nm a b))↔∀x∈GB.hl hd,dd.toNat.testBit x.toNat=true\/x∈ks:=by
  constructor
  ·intro z x hx;have r:=ahY w hx;have:=z _ (eJ hx);rwa [Ea h r.1 r.2,ahq h]at this
  ·intro z x hx;obtain⟨y,hy,rfl⟩:=YD.mp hx;have r:=ahY w hy;rw[Ea h r.1 r.2,ahq h];exact z y hy
 have e2:((λx=>decide (x∈ks.map (nm a b)))∘nm a b)=λx=>decide (x∈ks):=funext λx=>decide_eq_decide.mpr (ahq h);rw[e2,decide_eq_decide.mpr e1]
end
section
variable(a b nu:Int)
noncomputable def fB:Option ?S->Option ?S:=CI λq=>(q.1,nm a b q.2)
noncomputable def fP(p:Pn):Pn:=(fS a b p.1,fS a b p.2.1,fS a b p.2.2)
noncomputable def fY:mF->mF:=CI λq=>((q.1.1,nm a b q.1.2),fP a b q.2)
noncomputable def fR(e:Int×Rt×mF):Int×Rt×mF:=(nm a b e.1,(nm a b e.2.1.1,e.2.1.2),fY a b e.2.2)
noncomputable def fC(c:Cg):Cg:=⟨fB a b c.b,fY a b c.y,fS a b c.vo,c.ag.map (fP a b),c.rp.map ?II⟩
noncomputable def fE:Ev->Ev
 | .lst n h o w=>.lst (n+ nu) (fS a b h) (fS a b o) (fS a b w)
 | .out n=>.out (n+ nu)
noncomputable def fQ(q:Int×Int×Cg×Pn):Int×Int×Cg×Pn:=(q.1+ nu,fS a b q.2.1,fC a b q.2.2.1,fP a b q.2.2.2)
noncomputable def fW:Option (Pn×Int)->Option (Pn×Int):=CI λw=>(fP a b w.1,w.2+ nu)
noncomputable def fH(S:Hs):Hs:=⟨nm a b S.me,S.ro,S.nw+ nu,S.st.map (fQ a b nu),fW a b nu S.wb,S.lg.map ?GT,fS a b S.db,fS a b S.nt,S.wo,S.wi⟩
noncomputable def fL(l:Lt):Lt:=⟨nm a b l.me,l.nu+ nu,fP a b l.cb,fB a b l.b,fY a b l.y,fS a b l.vo,l.rp⟩
noncomputable def fT:WT->WT
 | .inn l=>.inn (fL a b nu l)
 | .away me wi wb=>.away ?CC wi (fW a b nu wb)
noncomputable def fO:Op->Op
 | .sus i m=>.sus i (fS a b m)
 | .hrl i T=>.hrl i (fT a b nu T)
 | .ren i=>.ren i
 | .lea i=>.lea i
 | .com i=>.com i
 | .hea i j=>.hea i j
end
section
theorem adD(h:Nm a b)(x y:Option ?S):bgt (fB a b x) (fB a b y)=bgt x y:=by
 cases x with
 |none=>rfl
 |some q=>
  cases y with
  |none=>rfl
  |some r=>
   show HT.gb [r.1,nm a b r.2] [q.1,nm a b q.2]=HT.gb [r.1,r.2] [q.1,q.2];rw[HT.jw,HT.jw,HT.jw,HT.jw];simp only[Bw h,aas h]
theorem alJ(h:Nm a b)(x y:Option ?S):fB a b x=fB a b y↔x=y:=by
 refine⟨λz=>?_,λz=>by rw[z]⟩;cases x with
 |none=>cases y with
  |none=>rfl
  |some r=>cases z
 |some q=>cases y with
  |none=>cases z
  |some r=>
   have z:=YK z;have z1:q.1=r.1:=congrArg (·.1) z;have z2:nm a b q.2=nm a b r.2:=congrArg (·.2) z;rw[Prod.ext z1 ((Bw h).mp z2)]
theorem ajg(y:mF):yb (fY a b y)=fB a b (yb y):=by cases y<;>rfl
theorem aj2(h:Nm a b)(x y:Option ?S):Bl (fB a b x) (fB a b y)=fB a b (Bl x y):=by
 unfold Bl;rw[adD h];split<;>rfl
theorem aoq(h:Nm a b)(x y:Option ?S)(rp:List ?AX):gtR (fB a b x) (fB a b y) (rp.map ?II)=(gtR x y rp).map ?II:=by
 unfold gtR;rw[adD h];split<;>rfl
theorem akG(h:Nm a b)(x:Option ?S)(y:mF)(me:Int):gat (fB a b x) (fY a b y) (nm a b me)=gat x y me:=by
 cases x with
 |none=>rfl
 |some q=>
  show(decide (nm a b q.2=nm a b me)&& !decide (yb (fY a b y)=fB a b (Ya q)))=_;rw[ajg,decide_eq_decide.mpr (Bw h),decide_eq_decide.mpr (alJ h _ _)];rfl
theorem aiE{x:Option ?S}{y:mF}(v0:0<=vo)(v1:0<=vo'):0<=(lO x y vo y' vo' me).2:=by
 unfold lO;split
 ·exact v0
 ·split
  ·show 0<=YQ vo' ?C4;rw[vA v1 (eF _)];exact cc _
  ·split
   ·show 0<=YQ vo vo';rw[vA v0 v1];exact cc _
   ·exact v0
theorem amS(h:Nm a b){x:Option ?S}{y:mF}(v0:0<=vo)(v1:0<=vo')(m0:0<=me)(m5:me<5):
  lO (fB a b x) (fY a b y) (fS a b vo) (fY a b y') (fS a b vo') (nm a b me)=(fY a b (lO x y vo y' vo' me).1,fS a b (lO x y vo y' vo' me).2):=by
 cases y' with
 |none=>rfl
 |some q=>
  show(if fB a b x=fB a b (Ya q.1)/\bgt (fB a b (Ya q.1)) (yb (fY a b y))=true then(fY a b (Ya q),YQ (fS a b vo') (2^(nm a b me).toNat))else if yb (fY a b y)=fB a b (Ya q.1)then(fY a b y,YQ (fS a b vo) (fS a b vo'))else(fY a b y,fS a b vo))=_;rw[ajg,adD h,Uc h m0 m5,X7 h v1 (eF _),X7 h v0 v1];simp only[alJ h];unfold lO;dsimp only;split
  ·rfl
  ·split<;>rfl
theorem ahF(h:Nm a b){y:mF}(v0:0<=vo)(w:wM hd=true):Gy (ag.map (fP a b)) (fY a b y) (fS a b vo) (fS a b hd)=(Gy ag y vo hd).map (fP a b):=by
 cases ag with
 |some p=>rfl
 |none=>
  show(if PP (fS a b vo) (fS a b hd)=true then plY (fY a b y)else Yb)=CI _ (if PP vo hd=true then plY y else Yb);rw[ak2 h v0 w];split
  ·cases y<;>rfl
  ·rfl
theorem ahQ(h:Nm a b)(k:Int)(r:Rt)(y:mF):∀m:List ?AX,Rr (m.map ?II) (nm a b k) ((nm a b r.1,r.2),fY a b y)=(Rr m k (r,y)).map ?II
 |[]=>rfl
 |p::m=>by
  show(if nm a b p.1=nm a b k then(nm a b p.1,((nm a b r.1,r.2),fY a b y))::m.map (fR a b)else fR a b p::Rr (m.map ?II) (nm a b k) ((nm a b r.1,r.2),fY a b y))=(if p.1=k then(p.1,(r,y))::m else p::Rr m k (r,y)).map ?II;rw[ahQ h k r y m];by_cases z:p.1=k
  ·rw[if_pos z,if_pos ((Bw h).mpr z)];rfl
  ·rw[if_neg z,if_neg λw=>z ((Bw h).mp w)];rfl
theorem amR(h:Nm a b){x x':Option ?S}{y1:mF}{me':Int}{v:Option Bool}(ok:x'.isNone=true\/v.isSome=true):
  Ve (fB a b x) (fB a b x') (fY a b y1) ?CC (rp.map ?II) (nm a b me') (v.map λv=>(nm a b me',v)) (fY a b y')=(Ve x x' y1 me rp me' (v.map λv=>(me',v)) y').map ?II:=by
 unfold Ve;rw[aj2 h,aoq h,akG h];simp only[alJ h];by_cases z:x'=Bl x x'/\gat (Bl x x') y1 me=true
 ·rw[if_pos z,if_pos z];cases v with
  |some u=>exact ahQ h me' (me',u) y' _
  |none=>
   rcases ok with o|o
   ·cases x' with
    |none=>rw[<-z.1]at z;cases z.2
    |some q=>cases o
   ·cases o
 ·rw[if_neg z,if_neg z]
theorem afH:wC c=true↔wM c.vo=true/\∀e∈c.rp,0<=e.1/\e.1<5:=by
 unfold wC;rw[aw,List.all_eq_true];exact and_congr_right λ_=>forall_congr' λe=>forall_congr' λ_=>Vi
theorem agA:wL l=true↔(0<=l.me/\l.me<5)/\0<=l.vo/\0<=l.cb.2.1/\(l.b.isNone=true\/l.rp.isSome=true):=by
 unfold wL wP;rw[aw,aw,aw,Vi,decide_eq_true_iff,decide_eq_true_iff,AN,and_assoc,and_assoc]
theorem amG(h:Nm a b)(m0:0<=me)(m5:me<5)(w:wM ha=true)(v0:0<=c.vo)(wl:wL l=true):QS ?CC (fS a b ha) (fC a b c) (fL a b nu l)=fC a b (QS me ha c l):=by
 obtain⟨_,l0,_,ok⟩:=agA.mp wl;unfold QS;show Cg.mk ?CN (lO ?CN (fY a b c.y) (fS a b c.vo) (fY a b l.y) (fS a b l.vo) ?CC).1 (lO ?CN (fY a b c.y) (fS a b c.vo) (fY a b l.y) (fS a b l.vo) ?CC).2 (Gy (c.ag.map (fP a b)) (lO ?CN (fY a b c.y) (fS a b c.vo) (fY a b l.y) (fS a b l.vo) ?CC).1 (lO ?CN (fY a b c.y) (fS a b c.vo) (fY a b l.y) (fS a b l.vo) ?CC).2 (fS a b ha)) (Ve (fB a b c.b) (fB a b l.b) (lO ?CN (fY a b c.y) (fS a b c.vo) (fY a b l.y) (fS a b l.vo) ?CC).1 ?CC (c.rp.map ?II) (nm a b l.me) (l.rp.map λv=>(nm a b l.me,v)) (fY a b l.y))=_;rw[aj2 h,amS h v0 l0 m0 m5];dsimp only;rw[ahF h (aiE v0 l0) w,amR h ok];rfl
theorem acG(h:Nm a b):∀(ys:List mF) (g:mF),Ow (ys.map (fY a b)) (fY a b g)=fY a b (Ow ys g)
 |[],g=>rfl
 |y::ys,g=>by
  show Ow (ys.map (fY a b)) (if bgt (yb (fY a b y)) (yb (fY a b g))=true then fY a b y else fY a b g)=fY a b (Ow ys (if bgt (yb y) (yb g)=true then y else g));rw[ajg,ajg,adD h];split
  ·exact acG h ys y
  ·exact acG h ys g
theorem anp(h:Nm a b)(rp:List ?AX):gOf (rp.map ?II)=fY a b (gOf rp):=by
 unfold gOf;have:=acG h (rp.map (·.2.2)) Yb;rw[<-this,cw,cw];rfl
theorem Im(ns:List Int):0<=tH ns:=cc _
theorem aon(h:Nm a b)(m0:0<=me)(m5:me<5)(h0:0<=ha)(w0:0<=wi)(rg:∀e∈rp,0<=e.1/\e.1<5):plR ?CC (fS a b ha) (rp.map ?II) (fS a b wi)=fP a b (plR me ha rp wi):=by
 have e1:(rp.map ?II).map (·.1)=(rp.map (·.1)).map (nm a b):=by rw[cw,cw];rfl
 have e2:((rp.map ?II).filter λe=>!e.2.1.2).map (·.1)=((rp.filter λe=>!e.2.1.2).map (·.1)).map (nm a b):=by rw[AU,cw,cw];rfl
 have r1:∀k∈rp.map (·.1),0<=k/\k<5:=λk hk=>by obtain⟨e,he,rfl⟩:=YD.mp hk;exact rg e he
 have r2:∀k∈(rp.filter λe=>!e.2.1.2).map (·.1),0<=k/\k<5:=λk hk=>by obtain⟨e,he,rfl⟩:=YD.mp hk;exact rg e (Y9.mp he).1
 have n0:0<=YQ (tH ((rp.filter λe=>!e.2.1.2).map (·.1))) ?C4:=by
  rw[vA (Im _) (eF _)];exact cc _
 unfold plR;rw[e1,e2,ad2 h r1,ad2 h r2,Uc h m0 m5,adn h w0 h0,X7 h (Im _) (eF _),X7 h n0 (tY w0 h0).1];rfl
theorem ajp(h:Nm a b)(w:wM hd=true):Fv ?CC (fS a b hd) (fS a b dd) (fC a b c)=Fv me hd dd c:=by
 unfold Fv;show(gat (fB a b c.b) (fY a b c.y) ?CC&&eno (fS a b hd) (fS a b dd) ((c.rp.map ?II).map (·.1)))=_;rw[show(c.rp.map ?II).map (·.1)=(c.rp.map (·.1)).map (nm a b) by rw[cw,cw];rfl,akG h,aoR h w]
theorem ank(h:Nm a b)(m0:0<=me)(m5:me<5)(w:wM hd=true)(w0:0<=wi)(wc:wC c=true):Og ?CC (fS a b hd) (fS a b dd) (fS a b wi) (fC a b c)=fC a b (Og me hd dd wi c):=by
 obtain⟨v,rg⟩:=afH.mp wc;unfold Og;rw[ajp h w];by_cases z:Fv me hd dd c=true
 ·rw[if_pos z,if_pos z];obtain⟨q,eb⟩:∃q,c.b=Ya q:=by
   cases e:c.b with
   |some q=>exact⟨q,rfl⟩
   |none=>
    unfold Fv at z;rw[e]at z;cases z
  have ep:J3 ?CC (fS a b hd) (fS a b wi) (fC a b c)=fP a b (J3 me hd wi c):=by
   unfold J3;show(match gOf (c.rp.map ?II)with
    |none=>_
    |some g=>_)=_
   rw[anp h];cases gOf c.rp with
   |none=>exact aon h m0 m5 (Rq.mp w).1 w0 rg
   |some g=>rfl
  have eg:(fC a b c).b.getD (0,0)=((c.b.getD (0,0)).1,nm a b (c.b.getD (0,0)).2):=by
   show(fB a b c.b).getD (0,0)=_;rw[eb];rfl
  have es:=ahF h (ag:=c.ag) (y:=Ya ?D6) (vo:=2^me.toNat) (eF _) w;rw[ep,eg,Uc h m0 m5];show Cg.mk _ _ _ (Gy (c.ag.map (fP a b)) (fY a b (Ya ?D6)) _ _) _=_;rw[es];rfl
 ·rw[if_neg z,if_neg z]
end
section
theorem aoj:mxI (x+ nu) (y+ nu)=mxI x y+ nu:=by
 unfold mxI;split<;>split<;>omega
theorem abG:fS a b 0=0:=rfl
theorem aov:fC a b cg0=cg0:=rfl
theorem ahs(h:Nm a b)(t0:0<=S.nt)(p0:0<=pl.2.1):Mu ?AT (n+ nu) (fP a b pl)=fH a b nu (Mu S n pl):=by
 show Hs.mk ?GP S.ro (mxI (S.nw+ nu) (n+ nu)) (Ya (n+ nu,fS a b pl.2.1,cg0,fP a b pl)) Yb (S.lg.map ?GT++[Ev.lst (n+ nu) (fS a b pl.2.1) (fS a b pl.1) (fS a b pl.2.2)]) (fS a b S.db) (YA (fS a b S.nt) (YC (fS a b pl.2.1))) S.wo false=Hs.mk ?GP S.ro (mxI S.nw n+ nu) (Ya (n+ nu,fS a b pl.2.1,fC a b cg0,fP a b pl)) Yb ((S.lg++[Ev.lst n pl.2.1 pl.1 pl.2.2]).map ?GT) (fS a b S.db) (fS a b (YA S.nt (YC pl.2.1))) S.wo false;rw[aoj,adn h t0 p0,YG,aov];rfl
theorem akD:Jf ?AT (n+ nu)=fH a b nu (Jf S n):=by
 show Hs.mk ?GP S.ro (S.nw+ nu) Yb (fW a b nu S.wb) (S.lg.map ?GT++[Ev.out (n+ nu)]) (fS a b S.db) (fS a b S.nt) false S.wi=Hs.mk ?GP S.ro (S.nw+ nu) Yb (fW a b nu S.wb) ((S.lg++[Ev.out n]).map ?GT) (fS a b S.db) (fS a b S.nt) false S.wi;rw[YG];rfl
theorem amL(h:Nm a b)(m:0<=S.me/\S.me<5)(t0:0<=S.nt)(p0:0<=pl.2.1):Ou ?AT (n+ nu) (fP a b pl)=fH a b nu (Ou S n pl):=by
 unfold Ou;show(if(jL (fS a b pl.1) ?GP&&jL (fS a b pl.2.1) ?GP)=true then Mu ?AT (n+ nu+ 1) (fP a b pl)else{Jf ?AT (n+ nu)with wb:=Ya (fP a b pl,n+ nu)})=_;rw[Ry h m.1 m.2,Ry h m.1 m.2,show n+ nu+ 1=(n+ 1)+ nu by omega,ahs h t0 p0,akD];split<;>rfl
theorem LK:wS S=true↔(0<=S.me/\S.me<5)/\0<=S.nt/\0<=S.db/\∀q,S.st=Ya q->wM q.2.1=true/\wC q.2.2.1=true:=by
 unfold wS;rw[aw,aw,aw,Vi,decide_eq_true_iff,decide_eq_true_iff,and_assoc,and_assoc];refine and_congr_right λ_=>and_congr_right λ_=>and_congr_right λ_=>?_;cases S.st with
 |none=>exact⟨λ_ _ z=>(nomatch z),λ_=>rfl⟩
 |some q=>
  show(wM q.2.1&&wC q.2.2.1)=true↔_;rw[aw];exact⟨λz _ e=>by cases e;exact z,λz=>z q rfl⟩
theorem jN(e:S.st=Ya q):(fH a b nu S).st=Ya (fQ a b nu q):=by
 show S.st.map _=_;rw[e];rfl
theorem uh(e:S.st=Yb):(fH a b nu S).st=none:=by
 show S.st.map _=_;rw[e];rfl
theorem afK(h:Nm a b)(k:ae0 S=true):Aw (fH a b nu S)=fH a b nu (Aw S):=by
 unfold ae0 at k;obtain⟨w,k⟩:=Yj.mp k;obtain⟨m,t0,d0,sq⟩:=LK.mp w;cases es:S.st with
 |none=>
  unfold Aw;rw[es,uh es]
 |some q=>
  obtain⟨wm,wc⟩:=sq q es;rw[es]at k;have n0:=(tY t0 d0).1;have ep:Og ?GP (fS a b q.2.1) (fS a b S.db) (YA (fS a b S.nt) (YC (fS a b S.db))) (fC a b q.2.2.1)=fC a b (Og S.me q.2.1 S.db ?IG q.2.2.1):=by
   rw[adn h t0 d0];exact ank h m.1 m.2 wm n0 wc
  unfold Aw;rw[es,jN es];show(match(Og ?GP (fS a b q.2.1) (fS a b S.db) (YA (fS a b S.nt) (YC (fS a b S.db))) (fC a b q.2.2.1)).ag with
   |none=>({fH a b nu S with st:=Ya ?CO}:Hs)
   |some pl=>Ou {fH a b nu S with st:=Ya ?CO} (q.1+ nu) pl)=_
  rw[ep];dsimp only at k⊢;generalize Og S.me q.2.1 S.db ?IG q.2.2.1=c1 at k;have ea:(fC a b c1).ag=c1.ag.map (fP a b):=rfl;rw[ea];cases e:c1.ag with
  |none=>rfl
  |some pl=>
   rw[e]at k;exact amL h (S:={S with st:=Ya (q.1,q.2.1,c1,q.2.2.2)}) m t0 (of_decide_eq_true k)
theorem anh:abj ?AT (fC a b c) 1=fC a b (abj S c 1):=by
 show Cg.mk (Ya (bl (fB a b c.b)+ 1,nm a b S.me)) _ _ _ _=Cg.mk (Ya (bl c.b+ 1,nm a b S.me)) _ _ _ _;rw[show bl (fB a b c.b)=bl c.b by cases c.b<;>rfl];rfl
theorem an3(h:Nm a b)(k:ams S=true):Lr ?AT 1=fH a b nu (Lr S 1):=by
 unfold ams at k;obtain⟨w,k⟩:=Yj.mp k;cases es:S.st with
 |none=>rw[es]at k;cases k
 |some q=>
  rw[es]at k;unfold Lr;rw[es,jN es];show Aw {fH a b nu S with st:=Ya (q.1+ nu,fS a b q.2.1,abj ?AT (fC a b q.2.2.1) 1,fP a b q.2.2.2)}=_;rw[anh];exact afK h k
theorem aoa(h:Nm a b){m:Int}(k:ale S m=true):Vr ?AT (fS a b m)=fH a b nu (Vr S m):=by
 unfold ale at k;obtain⟨w,k⟩:=Yj.mp k;obtain⟨w,m0⟩:=Yj.mp w;obtain⟨r,_⟩:=LK.mp w;unfold Vr;show Aw {fH a b nu S with db:=YA (fS a b m) (YC (2^(nm a b S.me).toNat))}=_;rw[Uc h r.1 r.2,adn h (of_decide_eq_true m0) (eF _)];exact afK h k
theorem aok(h:Nm a b)(m:0<=S.me/\S.me<5)(t0:0<=S.nt)(p0:0<=l.cb.2.1):QJ ?AT (fL a b nu l)=fH a b nu (QJ S l):=by
 unfold QJ;show(if(decide (l.nu+ nu>S.nw+ nu)&&jL (fS a b l.cb.2.2) ?GP)=true then Mu ?AT (l.nu+ nu) (fP a b l.cb)else fH a b nu S)=_;rw[Ry h m.1 m.2,show decide (l.nu+ nu>S.nw+ nu)=decide (l.nu>S.nw)from decide_eq_decide.mpr ?D,ahs h t0 p0];split<;>rfl
theorem apj:RT ?AT (n+ nu)=fH a b nu (RT S n):=by
 unfold RT;cases es:S.st with
 |none=>rw[uh es]
 |some q=>
  rw[jN es];show(if q.1+ nu<n+ nu-1 then Jf ?AT (q.1+ nu)else fH a b nu S)=fH a b nu (if q.1<n-1 then Jf S q.1 else S);rw[akD];by_cases z:q.1<n-1
  ·rw[if_pos z,if_pos ?D]
  ·rw[if_neg z,if_neg ?D]
theorem apE(h:Nm a b)(w:wS S=true)(p0:0<=l.cb.2.1):W5 ?AT (fL a b nu l)=fH a b nu (W5 S l):=by
 obtain⟨m,t0,_⟩:=LK.mp w;unfold W5;cases es:S.st with
 |none=>rw[uh es];exact aok h m t0 p0
 |some q=>
  rw[jN es];show(if q.1+ nu=l.nu+ nu-1 then Ou ?AT (q.1+ nu) (fP a b l.cb)else fH a b nu S)=fH a b nu (if q.1=l.nu-1 then Ou S q.1 l.cb else S);rw[amL h m t0 p0];by_cases z:q.1=l.nu-1
  ·rw[if_pos z,if_pos ?D]
  ·rw[if_neg z,if_neg ?D]
theorem apW(h:Nm a b)(k:akX S l=true)(wl:wL l=true):h3S ?AT (fL a b nu l)=fH a b nu (h3S S l):=by
 unfold akX at k;obtain⟨w,k⟩:=Yj.mp k;obtain⟨m,_,_,sq⟩:=LK.mp w;unfold h3S;cases es:S.st with
 |none=>rw[uh es]
 |some q=>
  obtain⟨wm,wc⟩:=sq q es;rw[es]at k;have k:(if q.1=l.nu then ae0 {S with st:=Ya ?DC}else true)=true:=k;rw[jN es];show(if q.1+ nu=l.nu+ nu then RM ?AT (fL a b nu l)else fH a b nu S)=fH a b nu (if q.1=l.nu then RM S l else S);by_cases z:q.1=l.nu
  ·rw[if_pos z]at k;rw[if_pos z,if_pos ?D];unfold RM;rw[es,jN es];show Aw {fH a b nu S with st:=Ya (q.1+ nu,fS a b q.2.1,QS ?GP (fS a b q.2.1) (fC a b q.2.2.1) (fL a b nu l),fP a b q.2.2.2)}=_;rw[amG h m.1 m.2 wm (Rq.mp (afH.mp wc).1).1 wl];exact afK h k
  ·rw[if_neg z,if_neg ?D]
theorem aoH(h:Nm a b)(w:wS S=true)(p0:∀u,wb=Ya u->0<=u.1.2.1):ue ?AT (fW a b nu wb)=fH a b nu (ue S wb):=by
 obtain⟨m,t0,_⟩:=LK.mp w;cases wb with
 |none=>rfl
 |some u=>
  unfold ue;show(match(fH a b nu S).st with
   |none=>fH a b nu S
   |some q=>if q.1=u.2+ nu then Ou ?AT q.1 (fP a b u.1)else fH a b nu S)=_
  cases es:S.st with
  |none=>rw[uh es]
  |some q=>
   rw[jN es];show(if q.1+ nu=u.2+ nu then Ou ?AT (q.1+ nu) (fP a b u.1)else fH a b nu S)=fH a b nu (if q.1=u.2 then Ou S q.1 u.1 else S);rw[amL h m t0 (p0 u rfl)];by_cases z:q.1=u.2
   ·rw[if_pos z,if_pos ?D]
   ·rw[if_neg z,if_neg ?D]
theorem aou(h:Nm a b){wi:Bool}(m:0<=me/\me<5)(w:wS S=true)(w1:wS (ue S wb)=true)(p0:∀u,wb=Ya u->0<=u.1.2.1):Lj ?AT ?CC wi (fW a b nu wb)=fH a b nu (Lj S me wi wb):=by
 unfold Lj;rw[aoH h w p0];obtain⟨_,t0,_⟩:=LK.mp w1;generalize ue S wb=U at t0;cases es:U.st with
 |none=>rw[uh es]
 |some q=>
  rw[jN es];show(if(wi&& !jL (fS a b q.2.1) ?CC)=true then({fH a b nu U with nt:=YQ (fS a b U.nt) (2^(nm a b me).toNat)}:Hs)else fH a b nu U)=fH a b nu (if(wi&& !jL q.2.1 me)=true then{U with nt:=YQ U.nt ?C4}else U);rw[Ry h m.1 m.2,Uc h m.1 m.2,X7 h t0 (eF _)];split<;>rfl
theorem akc:Ec (fH a b nu S)=fT a b nu (Ec S):=by
 unfold Ec;cases es:S.st with
 |none=>rw[uh es];rfl
 |some q=>
  rw[jN es];show WT.inn ⟨nm a b S.me,q.1+ nu,fP a b q.2.2.2,fB a b q.2.2.1.b,fY a b q.2.2.1.y,fS a b q.2.2.1.vo,if fB a b q.2.2.1.b=Yb then Yb else Ya S.wo⟩=WT.inn ⟨nm a b S.me,q.1+ nu,fP a b q.2.2.2,fB a b q.2.2.1.b,fY a b q.2.2.1.y,fS a b q.2.2.1.vo,if q.2.2.1.b=Yb then Yb else Ya S.wo⟩;rw[show(if fB a b q.2.2.1.b=Yb then Yb else Ya S.wo)=if q.2.2.1.b=Yb then Yb else Ya S.wo by cases q.2.2.1.b<;>rfl]
theorem aj1(h:Nm a b)(k:adO S T=true):Jl ?AT (fT a b nu T)=fH a b nu (Jl S T):=by
 unfold adO at k;obtain⟨w0,k⟩:=Yj.mp k;obtain⟨w,wt⟩:=Yj.mp w0;clear w0;cases T with
 |inn l=>
  obtain⟨k1,k2⟩:=Yj.mp k;have wt:wL l=true:=wt;obtain⟨_,_,p0,_⟩:=agA.mp wt;show(if nm a b l.me=nm a b S.me then fH a b nu S else Ol ?AT (fL a b nu l))=fH a b nu (if l.me=S.me then S else Ol S l);have e:Ol ?AT (fL a b nu l)=fH a b nu (Ol S l):=by
   unfold Ol;rw[show(fL a b nu l).nu=l.nu+ nu from rfl,apj,apE h k1 p0,apW h k2 wt];show({fH a b nu (h3S ?DD l)with nw:=mxI ((h3S ?DD l).nw+ nu) (l.nu+ nu)}:Hs)=_;rw[aoj];rfl
  rw[e];by_cases z:l.me=S.me
  ·rw[if_pos z,if_pos ((Bw h).mpr z)]
  ·rw[if_neg z,if_neg λy=>z ((Bw h).mp y)]
 |away me wi wb=>
  obtain⟨wm,wp⟩:=Yj.mp wt;have p0:∀u,wb=Ya u->0<=u.1.2.1:=λu e=>by rw[e]at wp;exact of_decide_eq_true wp
  show(if nm a b me=nm a b S.me then fH a b nu S else Lj ?AT ?CC wi (fW a b nu wb))=fH a b nu (if me=S.me then S else Lj S me wi wb);rw[aou h (Vi.mp wm) w k p0];by_cases z:me=S.me
  ·rw[if_pos z,if_pos ((Bw h).mpr z)]
  ·rw[if_neg z,if_neg λy=>z ((Bw h).mp y)]
theorem kj(h:i<L.length):gL (L.map ?W) i=fH a b nu ?EP:=by
 unfold gL;rw[YO,YO,Yw,Yv h];rfl
theorem afO(h:Nm a b){o:Op}(k:vU L o=true):cz (L.map ?W) (fO a b nu o)=(cz L o).map ?W:=by
 cases o with
 |ren i=>
  obtain⟨k1,k2⟩:=Yj.mp k;show(L.map ?W).set i (Lr (gL (L.map ?W) i) 1)=(L.set i (Lr ?EP 1)).map ?W;rw[kj ?CQ,an3 h k2,oT]
 |sus i m=>
  obtain⟨k1,k2⟩:=Yj.mp k;show(L.map ?W).set i (Vr (gL (L.map ?W) i) (fS a b m))=(L.set i (Vr ?EP m)).map ?W;rw[kj ?CQ,aoa h k2,oT]
 |lea i=>
  obtain⟨k1,k2⟩:=Yj.mp k;show(L.map ?W).set i (ahE (gL (L.map ?W) i))=(L.set i (ahE ?EP)).map ?W;rw[kj ?CQ,oT];rfl
 |com i=>
  obtain⟨k1,k2⟩:=Yj.mp k;show(L.map ?W).set i (ceS (gL (L.map ?W) i))=(L.set i (ceS ?EP)).map ?W;rw[kj ?CQ,oT];rfl
 |hea i j=>
  obtain⟨k1,k2⟩:=Yj.mp k;obtain⟨k0,k1⟩:=Yj.mp k1;show(L.map ?W).set i (Jl (gL (L.map ?W) i) (Ec (gL (L.map ?W) j)))=(L.set i (Jl ?EP (Ec (gL L j)))).map ?W;rw[kj (of_decide_eq_true k0),kj ?CQ,akc,aj1 h k2,oT]
 |hrl i T=>
  obtain⟨k1,k2⟩:=Yj.mp k;show(L.map ?W).set i (Jl (gL (L.map ?W) i) (fT a b nu T))=(L.set i (Jl ?EP T)).map ?W;rw[kj ?CQ,aj1 h k2,oT]
theorem aho(h:Nm a b):∀{os:List Op} {L:List Hs},rW L os=true->iy (L.map ?W) (os.map (fO a b nu))=(iy L os).map ?W
 |[],_,_=>rfl
 |o::os,L,k=>by
  obtain⟨k1,k2⟩:=Yj.mp k;show iy (cz (L.map ?W) (fO a b nu o)) (os.map (fO a b nu))=(iy (cz L o) os).map ?W;rw[afO h k1];exact aho h k2
end
def Wn(K:Yd)(mg:Ym->Option Ye)(Pt:Yc)(H:Hp)(ps:List Yc)(stt:Nat->Hs)(ls:List (Yc×HO)):Prop:=∃W,Wd K mg Pt H W ls/\W.map (·.p)=ps/\∀(i:Nat) (w:WE),W[i]?=Ya w->w.S=stt i
noncomputable def aaI(f:Nat->Hs)(i:Nat)(S:Hs):Nat->Hs:=λj=>if j=i then S else f j
section
theorem Wn.same(D:Wn K mg Pt H ps stt ls)(s:aW H H'):Wn K mg Pt H' ps stt ls:=by
 obtain⟨W,d,e,f⟩:=D;exact⟨W,d.same s,e,f⟩
theorem Wn.add(D:Wn K mg Pt H ps stt ls)(s:aW H H'){l:Yc}(hl:H l=Yb)(g:H' l=Ya o):Wn K mg Pt H' ps stt ((l,o)::ls):=by
 obtain⟨W,d,e,f⟩:=D;exact⟨W,d.add s hl g,e,f⟩
theorem Wn.less(D:Wn K mg Pt H ps stt ls)(m:∀e∈ls',e∈ls):Wn K mg Pt H ps stt ls':=by
 obtain⟨W,d,e,f⟩:=D;exact⟨W,d.less m,e,f⟩
theorem Wn.at(D:Wn K mg Pt H ps stt ls){e:Yc×HO}(h:e∈ls):H e.1=Ya e.2:=by
 obtain⟨W,d,_⟩:=D;exact(d.ls e h).1
theorem Wn.st{stt':Nat->Hs}(D:Wn K mg Pt H ps stt ls)(h:∀i,i<ps.length->stt i=stt' i):Wn K mg Pt H ps stt' ls:=by
 obtain⟨W,d,e,f⟩:=D;refine⟨W,d,e,λi w hw=>?_⟩;rw[f i w hw];refine h i ?_;rw[<-e,Yk];exact(Ys.mp hw).1
theorem Wn.get(D:Wn K mg Pt H ps stt ls)(hi:ps[i]?=Ya p):∃F x,j6 K mg H F p (stt i) x/\¬ F Pt/\eX Pt H/\∀S' H',Rs K mg Pt F H p S' H'->Wn K mg Pt H' ps (aaI stt i S') ls:=by
 obtain⟨W,d,e,f⟩:=D;rw[<-e,Yw]at hi;obtain⟨w,hw,ew⟩:=af.mp hi;have hA:=d.hd i w hw;rw[f i w hw,ew]at hA;refine⟨w.F,w.x,hA,d.nP i w hw,d.tb,λS' H' r=>?_⟩;rw[<-ew]at r;obtain⟨G,x',d'⟩:=d.step hw r;have il:=(Ys.mp hw).1;refine⟨_,d',?_,λj u hu=>?_⟩
 ·rw[<-e,oT];refine sg λj=>?_;rw[xS];split
  ·next z=>
   subst z;rw[Yk,if_pos il,Yw,hw];rfl
  ·rfl
 ·unfold aaI;rcases pW hu with⟨rfl,rfl⟩|⟨n,hu⟩
  ·rw[if_pos rfl]
  ·rw[if_neg n];exact f j u hu
end
noncomputable def rP(a b:Int)(n:Nat):List Int:=(cq n).map fun(k:Nat)=>a+ (k:Int)*b
def GP(K:Yd):Sp:=λvs H Q _=>E2 fun(c n:Int)=>vs=[.int c,.int n]/\(A3 (3<=n) (n<=5) (∀H' l a b,aW H H'->H l=Yb->0<=a->a<40->1<=b->b<=5->H' l=Ya (.lst ((rP a b n.toNat).map V.int))->Q (.ref l) H'))
abbrev X3:List Ym:=["_law_cell","_law_amount"]
theorem Sh:aF ["_law_cell","_law_amount"] X3 (az z6):=iw
include eV mR in
theorem S8(F:cB K "_law_hands" "_law_hands" z6 f fd):∅ 1 f fd X3 (GP K):=by
 refine F.oj Sh ?_;rintro _ A _ _ H _ _ _ _ _ _ _ ⟨c,n,rfl,h⟩;refine⟨_,(aq (aX (cP ["_law_cell","_law_k"] [Ya 0,Yb] rfl rfl ?J (uw rfl mR ?B0) ?AD ?AA (λ_ _ _ _ _=>(bU jH (bU vJ ?Q aB) (bU afU ?AU (bU jH aB (bU vJ (bU Ph ?Q aB) aB)))))))),?_⟩;obtain⟨h0,h1,kk⟩:=h;obtain⟨N,rfl⟩:=fg (show 0<=n by omega);have a0:=nX c (show(40:Int)≠0 by decide);have a1:=ku c (show(0:Int)<40 by decide);have b0:=nX (c / 40) (show(5:Int)≠0 by decide);have b1:=ku (c / 40) (show(0:Int)<5 by decide);cbv;refine⟨_,rfl,by omega,by omega,λD hD=>?_⟩;refine Iz (λi σ A=>∃v,A3 (σ=[Ya (.int c),v]) (aW H A) (A D=Ya (.lst ((rP (c%40) (1+ c / 40%5) i).map V.int)))) ⟨Yb,rfl,aH hD,aA⟩ ?_ ?_
 ·rintro i σ A hi ⟨v,rfl,sA,gA⟩;have hi:i<N:=by simpa using hi
  have m1:ahK (0+ (i:Int)) (1+ c / 40%5):=.inl ⟨by omega,by omega⟩;cbv;refine⟨_,gA,?_,_,rfl,λb o z=>?_,?_⟩
  ·rw[Yk];unfold rP;rw[Yk,cK];exact bx ?D
  ·rw[aQ (bB z hD)];exact sA b o z
  ·rw[aA];unfold rP;rw[qB,YG,YG,mM];rfl
 rintro σ A ⟨v,rfl,sA,gA⟩;cbv;exact kk A D _ _ sA hD a0 a1 ?D ?D gA
noncomputable abbrev DG(R:List Nat):List V:=R.map fun(i:Nat)=>V.int (i:Int)
theorem Ii(a b:Int)(n:Nat):rP a b n=(cq n).map fun(k:Nat)=>nm a b k:=rfl
theorem V0(S:Hs):(Aw S).lg.length<=S.lg.length+ 1:=by
 unfold Aw;split
 ·omega
 ·split
  ·exact gx _
  ·exact kg (QX _ _ _).2
theorem aiS(S:Hs)(m:Int):(Lr S m).lg.length<=S.lg.length+ 1:=by
 unfold Lr;split
 ·omega
 ·exact V0 _
theorem akL(S:Hs)(l:Lt):(h3S S l).lg.length<=S.lg.length+ 1:=by
 unfold h3S;split
 ·omega
 ·split
  ·unfold RM;split
   ·omega
   ·exact V0 _
  ·omega
theorem acV(S:Hs)(T:WT):(Jl S T).lg.length<=S.lg.length+ 3:=by
 cases T with
 |inn l=>
  show(if l.me=S.me then S else Ol S l).lg.length<=_;split
  ·omega
  ·have h1:=(afF S l.nu).2;have h2:=(agS (RT S l.nu) l).2;have h3:=akL ?DD l;show(h3S ?DD l).lg.length<=_;omega
 |away me wi wb=>
  show(if me=S.me then S else Lj S me wi wb).lg.length<=_;split
  ·omega
  ·have h1:=(ac4 S wb).2;unfold Lj;split
   ·omega
   ·split
    ·show(ue S wb).lg.length<=_;omega
    ·omega
theorem acz(h:i<L.length):gL (L.set i S)=aaI (gL L) i S:=funext λj=>by
 show(L.set i S).getD j hz=if j=i then S else L.getD j hz
 rw[YO,YO,xS];by_cases z:i=j
 ·subst z;rw[if_pos rfl,if_pos h,if_pos rfl];rfl
 ·rw[if_neg z,if_neg λy=>z y.symm]
structure Sc(K:Yd)(mg:Ym->Option Ye)(Pt:Yc)(H:Hp)(ps:List Yc)(L:List Hs)(ls:List (Yc×HO))(m:Nat):Prop where
 D:Wn K mg Pt H ps (gL L) ls
 e:ps.length=L.length
 lb:∀i,(gL L i).lg.length<=m
variable{e:Ev}
section
variable{m:Nat}
theorem Sc.same(h:Sc K mg Pt H ps L ls m)(s:aW H H'):Sc K mg Pt H' ps L ls m:=⟨h.D.same s,h.e,h.lb⟩
theorem Sc.add(h:Sc K mg Pt H ps L ls m)(s:aW H H'){l:Yc}(hl:H l=Yb)(g:H' l=Ya o):Sc K mg Pt H' ps L ((l,o)::ls) m:=⟨h.D.add s hl g,h.e,h.lb⟩
theorem Sc.up(h:Sc K mg Pt H ps L ls m){m':Nat}(le:m<=m'):Sc K mg Pt H ps L ls m':=⟨h.D,h.e,λi=>bP (h.lb i) le⟩
theorem Sc.less(h:Sc K mg Pt H ps L ls m)(s:∀e∈ls',e∈ls):Sc K mg Pt H ps L ls' m:=⟨h.D.less s,h.e,h.lb⟩
theorem Sc.get(h:Sc K mg Pt H ps L ls m)(hi:i<L.length):∃p F x,?Z[i]?=Ya (V.ref p)/\j6 K mg H F p ?EP x/\¬ F Pt/\eX Pt H/\∀S' H',S'.lg.length<=(gL L i).lg.length+ 3->Rs K mg Pt F H p S' H'->Sc K mg Pt H' ps (L.set i S') ls (m+ 3):=by
 obtain⟨p,hp⟩:∃p,ps[i]?=Ya p:=⟨_,Yv (h.e▸hi)⟩;obtain⟨F,x,HP,nP,tb,cz⟩:=h.D.get hp;refine⟨p,F,x,by rw[Yw,hp];rfl,HP,nP,tb,λS' H' hl r=>⟨?_,by rw[GO];exact h.e,λj=>?_⟩⟩
 ·rw[acz hi];exact cz S' H' r
 ·rw[acz hi];unfold aaI;split
  ·have:=h.lb i;omega
  ·have:=h.lb j;omega
theorem cX(L:List Hs)(o:Op):(cz L o).length=L.length:=by cases o<;>exact GO
theorem j8(os:List Op):∀L:List Hs,(iy L os).length=L.length:=by
 induction os with
 |nil=>intro L;rfl
 |cons o os ih=>intro L;exact(ih (cz L o)).trans (cX L o)
theorem uY(L:List Hs)(x y:List Op):iy L (x++y)=iy (iy L x) y:=xI
end
def vf(K:Yd)(mg:Ym->Option Ye):Sp:=λvs H Q _=>∃(p:Yc),vs=?CD/\(E4 λF S x q=>A4 ?AP (S.st=Ya q) (q.2.2.1.b=Yb) (Q .non H))
theorem Ib:aF ["self"] aZ (az oG):=iw
variable(wK:∅ 1 nD mU aZ (mD K mg))(vN:∅ 1 rQ qt aZ (qI K mg))
include eV wK jb vN mJ aC aD d8 cT in
theorem Ie(F:cB K "check_free" "Hand.check_free" oG f fd):∅ 2 f fd aZ (vf K mg):=by
 refine F.oj Ib ?_;rintro _ A _ _ H _ _ _ hr _ _ _ ⟨p,rfl,h⟩;refine⟨_,(ak (aP (bh (cj.cons aC.cl d8 vN mJ cj.nil) ?Q hr))
   (aq (cZ (bL mQ (bh (cj.cons aC.cl cT wK jb cj.nil) ?Q hr) cA ?BM) (aq cJ) bN))),?_⟩
 obtain⟨F',S,x,q,HA,es,eb,kk⟩:=h;have hob:∀{A:Hp} {x1:Ng} {S1:Hs} {F1:Yc->Prop},j6 K mg A F1 p S1 x1->x1.C=bf:=λh=>by have:=h.mH;rw[aD]at this;cases this;rfl
 have hp:=HA.ob;rw[hob HA]at hp;cbv;refine⟨p,rfl,F',S,x,HA,(by rw[es];intro z;cases z),?_⟩;cbv;refine⟨p,rfl,F',S,x,HA,λv bv=>?_⟩;rw[es]at bv;have bv:BaV H v q.2.2.1.b:=bv;rw[eb]at bv;obtain rfl:v=.non:=bv;cbv;exact kk
def qT(K:Yd)(mg:Ym->Option Ye)(P_mk:Yc):Sp:=λvs H Q _=>∃(p:Yc),vs=?CD/\(E4 λF S x q=>A6 ?AP (S.st=Ya q) (q.2.2.1.b=Yb) (eX P_mk H) (¬ F P_mk) (∀H',Rs K mg P_mk F H p (ahE S) H'->Q .non H'))
theorem Sx:aF ["self"] aZ (az An):=iw
variable{xn:Yc}{vH:Yt}(wu:∅ 2 xn vH aZ (vf K mg))(ww:Binds K vH aZ [])(gY:bY K bf "check_free" xn)
include eV wu ww aC aD gY in
theorem RV(F:cB K "leave" "Hand.leave" An f fd):∅ 3 f fd aZ (qT K mg P_mk):=by
 refine F.oj Sx ?_;rintro _ A _ _ H _ _ _ hr _ _ _ ⟨p,rfl,h⟩;refine⟨_,(ak (aP (bh (cj.cons aC.cl gY wu ww cj.nil) ?Q hr))
   (aq ?D2)),?_⟩
 obtain⟨F',S,x,q,HA,es,eb,tb,nP,kk⟩:=h;have hob:∀{A:Hp} {x1:Ng} {S1:Hs} {F1:Yc->Prop},j6 K mg A F1 p S1 x1->x1.C=bf:=λh=>by have:=h.mH;rw[aD]at this;cases this;rfl
 have hp:=HA.ob;rw[hob HA]at hp;obtain⟨cl,n1,n2,n3,n4,n5,n6,n7,n8,n9,n10,n11,n12,n13,n14⟩:=id aC;cbv;refine⟨p,rfl,F',S,x,q,HA,es,eb,?_⟩;cbv;intro H1 b1 g1;rw[adh]at g1;have k1:my H H1:=λa xs e=>b1.at ?CB e;obtain⟨o1,HB⟩:=HA.fld (S':=ahE S) (x':=x) b1 (by rw[hob HA];exact g1) ⟨rfl,rfl,rfl,rfl,rfl,rfl,rfl,rfl,rfl⟩ ⟨rfl,rfl,rfl,rfl⟩ (k1 _ _ HA.pa) (HA.wb.up k1) HA.wp HA.d0 HA.t0;exact kk H1 ⟨o1.mono λa z=>.inl z,eX.off tb o1 nP,F',x,HB,.self⟩
def tZ(K:Yd)(mg:Ym->Option Ye)(P_mk:Yc):Sp:=λvs H Q _=>∃(p:Yc),vs=?CD/\(E3 λF S x=>A5 ?AP (S.st=Yb) (eX P_mk H) (¬ F P_mk) (∀H',Rs K mg P_mk F H p (ceS S) H'->Q .non H'))
theorem Wz:aF ["self"] aZ (az DK):=iw
include eV aC aD in
theorem Vz(F:cB K "come" "Hand.come" DK f fd):∅ 1 f fd aZ (tZ K mg P_mk):=by
 refine F.oj Wz ?_;rintro _ A _ _ H _ _ _ _ _ _ _ ⟨p,rfl,h⟩;refine⟨_,(ak (cZ (bL mQ ?A cA ?BM) (aq cJ) bN)
   (aq ?D2)),?_⟩
 obtain⟨F',S,x,HA,es,tb,nP,kk⟩:=h;have hob:∀{A:Hp} {x1:Ng} {S1:Hs} {F1:Yc->Prop},j6 K mg A F1 p S1 x1->x1.C=bf:=λh=>by have:=h.mH;rw[aD]at this;cases this;rfl
 have hp:=HA.ob;rw[hob HA]at hp;obtain⟨cl,n1,n2,n3,n4,n5,n6,n7,n8,n9,n10,n11,n12,n13,n14⟩:=id aC;have st:=HA.st;rw[es]at st;obtain⟨q1,q2,q3⟩:=st;rw[q1,q2,q3]at hp;cbv;rw[show decide (V.non=V.non)=true from decide_eq_true rfl];cbv;intro H1 b1 g1;rw[ad4]at g1;have k1:my H H1:=λa xs e=>b1.at ?CB e;obtain⟨o1,HB⟩:=HA.fld (S':=ceS S) (x':=x) b1 (by rw[hob HA,q1,q2,q3];exact g1) ⟨rfl,rfl,rfl,rfl,rfl,rfl,rfl,rfl,rfl⟩ ⟨rfl,rfl,rfl,rfl⟩ (k1 _ _ HA.pa) (HA.wb.up k1) HA.wp HA.d0 HA.t0;exact kk H1 ⟨o1.mono λa z=>.inl z,eX.off tb o1 nP,F',x,HB,.self⟩
def vg(K:Yd)(mg:Ym->Option Ye):Sp:=λvs H Q _=>∃(p:Yc),vs=?CD/\(E3 λF S x=>j6 K mg H F p S x/\∀H' l,aW H H'->H l=Yb->H' l=Ya (.lst [])->Q (.ref l) H')
theorem QG:aF ["self"] aZ (az xU):=iw
include eV gM aC aD in
theorem Rn(F:cB K "strays" "Hand.strays" xU f fd):∅ 1 f fd aZ (vg K mg):=by
 refine F.oj QG ?_;rintro _ _ _ _ H _ _ _ _ _ _ _ ⟨p,rfl,h⟩;refine⟨_,(aq (aX (cD (Js (K:=K) rfl) ?AE gM dy ?A5))),?_⟩;obtain⟨F',S,x,A1,kk⟩:=h;have hp:=A1.ob;obtain⟨cl,n1,n2,n3,n4,n5,n6,n7,n8,n9,n10,n11,n12,n13,n14⟩:=id A1.T;have sl:bK K H x.lo []:=bK.of A1.lo;cbv;intro l H1 hl s1 g1;exact kk H1 l s1 hl g1
theorem aeu(x:K1 a ns)(h:∀z,z∈ns↔z∈ms):K1 a ms:=⟨x.1,x.2.1,λi=>by rw[x.2.2 i,h]⟩
theorem ae4{l m:List Int}(h:l.Perm m):l.sum=m.sum:=by
 induction h with
 |nil=>rfl
 |cons x _ ih=>rw[iE,iE,ih]
 |swap x y l=>rw[iE,iE,iE,iE];omega
 |trans _ _ h1 h2=>exact h1.trans h2
theorem ahS(h0:0<=n)(h1:n<9223372036854775808):K1 n (GB.hl n):=by
 refine⟨h0,h1,λi=>?_⟩;rw[GB.VR];refine⟨λh=>⟨?_,h⟩,λh=>h.2⟩;cases oy i 63 with
 |inl z=>exact z
 |inr z=>
  have:n.toNat<2^i:=YM (by have p63:(2:Nat)^63=9223372036854775808:=?B;omega) (kU ?B z);rw[og this]at h;cases h
theorem akQ{hs:List Int}(c:L2.Hs hs)(nk:ks.Nodup)(sb:∀k∈ks,k∈hs):K1 (ks.map λh=>1*(2:Int)^h.toNat).sum ks:=by
 have ndh:hs.Nodup:=c.up.imp λh z=>by omega
 have p:ks.Perm (hs.filter λh=>decide (h∈ks)):=((kM (ndh.filter _) nk).mpr λa=>by
  rw[Y9,decide_eq_true_iff];exact⟨λz=>z.2,λz=>⟨sb a z,z⟩⟩).symm
 have cf:L2.Hs (hs.filter λh=>decide (h∈ks)):=⟨c.up.sublist List.filter_sublist,λx hx=>c.rg x (Y9.mp hx).1⟩;obtain⟨s0,s1,s2⟩:=cf.set;rw[ae4 (p.map λh=>1*(2:Int)^h.toNat)];have:=ahS s0 s1;rw[s2]at this;exact aeu this λz=>p.symm.mem_iff
section
theorem Wn.nil(t:eX Pt H):Wn K mg Pt H [] stt []:=⟨[],⟨(λ_ _ z=>nomatch z),(λ_ _ _ _ z=>nomatch z),(λ_ _ z=>nomatch z),t,(λ_ z=>nomatch z)⟩,rfl,(λ_ _ z=>nomatch z)⟩
theorem Wn.put{l:Yc}{ys:List V}(D:Wn K mg Pt H ps stt ((l,HO.lst xs)::ls))(ne:∀e∈ls,e.1≠l)(b:∀a o,H a=Ya o->a≠l->H' a=Ya o)(g:H' l=Ya (.lst ys)):Wn K mg Pt H' ps stt ((l,HO.lst ys)::ls):=by
 obtain⟨W,d,e,f⟩:=D;obtain⟨hl,nPl,nF⟩:=d.ls _ Yf;have o:Off (λa=>a=l) H H':=⟨λa u h n=>b a u h n,λa xs h=>b a _ h (bD h hl ?C),λa φ h=>b a _ h (bD h hl ?C)⟩;refine⟨W,⟨λi w h=>(d.hd i w h).off o λa fa z=>nF i w h (z▸fa),d.dj,d.nP,eX.off d.tb o λz=>nPl z.symm,λu hu=>?_⟩,e,f⟩;rcases Yz.mp hu with rfl|hu
 ·exact⟨g,nPl,nF⟩
 ·obtain⟨q1,q2⟩:=d.ls u (Yh _ hu);exact⟨b _ _ q1 (ne u hu),q2⟩
theorem Wn.push{x:Ng}(D:Wn K mg Pt H ps stt ls)(s:aW H H')(h:j6 K mg H' G p S x)(g:∀a,G a->H a=Yb):Wn K mg Pt H' (ps++[p]) (aaI stt ps.length S) ls:=by
 obtain⟨W,d,e,f⟩:=D;have d':=d.same s;have lW:W.length=ps.length:=by rw[<-e,Yk]
 have cs:∀{i:Nat} {u:WE},(W++[⟨p,S,G,x⟩])[i]?=Ya u->(i<W.length/\W[i]?=Ya u)\/(i=W.length/\u=⟨p,S,G,x⟩):=fun{i u} z=>by
  rcases oy i W.length with y|y
  ·rw[fN y]at z;exact .inl ⟨y,z⟩
  ·rw[fu y]at z;obtain⟨z1,z2⟩:=Ys.mp z;simp only[kC]at z1;have:i-W.length=0:=by omega
   simp only[this,List.getElem_cons_zero]at z2;exact .inr ⟨by omega,z2.symm⟩
 refine⟨W++[⟨p,S,G,x⟩],⟨λi w hw=>?_,λi j u v hu hv n a fa ga=>?_,λi w hw=>?_,d'.tb,λu hu=>?_⟩,by rw[YG,e];rfl,λi w hw=>?_⟩
 ·rcases cs hw with⟨_,z⟩|⟨_,rfl⟩
  ·exact d'.hd i w z
  ·exact h
 ·rcases cs hu with⟨_,zu⟩|⟨eu,rfl⟩
  ·rcases cs hv with⟨_,zv⟩|⟨ev,rfl⟩
   ·exact d.dj i j u v zu zv n a fa ga
   ·exact(d.hd i u zu).dm a fa (g a ga)
  ·rcases cs hv with⟨_,zv⟩|⟨ev,rfl⟩
   ·exact(d.hd j v zv).dm a ga (g a fa)
   ·exact n (eu.trans ev.symm)
 ·rcases cs hw with⟨_,z⟩|⟨_,rfl⟩
  ·exact d.nP i w z
  ·intro z;obtain⟨ps',q⟩:=eX.some d.tb;rw[g _ z]at q;cases q
 ·obtain⟨q1,q2,q3⟩:=d'.ls u hu;refine⟨q1,q2,λi w hw=>?_⟩;rcases cs hw with⟨_,z⟩|⟨_,rfl⟩
  ·exact q3 i w z
  ·intro z;have:=(d.ls u hu).1;rw[g _ z]at this;cases this
 ·unfold aaI;rcases cs hw with⟨zl,z⟩|⟨zl,rfl⟩
  ·rw[if_neg ?D];exact f i w z
  ·rw[if_pos ?D]
end
theorem aoo{f:Nat->Hs}:aaI f i S i=S:=if_pos rfl
theorem vV{l:Yc}(g:H l=Ya (.lst xs))(h:vz H xs es):Dl K H (.ref l) (.list (es.map evD)):=.inr ⟨_,_,_,rfl,rfl,bK.of g,ahy h⟩
theorem Pb(e:Ev):(BC [evD e]).depth<=60:=by cases e<;>simp[evD,As,ve]
theorem O8(e:Ev):(BC [evD e]).canLay0=true:=by rw[vn];exact V6 [e]
theorem alW{a b:Yc}(ha:H a=Ya (.lst []))(hb:H b=Ya (.lst []))(q:Q (.bl false) H):ajS K (.ref a) (.ref b) H Q:=uy (vV (es:=[]) ha .nil) (vV (es:=[]) hb .nil) rfl ?B q
theorem alQ{a:Yc}{x1 x2 x3 x4 x5:V}(h:H a=Ya (.tup [x1,x2,x3,x4,x5]))(q:∀p H',H p=Yb->aW H H'->H' p=Ya (.tup [x2,x3])->Q (.ref p) H'):al1 K (.ref a) (Ya 1) (Ya 3) H Q:=
 ⟨a,_,rfl,dC.of h,by show ¬ (HT.ql 5 0 (Ya 1)=0/\HT.ql 5 5 (Ya 3)=5);decide,λp hp=>q p _ hp (aH hp) aA⟩
theorem aoS(h0:0<=a)(h1:a<40)(b1:1<=b)(b5:b<=5):Nm a b:=⟨h0,b1,by omega⟩
noncomputable def iN(so:List Nat):List Int:=so.map fun(k:Nat)=>(k:Int)
theorem air(h:Nm a b)(nd:so.Nodup)(lt:∀k∈so,k<5):(so.map fun(k:Nat)=>1*(2:Int)^(nm a b k).toNat).sum=fS a b (tH (iN so)):=by
 have hs:L2.Hs ((cq 5).map fun(k:Nat)=>nm a b k):=by
  refine⟨?_,λx hx=>?_⟩
  ·rw[hJ];exact ka.imp λz=>(aas h).mpr ?D
  ·obtain⟨k,hk,rfl⟩:=YD.mp hx;have hk:=fv.mp hk;exact BZ h ?D ?D
 have nk:(so.map fun(k:Nat)=>nm a b k).Nodup:=by
  refine hJ.mpr (nd.imp fun{x y} z e=>z ?_);have:=(Bw h).mp e;omega
 have s:=akQ hs nk λx hx=>by
  obtain⟨k,hk,rfl⟩:=YD.mp hx;exact YD.mpr ⟨k,fv.mpr (lt k hk),rfl⟩
 rw[cw]at s;have e:=Rv s λx hx=>by
  obtain⟨k,hk,rfl⟩:=YD.mp hx;exact(BZ h ?D (by have:=lt k hk;omega)).1
 show(so.map ((λh=>1*(2:Int)^h.toNat)∘fun(k:Nat)=>nm a b k)).sum=_;rw[e,show(so.map fun(k:Nat)=>nm a b k)=(iN so).map (nm a b) by unfold iN;rw[cw];rfl];refine ad2 h λx hx=>?_;obtain⟨k,hk,rfl⟩:=YD.mp hx;have:=lt k hk;omega
def Ah(K:Yd):Sp:=λvs H Q _=>E2 fun(nl sl:Yc)=>vs=[.ref nl,.ref sl]/\(E4 fun(a b:Int) (n:Nat) (so:List Nat)=>A8 (Nm a b) (n<=5) (bK K H nl ((rP a b n).map V.int)) (bK K H sl (DG so)) (so.Nodup) ((∀k∈so,k<n)) (so.length<=5) (∀H',aW H H'->Q (.int (fS a b (tH (iN so)))) H'))
abbrev U6:List Ym:=["_law_names","_law_some"]
theorem Vd:aF ["_law_names","_law_some"] U6 (az Dz):=iw
variable(akF:mg "sum"=Yb)
include eV akF in
theorem Vv(F:cB K "_law_bits" "_law_bits" Dz f fd):∅ 1 f fd U6 (Ah K):=by
 refine F.oj Vd ?_;rintro _ _ _ _ H _ _ _ hr _ _ _ ⟨nl,sl,rfl,h⟩;refine⟨_,(aq (aX (cL (aeg rfl) ?AE akF KG (aj (cP ["_law_names","_law_at"] [Ya 0,Yb] rfl rfl ?J ?E2 ?AD ?AA (λ_ _ _ _ _=>(bU rZ aB (aM ?K ?Q ?AU ?G)))) ao)))),?_⟩;obtain⟨a,b,n,so,nmh,n5,gn,gs,nd,lt,l5,kk⟩:=h;cbv;intro D0 hD0;refine cO (K:=K) (a:=sl) (xs:=DG so) (λi σ H'=>∃v,A3 (σ=[Ya (.ref nl),v]) (aW H H') (H' D0=Ya (.lst (((so.take i).map fun(k:Nat)=>1*(2:Int)^(nm a b k).toNat).map V.int)))) ⟨Yb,rfl,aH hD0,aA⟩ ?_ ?_ ?_
 ·rintro i σ H' _ ⟨_,_,z,_⟩;exact z.seq gs
 ·rintro i x σ H' hx ⟨v,rfl,sm,hDx⟩;rw[Yw]at hx;obtain⟨k,hk,rfl⟩:=af.mp hx;have hi:=(Ys.mp hk).1;have kn:=lt k (YW hk);have hr:=BZ nmh (k:=k) ?D ?D;have cp:acl 1 (nm a b k):=⟨hr.1,by omega,by decide⟩;have hat:mq ((rP a b n).map V.int) k=Ya (V.int (nm a b k)):=eN (by rw[Yw,Ii,Yw,ij kn];rfl);have gn':=sm.seq gn;cbv;refine⟨_,hDx,?_,_,rfl,λb o z=>?_,?_⟩
  ·rw[Yk,Yk,eA];exact bx ?D
  ·rw[aQ (bB z hD0)];exact sm b o z
  ·rw[aA,jc hk,YG,YG];rfl
 rintro σ H3 ⟨v,rfl,s3,hD3⟩;rw[Yk,cx]at hD3;refine⟨D0,_,rfl,bK.of hD3,?_⟩;rw[air nmh nd λk hk=>by have:=lt k hk;omega];exact kk _ s3
theorem Sc.tell{hl:Yc}{m:Nat}{c:Nat}(mC:mg "Hand"=Ya (.ref C))(h0:σ[ch]?=Ya (Ya (.ref hl)))(hc:σ[c]?=Ya (Ya (.int j)))(D:Sc K mg Pt A ps L ls m)(hh:(hl,HO.lst ?Z)∈ls)(hi:i<L.length)(hj:j<L.length)(lm:m<=880)(kk:∀A2 l ys,Sc K mg Pt A2 ps (cz L (.hea i j)) ls (m+ 3)->A2 l=Ya (.lst ys)->vz A2 ys ((gL (cz L (.hea i j)) i).lg.drop (gL L i).lg.length)->Q (.ref l) A2):
  xK K (.ref hl) (.int i) A λx H1=>mtS [(C,jq K mg Pt)] (YL "hear") (zj (NZ C (YL "letter") (gZ K mg) [.int 0,.non] E0 ?E3 sJ) sJ) σ x H1 Q:=by
 have hob:∀{A:Hp} {x1:Ng} {S1:Hs} {F1:Yc->Prop} {p:Yc},j6 K mg A F1 p S1 x1->x1.C=C:=λh=>by have:=h.mH;rw[mC]at this;cases this;rfl
 have gh:=bK.of (K:=K) (D.D.at hh);obtain⟨p,Fp,xp,hp',HP,_,_,_⟩:=D.get hi;obtain⟨q,Fq,xq,hq',HQ,_,_,_⟩:=D.get hj;have op:=HP.ob;have oq:=HQ.ob;rw[hob HP]at op;rw[hob HQ]at oq;refine uK gh (eN hp') (Aa op ?J ?_);show NZ _ _ _ _ _ _ _ _ _ _;refine V3 (ajm (Q3 h0 (Q3 hc (uK gh (eN hq') ⟨q,_,_,rfl,oq,by kernel_rfl,?_⟩))));cbv;refine afb HQ λA1 t s1 la=>?_;cbv;obtain⟨p2,Fp,xp,hp2,HP,nP,tb,cz⟩:=(D.same s1).get hi;obtain rfl:p=p2:=by rw[hp']at hp2;cases hp2;rfl
 have:=D.lb i;refine⟨p,t,rfl,Fp,_,xp,_,HP,la,adR HQ,by omega,tb,nP,λA2 l ys rs gl ev=>kk A2 l ys (cz _ _ (acV _ _) rs) gl ?_⟩;show vz A2 ys ((gL (L.set i (Jl ?EP (Ec (gL L j)))) i).lg.drop _);rw[acz hi,aoo];exact ev
theorem ajb(so:List Nat)(n:Nat):(br n (DG so)).flatten=DG (br n so).flatten:=by
 unfold DG;rw[List.map_flatten,List.map_replicate]
theorem ah0{o r:Nat}(h:so[j]?=Ya r):(((so.take (j+ 1)).filter λr=>!decide (o=r)).map λr=>Op.hea r o)=?DL++if o=r then[]else[.hea r o]:=by
 rw[jc h,nV,YG];by_cases z:o=r
 ·rw[if_pos z,AF (by rw[decide_eq_true z];decide)];rfl
 ·rw[if_neg z,AE (by rw[decide_eq_false z];rfl)];rfl
def CZ(K:Yd)(mg:Ym->Option Ye)(P_mk:Yc):Sp:=λvs H Q _=>E2 fun(hl sl:Yc)=>vs=[.ref hl,.ref sl,.int 4]/\(E5 λps L ls m so=>A7 (Sc K mg P_mk H ps L ls m) ((hl,HO.lst ?Z)∈ls) ((sl,HO.lst (DG so))∈ls) ((∀k∈so,k<L.length)) (so.length<=4) (m<=600) (∀H',Sc K mg P_mk H' ps (iy L (lM so 4)) ls (m+ 192)->Q .non H'))
abbrev Xu:List Ym:=["_law_hands_here","_law_some","_law_amount"]
theorem uR:aF ["_law_hands_here","_law_some","_law_amount","_law_one","_law_other"] Xu (az xX):=iw
variable{yr:Yc}{Dv:Yc}{nO:Yt}{Ac:Yt}{iB:ml}(gO:∅ 13 yr nO v9 (gZ K mg))(bc:Binds K nO v9 [.int 0 iB,.none])(lZ:Binds K nO v9 [])(jh:∅ 13 Dv Ac jm (jq K mg P_mk))(cF:Binds K Ac jm [])(bC:bY K bf "hear" Dv)(aY:bY K bf "letter" yr)
include eV gO bc lZ jh cF aC aD bC aY in
theorem Qu(F:cB K "_law_rounds" "_law_rounds" xX f fd):∅ 14 f fd Xu (CZ K mg P_mk):=by
 refine F.oj uR ?_;rintro _ A _ _ _ _ _ _ hr _ _ _ ⟨hl,sl,rfl,h⟩;refine⟨_,(aq (lK ah rfl (bM (K:=K) rfl (bU amK ?AU ?DR)) (aO (i:=3) uR.nd rfl ?E)
   (aq (lK ah rfl ?E2 (aO (i:=4) uR.nd rfl ?E)
   (aq (cZ (bL ahj ?BW (pv 4) ?BM) (aq (aP (aV ?CG (aM ?K ?Q (pv 4) ?G) hr (aj (dF (aM ?K ?Q ?BW ?G) aC.cl aY gO hr bc ?O fc) ao)))) bN)))))),?_⟩
 obtain⟨ps,L,ls,m,so,D,hh,hs,lt,l5,m5,kk⟩:=h;obtain⟨rs,ers⟩:∃rs,rs=(br 4 so).flatten:=⟨_,rfl⟩;have lrs:rs.length<=16:=by rw[ers,ac6];omega
 have ltr:∀k∈rs,k<L.length:=λk hk=>by
  rw[ers]at hk;obtain⟨l,hl,hk⟩:=List.mem_flatten.mp hk;rw[List.eq_of_mem_replicate hl]at hk;exact lt k hk
 cbv;refine⟨sl,4,DG so,rfl,rfl,D.D.at hs,by decide,by decide,?_,λp hp=>?_⟩
 ·rw[Yk];exact Y5 (bx (by show so.length*4<=1000;omega))
 have eR:(br (4:Int).toNat (DG so)).flatten=DG rs:=by rw[ers];exact ajb so 4
 rw[eR];have DA:=D.add (aH hp) hp (aA (o:=HO.lst (DG rs)));refine⟨p,rfl,⟨_,bK.of (DA.D.at Yf)⟩,?_⟩;let jJ5:Nat->St->Hp->Prop:=λk σ A=>E2 λu v=>σ=[Ya (.ref hl),Ya (.ref sl),Ya (.int 4),u,v]/\Sc K mg P_mk A ps (iy L ((rs.take k).flatMap (rop so))) ((p,HO.lst (DG rs))::ls) (m+ 12*k);refine iV (K:=K) (a:=p) (xs:=DG rs) jJ5 ⟨Yb,Yb,rfl,DA⟩ (λi σ A _ z=>by obtain⟨_,_,_,z⟩:=z;exact bK.of (z.D.at Yf)) ?_ ?_
 ·rintro k x σ A hx ⟨u,v,rfl,DA⟩;rw[Yw]at hx;obtain⟨o,ho,rfl⟩:=af.mp hx;have kl:=(Ys.mp ho).1;have mo:=ltr o (YW ho);obtain⟨L1,e1⟩:∃L1,L1=iy L ((rs.take k).flatMap (rop so)):=⟨_,rfl⟩;rw[<-e1]at DA;have l1:L1.length=L.length:=by rw[e1];exact j8 _ _
  have hs1:=Yh (p,HO.lst (DG rs)) hs;have hh1:=Yh (p,HO.lst (DG rs)) hh;have gs:=bK.of (K:=K) (DA.D.at hs1);cbv;refine iV (K:=K) (a:=sl) (xs:=DG so) (λj σ A=>∃v,σ=[Ya (.ref hl),Ya (.ref sl),Ya (.int 4),Ya (.int o),v]/\Sc K mg P_mk A ps (iy L1 ?DL) ((p,HO.lst (DG rs))::ls) (m+ 12*k+ 3*j)) ⟨v,rfl,DA⟩ (λi σ A _ z=>by obtain⟨_,_,z⟩:=z;exact bK.of (z.D.at hs1)) ?_ ?_
  ·rintro j x σ A hx ⟨v,rfl,DB⟩;rw[Yw]at hx;obtain⟨r,hr,rfl⟩:=af.mp hx;have jl:=(Ys.mp hr).1;have mr:=lt r (YW hr);rw[ah0 hr,uY];obtain⟨L2',e2⟩:∃L2',L2'=iy L1 ?DL:=⟨_,rfl⟩;rw[<-e2]at DB⊢;have l2:L2'.length=L.length:=by rw[e2,j8];exact l1
   cbv;refine iu (λz=>?_) λz=>?_
   ·have z:¬ o=r:=λy=>by rw[y]at z;simp at z
    rw[if_neg z];cbv;refine DB.tell aD rfl rfl hh1 ?D ?D ?D λA2 l ys D2 _ _=>?_;cbv;exact⟨_,rfl,D2.up ?D⟩
   ·have z:(o:Int)=r:=by simpa using z
    have z:o=r:=by omega
    rw[if_pos z];exact⟨_,rfl,DB.up ?D⟩
  ·rintro σ A ⟨v,rfl,DB⟩;rw[show(DG so).length=so.length from Yk _,cx]at DB;refine⟨_,_,rfl,?_⟩;rw[jc ho,List.flatMap_append,uY,<-e1,List.flatMap_singleton];exact DB.up ?D
 ·rintro σ A ⟨u,v,rfl,DB⟩;rw[show(DG rs).length=rs.length from Yk _,cx]at DB;cbv;refine kk A ?_;have:=(DB.less λe he=>Yh _ he).up (m':=m+ 192) ?D;rw[ers]at this;exact this
section
theorem Wn.drop(D:Wn K mg Pt H ps stt ls)(stt':Nat->Hs):Wn K mg Pt H [] stt' ls:=by
 obtain⟨W,d,_⟩:=D;exact⟨[],⟨(λ_ _ z=>nomatch z),(λ_ _ _ _ z=>nomatch z),(λ_ _ z=>nomatch z),d.tb,λe he=>⟨(d.ls e he).1,(d.ls e he).2.1,(λ_ _ z=>nomatch z)⟩⟩,rfl,(λ_ _ z=>nomatch z)⟩
end
theorem aik{sp:Sp}{dvs:List V}{t:TA}(h:t σ H λvs H1=>∀x dx H',H1 x=Yb->aW H1 H'->H' x=Ya (.ins C dx [])->sp (.ref x::(vs++dvs)) H' ?DT E0)(mono:∀{P Q':List V->Hp->Prop},(∀vs H,P vs H->Q' vs H)->t σ H P->t σ H Q'):ada C sp dvs E0 t σ H Q:=
 mono (λvs H1 k x dx hx hd ne=>k x dx _ hx (λb o z=>by rw[aQ (bB z hx),aQ (bB z hd)];exact z) aA) h
theorem am7(h:Nm a b)(k0:0<=k)(k5:k<5)(g0:0<=g):newS (nm a b k) (fS a b g) nu 8=fH a b nu (newS k g 0 8):=by
 have e0:(⟨nm a b k,8,nu,Yb,Yb,[],0,0,false,false⟩:Hs)=fH a b nu ⟨k,8,0,Yb,Yb,[],0,0,false,false⟩:=by
  show _=Hs.mk (nm a b k) 8 (0+ nu) Yb Yb [] (fS a b 0) (fS a b 0) false false;rw[mM,abG]
 unfold newS;rw[Ry h k0 k5];split
 ·rw[e0];have:=ahs h (nu:=nu) (S:=⟨k,8,0,Yb,Yb,[],0,0,false,false⟩) (n:=0) (pl:=(0,g,g)) (qk 0) g0;rw[mM,show fP a b (0,g,g)=(0,fS a b g,fS a b g) by show(fS a b 0,fS a b g,fS a b g)=_;rw[abG]]at this;exact this
 ·exact e0
theorem anx(h:Nm a b):fS a b g<9223372036854775808:=(acD λx hx=>by
 obtain⟨k,hk,rfl⟩:=YD.mp hx;have r:=amJ.mp (Y9.mp hk).1;exact BZ h r.1 r.2).2
theorem V5(h:Nm a b)(k0:0<=k)(k5:k<5)(e:jL g k=true):0<fS a b g:=by
 have h1:=Ea h (n:=g) k0 k5;have h2:=lR (a:=a) (b:=b) (n:=g);rcases Int.lt_or_eq_of_le h2 with z|z
 ·exact z
 ·rw[<-z]at h1;have e:g.toNat.testBit k.toNat=true:=e;rw[e]at h1;simp at h1
noncomputable def Gq(n:Nat)(g:Int):List Hs:=(cq n).map fun(k:Nat)=>newS k g 0 8
theorem wg(n:Nat)(g:Int):(Gq n g).length=n:=by unfold Gq;rw[Yk,cK]
theorem aiH(me ha nu ro:Int):(newS me ha nu ro).lg.length<=1:=by
 unfold newS;split
 ·exact Yo 1
 ·exact YX _
section
variable{xl D1:Yc}{n:Nat}{Qe:Hp->Prop}
theorem mkH(aD:mg "Hand"=Ya (.ref bf))(aC:Rx K bf)(nmh:Nm a b)(n5:n<=5)(g0:0<=g)(gp:0<fS a b g)(DL:∀stt,Wn K mg Pt H [] stt ls)(hx:(xl,HO.lst ((rP a b n).map V.int))∈ls)(hD:H D1=Yb)
  (kk:∀H4 ps,Sc K mg Pt H4 ps ((Gq n g).map ?W) (?CX::ls) 1->Qe H4):
  ∃W:Nat->Nat->St->Hp->Prop,(∃m,W 0 m [Ya (.int (fS a b g)),Ya (.int nu),Yb] (upd H D1 (.lst [])))/\∀i m σ' H',W i m σ' H'->((Itl K xl).stop i H'/\Qe H')\/((Itl K xl).go i H'/\∃N:St->Hp->Prop,?V/\
   ∀x H'',(Itl K xl).yld i H' x H''->pL (Ur 2) aje (ada bf (kW K mg) [V.int 8] E0 (zj (vO 2) (zj (vO 0) (zj (vO 1) sJ)))) D1 N x σ' H''):=by
 refine cO (K:=K) (a:=xl) (xs:=(rP a b n).map V.int) (λi σ A=>E2 λv ps=>A3 (σ=[Ya (.int (fS a b g)),Ya (.int nu),v]) (ps.length=i) (Wn K mg Pt A ps (gL ((Gq n g).map ?W)) (?CX::ls))) ⟨Yb,[],rfl,rfl,(DL _).add (aH hD) hD aA⟩ ?_ ?_ ?_
 ·rintro i σ A _ ⟨_,_,_,_,z⟩;exact bK.of (z.at (Yh _ hx))
 ·rintro i x σ A hx' ⟨v,ps,rfl,ep,DA⟩;rw[Yw]at hx';obtain⟨h,hh,rfl⟩:=af.mp hx';have hi:=(Ys.mp hh).1;rw[Ii,Yk,cK]at hi;rw[Ii,Yw,ij hi]at hh;obtain rfl:nm a b i=h:=YK hh;have hr:=BZ nmh (k:=i) ?D ?D;cbv;refine aik ?_ λh z=>by obtain⟨v1,e1,v2,e2,v3,e3,z⟩:=z;exact⟨v1,e1,v2,e2,v3,e3,h _ _ z⟩
  cbv;intro p dx A1 hp s1' gp1;refine⟨p,nm a b i,fS a b g,nu,8,rfl,bf,dx,aD,aC,gp1,hr.1,hr.2,gp,anx nmh,λA2 G x k2 HA gr=>⟨rfl,?_⟩⟩;have sA2:aW A A2:=λb o z=>k2 b o (s1' b o z) (λy=>by rw[y,hp]at z;cases z);have gG:∀a,G a->A a=none:=λa z=>(gr a z).elim (λy=>y▸hp) λy=>s1'.free y;rw[am7 nmh ?D ?D g0]at HA;have D2:=DA.push sA2 HA gG;have gD:=D2.at Yf;refine⟨_,gD,?_,Ya (.int (nm a b i)),ps++[p],rfl,by rw[YE,ep];rfl,?_⟩
  ·rw[Yk,ep];exact bx ?D
  ·have D3:=D2.put (H':=upd A2 D1 (HO.lst (ps.map V.ref++[V.ref p]))) (ys:=ps.map V.ref++[V.ref p]) (λe he z=>by have:=(DL λ_=>hz).at he;rw[z,hD]at this;cases this) (λb o z n=>by rw[aQ n];exact z) aA;rw[YG];refine D3.st λj hj=>?_;rw[YE,kC]at hj;unfold aaI;split
   ·next y=>
    have jn:j<n:=by omega
    rw[kj (by rw[wg];exact jn),show gL (Gq n g) j=newS j g 0 8 by
     unfold gL Gq;rw[YO,Yw,ij jn];rfl,y,ep]
   ·rfl
 rintro σ H4 ⟨v,ps,rfl,lps,D4⟩;rw[Yk,Ii,Yk,cK]at lps;refine kk H4 ps ⟨D4,by rw[lps,Yk,wg],λi=>?_⟩;rcases oy i n with z|z
 ·rw[kj (by rw[wg];exact z),show gL (Gq n g) i=newS i g 0 8 by
   unfold gL Gq;rw[YO,Yw,ij z];rfl]
  show((newS i g 0 8).lg.map ?GT).length<=1;rw[Yk];exact aiH _ _ _ _
 ·unfold gL;rw[YO,gc (by rw[Yk,wg];exact z)];exact YX _
noncomputable def jT(t n k:Nat):Nat:=(t+ k)%n
noncomputable def trs(t n:Nat):List Nat:=(cq n).map (jT t n)
theorem mkT{t:Nat}(n0:0<n)(n5:n<=5)(hD:H D1=Yb)(kk:∀H4,aW H H4->H4 D1=Ya (.lst (DG (trs t n)))->Qe H4):
  ∃W:Nat->Nat->St->Hp->Prop,(∃m,W 0 m [Ya (.int t),Yb] (upd H D1 (.lst [])))/\∀i m σ' H',W i m σ' H'->((Itr 0 n).stop i H'/\Qe H')\/((Itr 0 n).go i H'/\∃N:St->Hp->Prop,?V/\
   ∀x H'',(Itr 0 n).yld i H' x H''->pL (Ur 1) aje (tOp (rI (λx j=>0<j) λi j=>V.int (i%j)) (tOp (rI0 λi j=>V.int (i+ j)) (vO 0) (vO 1)) (tC (V.int n))) D1 N x σ' H''):=by
 refine Iz (λi σ A=>∃v,A3 (σ=[Ya (.int t),v]) (aW H A) (A D1=Ya (.lst (DG ((cq i).map (jT t n)))))) ⟨Yb,rfl,aH hD,aA⟩ ?_ λσ A z=>?_
 ·rintro i σ A hi ⟨v,rfl,sA,gA⟩;have n1:(0:Int)<(n:Int):=by omega
  cbv;refine⟨_,gA,?_,_,rfl,λb o z=>?_,?_⟩
  ·rw[Yk,Yk,cK];exact bx ?D
  ·rw[aQ (bB z hD)];exact sA b o z
  ·rw[aA,qB,YG];unfold DG;rw[YG];show _=Ya (HO.lst (_++[V.int (((t+ i)%n:Nat):Int)]));rw[show(((t+ i)%n:Nat):Int)=((t:Int)+ (0+ (i:Int)))%(n:Int) by rw[Int.natCast_emod,Int.natCast_add,mM]]
 ·obtain⟨v,rfl,sA,gA⟩:=z;exact kk A sA gA
end
section
variable{hl:Yc}{m:Nat}{c:Nat}
theorem hdC{x:Ng}(mC:mg "Hand"=Ya (.ref C))(h:j6 K mg A F p S x):x.C=C:=by have:=h.mH;rw[mC]at this;cases this;rfl
theorem Sc.lea(mC:mg "Hand"=Ya (.ref C))(D:Sc K mg Pt A ps L ls m)(hh:(hl,HO.lst ?Z)∈ls)(hi:i<L.length)(es:(gL L i).st=Ya q)(eb:q.2.2.1.b=Yb)(kk:∀A2,Sc K mg Pt A2 ps (cz L (.lea i)) ls (m+ 3)->Q .non A2):
  xK K (.ref hl) (.int i) A λx H1=>mtS [(C,qT K mg Pt)] (YL "leave") sJ σ x H1 Q:=by
 obtain⟨p,F,x,hp,HP,nP,tb,cz⟩:=D.get hi;have op:=HP.ob;rw[hdC mC HP]at op;refine uK ?C1 (eN hp) (Aa op ?J ?_);cbv;exact⟨p,rfl,F,_,x,q,HP,es,eb,tb,nP,λH' r=>kk H' (cz _ _ (FO _ 3) r)⟩
theorem Sc.com(mC:mg "Hand"=Ya (.ref C))(D:Sc K mg Pt A ps L ls m)(hh:(hl,HO.lst ?Z)∈ls)(hi:i<L.length)(es:(gL L i).st=Yb)(kk:∀A2,Sc K mg Pt A2 ps (cz L (.com i)) ls (m+ 3)->Q .non A2):
  xK K (.ref hl) (.int i) A λx H1=>mtS [(C,tZ K mg Pt)] (YL "come") sJ σ x H1 Q:=by
 obtain⟨p,F,x,hp,HP,nP,tb,cz⟩:=D.get hi;have op:=HP.ob;rw[hdC mC HP]at op;refine uK ?C1 (eN hp) (Aa op ?J ?_);cbv;exact⟨p,rfl,F,_,x,HP,es,tb,nP,λH' r=>kk H' (cz _ _ (FO _ 3) r)⟩
theorem Sc.sus{t:TA}(mC:mg "Hand"=Ya (.ref C))(D:Sc K mg Pt A ps L ls m)(hh:(hl,HO.lst ?Z)∈ls)(hi:i<L.length)(lm:m<=880)(k0:0<=k)(ht:∀R:List V->Hp->Prop,R [.int k] A->t σ A R)(kk:∀A2 l,Sc K mg Pt A2 ps (cz L (.sus i k)) ls (m+ 3)->Q (.ref l) A2):
  xK K (.ref hl) (.int i) A λx H1=>mtS [(C,mL K mg Pt)] (YL "suspect") t σ x H1 Q:=by
 obtain⟨p,F,x,hp,HP,nP,tb,cz⟩:=D.get hi;have op:=HP.ob;rw[hdC mC HP]at op;have:=D.lb i;exact uK ?C1 (eN hp) (Aa op ?J (ht _ ⟨p,k,rfl,F,_,x,HP,k0,by omega,tb,nP,λH' l ys r _ _=>kk H' l (cz _ _ (bP (V0 _) (hZ ?B _)) r)⟩))
theorem Sc.hrl{t:TA}(mC:mg "Hand"=Ya (.ref C))(D:Sc K mg Pt A ps L ls m)(hh:(hl,HO.lst ?Z)∈ls)(hi:i<L.length)(lm:m<=880)(lt:Th A u T)(wt:WfT T)(ht:∀R:List V->Hp->Prop,R [.ref u] A->t σ A R)(kk:∀A2 l,Sc K mg Pt A2 ps (cz L (.hrl i T)) ls (m+ 3)->Th A2 u T->Q (.ref l) A2):
  xK K (.ref hl) (.int i) A λx H1=>mtS [(C,jq K mg Pt)] (YL "hear") t σ x H1 Q:=by
 obtain⟨p,F,x,hp,HP,nP,tb,cz⟩:=D.get hi;have op:=HP.ob;rw[hdC mC HP]at op;have:=D.lb i;exact uK ?C1 (eN hp) (Aa op ?J (ht _ ⟨p,u,rfl,F,_,x,_,HP,lt,wt,by omega,tb,nP,λH' l ys r _ _=>kk H' l (cz _ _ (acV _ _) r) (lt.up r.1.tp)⟩))
theorem Sc.ren(mC:mg "Hand"=Ya (.ref C))(h0:σ[ch]?=Ya (Ya (.ref hl)))(hc:σ[c]?=Ya (Ya (.int i)))(D:Sc K mg Pt A ps L ls m)(hh:(hl,HO.lst ?Z)∈ls)(hi:i<L.length)(lm:m<=880)(es:(gL L i).st≠Yb)(kk:∀A2 l,Sc K mg Pt A2 ps (cz L (.ren i)) ls (m+ 3)->Q (.ref l) A2):
  NZ C (YL "renew") (lN K mg Pt) [.int 1] E0 ?E3 sJ σ A Q:=by
 obtain⟨p,F,x,hp,HP,nP,tb,cz⟩:=D.get hi;have op:=HP.ob;rw[hdC mC HP]at op;have:=D.lb i;refine V3 (ajm (Q3 h0 (Q3 hc (uK ?C1 (eN hp) ⟨p,_,_,rfl,op,by kernel_rfl,?_⟩))));cbv;exact⟨p,1,rfl,F,_,x,HP,es,by omega,tb,nP,λH' l ys r _ _=>kk H' l (cz _ _ (bP (aiS _ _) (hZ ?B _)) r)⟩
theorem Sc.std(mC:mg "Hand"=Ya (.ref C))(D:Sc K mg Pt A ps L ls m)(hh:(hl,HO.lst ?Z)∈ls)(hi:i<L.length)(es:(gL L i).st=Ya q)(kk:∀A2 u,aW A A2->A2 u=Ya (.tup [.int q.1,.int q.2.1])->Q (.ref u) A2):
  xK K (.ref hl) (.int i) A λx H1=>mtS [(C,lw K mg)] (YL "standing") sJ σ x H1 Q:=by
 obtain⟨p,F,x,hp,HP,nP,tb,cz⟩:=D.get hi;have op:=HP.ob;rw[hdC mC HP]at op;refine uK ?C1 (eN hp) (Aa op ?J ?_);cbv;exact⟨p,rfl,F,_,x,HP,(λz=>by rw[es]at z;cases z),λq' e A2 u s g=>by rw[es]at e;cases e;exact kk A2 u s g⟩
theorem Sc.str(mC:mg "Hand"=Ya (.ref C))(D:Sc K mg Pt A ps L ls m)(hh:(hl,HO.lst ?Z)∈ls)(hi:i<L.length)(kk:∀A2 l,aW A A2->A l=Yb->A2 l=Ya (.lst [])->Q (.ref l) A2):
  xK K (.ref hl) (.int i) A λx H1=>mtS [(C,vg K mg)] (YL "strays") sJ σ x H1 Q:=by
 obtain⟨p,F,x,hp,HP,nP,tb,cz⟩:=D.get hi;have op:=HP.ob;rw[hdC mC HP]at op;refine uK ?C1 (eN hp) (Aa op ?J ?_);cbv;exact⟨p,rfl,F,_,x,HP,kk⟩
theorem Sc.evs(mC:mg "Hand"=Ya (.ref C))(D:Sc K mg Pt A ps L ls m)(hh:(hl,HO.lst ?Z)∈ls)(hi:i<L.length)(kk:∀A2 l xs,aW A A2->A l=Yb->A2 l=Ya (.lst xs)->vz A2 xs (gL L i).lg->Q (.ref l) A2):
  xK K (.ref hl) (.int i) A λx H1=>mtS [(C,uO K mg)] (YL "events") sJ σ x H1 Q:=by
 obtain⟨p,F,x,hp,HP,nP,tb,cz⟩:=D.get hi;have op:=HP.ob;rw[hdC mC HP]at op;refine uK ?C1 (eN hp) (Aa op ?J ?_);cbv;exact⟨p,rfl,F,_,x,HP,λA2 l s hl' g=>kk A2 l x.xs s hl' g (j7 (.same s) HP.ev)⟩
theorem Sc.ltrA(mC:mg "Hand"=Ya (.ref C))(h0:σ[ch]?=Ya (Ya (.ref hl)))(hc:σ[c]?=Ya (Ya (.int i)))(D:Sc K mg Pt A ps L ls m)(hh:(hl,HO.lst ?Z)∈ls)(hi:i<L.length)(es:(gL L i).st=Yb)(kk:∀A2 u,aW A A2->A u=Yb->LaA A2 u (gL L i).me (gL L i).wi (gL L i).wb->WfT (Ec ?EP)->Q (.ref u) A2):
  NZ C (YL "letter") (gZ K mg) [.int 0,.non] E0 ?E3 sJ σ A Q:=by
 obtain⟨p,F,x,hp,HP,nP,tb,cz⟩:=D.get hi;have op:=HP.ob;rw[hdC mC HP]at op;refine V3 (ajm (Q3 h0 (Q3 hc (uK ?C1 (eN hp) ⟨p,_,_,rfl,op,by kernel_rfl,?_⟩))));cbv;exact⟨p,rfl,F,_,x,HP,(λ_ A1 t s1 ht la=>kk A1 t s1 ht la (adR HP)),λq e=>by rw[es]at e;cases e⟩
end
theorem Dy:∀(x:List Op) {y:List Op} {M:List Hs},rW M (x++y)=(rW M x&&rW (iy M x) y)
 |[],y,M=>rfl
 |o::x,y,M=>by
  show(vU M o&&rW (cz M o) (x++y))=(vU M o&&rW (cz M o) x&&rW (iy (cz M o) x) y);rw[Dy x,Bool.and_assoc]
theorem aa7{os:List Op}{k:Nat}{o:Op}(h:rW M os=true)(e:os[k]?=Ya o):vU (iy M (os.take k)) o=true:=by
 obtain⟨kl,ek⟩:=Ys.mp e;rw[<-List.take_append_drop k os,Dy]at h;have h:=(Yj.mp h).2;rw[List.drop_eq_getElem_cons kl,ek]at h;exact(Yj.mp h).1
theorem ajP(so:List Nat)(n:Nat):(lM so n).map (fO a b nu)=lM so n:=by
 have:∀os:List Op,(∀o∈os,∃i j,o=.hea i j)->os.map (fO a b nu)=os:=λos h=>by
  induction os with
  |nil=>rfl
  |cons o os ih=>
   obtain⟨i,j,rfl⟩:=h o Yf;rw[YS,ih λo ho=>h o (Yh _ ho)];rfl
 refine this _ λo ho=>?_;unfold lM rop at ho;obtain⟨x,_,ho⟩:=List.mem_flatMap.mp ho;obtain⟨r,_,rfl⟩:=YD.mp ho;exact⟨_,_,rfl⟩
section
variable{hl:Yc}{m:Nat}{c:Nat}
theorem Sc.go{o:Op}(nmh:Nm a b)(D:Sc K mg Pt A ps (cz (M.map ?W) (fO a b nu o)) ls m)(k:vU M o=true):Sc K mg Pt A ps ((cz M o).map ?W) ls m:=by rw[afO nmh k]at D;exact D
theorem HY(h:i<M.length):i<(M.map ?W).length:=by rw[Yk];exact h
theorem Sc.leaF(nmh:Nm a b)(mC:mg "Hand"=Ya (.ref C))(D:Sc K mg Pt A ps (M.map ?W) ls m)(hh:(hl,HO.lst ?Z)∈ls)(k:vU M (.lea i)=true)(kk:∀A2,Sc K mg Pt A2 ps ((cz M (.lea i)).map ?W) ls (m+ 3)->Q .non A2):
  xK K (.ref hl) (.int i) A λx H1=>mtS [(C,qT K mg Pt)] (YL "leave") sJ σ x H1 Q:=by
 obtain⟨k1,k2⟩:=Yj.mp k;have hi:=of_decide_eq_true k1;have k2:=(Yj.mp k2).2;cases es:(gL M i).st with
 |none=>rw[es]at k2;cases k2
 |some q=>
  rw[es]at k2;exact D.lea mC hh (HY hi) (by rw[kj hi];exact jN es) (by show fB a b q.2.2.1.b=Yb;rw[of_decide_eq_true k2];rfl) λA2 D2=>kk A2 (Sc.go (o:=.lea i) nmh D2 k)
theorem Sc.comF(nmh:Nm a b)(mC:mg "Hand"=Ya (.ref C))(D:Sc K mg Pt A ps (M.map ?W) ls m)(hh:(hl,HO.lst ?Z)∈ls)(k:vU M (.com i)=true)(kk:∀A2,Sc K mg Pt A2 ps ((cz M (.com i)).map ?W) ls (m+ 3)->Q .non A2):
  xK K (.ref hl) (.int i) A λx H1=>mtS [(C,tZ K mg Pt)] (YL "come") sJ σ x H1 Q:=by
 obtain⟨k1,k2⟩:=Yj.mp k;have hi:=of_decide_eq_true k1;exact D.com mC hh (HY hi) (by rw[kj hi];exact uh (qE.mp k2)) λA2 D2=>kk A2 (Sc.go (o:=.com i) nmh D2 k)
theorem Sc.susF{t:TA}{k0:Int}(nmh:Nm a b)(mC:mg "Hand"=Ya (.ref C))(D:Sc K mg Pt A ps (M.map ?W) ls m)(hh:(hl,HO.lst ?Z)∈ls)(lm:m<=880)(k:vU M (.sus i k0)=true)(ht:∀R:List V->Hp->Prop,R [.int (fS a b k0)] A->t σ A R)(kk:∀A2 l,Sc K mg Pt A2 ps ((cz M (.sus i k0)).map ?W) ls (m+ 3)->Q (.ref l) A2):
  xK K (.ref hl) (.int i) A λx H1=>mtS [(C,mL K mg Pt)] (YL "suspect") t σ x H1 Q:=by
 obtain⟨k1,k2⟩:=Yj.mp k;exact D.sus mC hh (HY ?CQ) lm lR ht λA2 l D2=>kk A2 l (Sc.go (o:=.sus i k0) nmh D2 k)
theorem Sc.renF(nmh:Nm a b)(mC:mg "Hand"=Ya (.ref C))(h0:σ[ch]?=Ya (Ya (.ref hl)))(hc:σ[c]?=Ya (Ya (.int i)))(D:Sc K mg Pt A ps (M.map ?W) ls m)(hh:(hl,HO.lst ?Z)∈ls)(lm:m<=880)(k:vU M (.ren i)=true)(kk:∀A2 l,Sc K mg Pt A2 ps ((cz M (.ren i)).map ?W) ls (m+ 3)->Q (.ref l) A2):
  NZ C (YL "renew") (lN K mg Pt) [.int 1] E0 ?E3 sJ σ A Q:=by
 obtain⟨k1,k2⟩:=Yj.mp k;have hi:=of_decide_eq_true k1;refine D.ren mC h0 hc hh (HY hi) lm (λz=>?_) λA2 l D2=>kk A2 l (Sc.go (o:=.ren i) nmh D2 k);rw[kj hi]at z;have k2:=(Yj.mp k2).2;cases es:(gL M i).st with
 |none=>rw[es]at k2;cases k2
 |some q=>rw[jN es]at z;cases z
theorem Sc.tellF(nmh:Nm a b)(mC:mg "Hand"=Ya (.ref C))(h0:σ[ch]?=Ya (Ya (.ref hl)))(hc:σ[c]?=Ya (Ya (.int j)))(D:Sc K mg Pt A ps (M.map ?W) ls m)(hh:(hl,HO.lst ?Z)∈ls)(lm:m<=880)(k:vU M (.hea i j)=true)
  (kk:∀A2 l ys,Sc K mg Pt A2 ps ((cz M (.hea i j)).map ?W) ls (m+ 3)->A2 l=Ya (.lst ys)->vz A2 ys (((gL (cz M (.hea i j)) i).lg.drop (gL M i).lg.length).map ?GT)->Q (.ref l) A2):
  xK K (.ref hl) (.int i) A λx H1=>mtS [(C,jq K mg Pt)] (YL "hear") (zj (NZ C (YL "letter") (gZ K mg) [.int 0,.non] E0 ?E3 sJ) sJ) σ x H1 Q:=by
 obtain⟨k1,_⟩:=Yj.mp k;obtain⟨k1,k2⟩:=Yj.mp k1;have hi:=of_decide_eq_true k1;refine D.tell mC h0 hc hh (HY hi) (HY (of_decide_eq_true k2)) lm λA2 l ys D2 gl ev=>kk A2 l ys (Sc.go (o:=.hea i j) nmh D2 k) gl ?_;rw[show cz (M.map ?W) (.hea i j)=(cz M (.hea i j)).map (fH a b nu)from afO nmh (o:=.hea i j) k,kj hi,kj (by rw[cX];exact hi)]at ev;have ev:vz A2 ys (((gL (cz M (.hea i j)) i).lg.map ?GT).drop ((gL M i).lg.map ?GT).length):=ev;rw[Yk,<-List.map_drop]at ev;exact ev
theorem Sc.hrlF{t:TA}(nmh:Nm a b)(mC:mg "Hand"=Ya (.ref C))(D:Sc K mg Pt A ps (M.map ?W) ls m)(hh:(hl,HO.lst ?Z)∈ls)(lm:m<=880)(k:vU M (.hrl i T)=true)(lt:Th A u (fT a b nu T))(wt:WfT (fT a b nu T))(ht:∀R:List V->Hp->Prop,R [.ref u] A->t σ A R)(kk:∀A2 l,Sc K mg Pt A2 ps ((cz M (.hrl i T)).map ?W) ls (m+ 3)->Th A2 u (fT a b nu T)->Q (.ref l) A2):
  xK K (.ref hl) (.int i) A λx H1=>mtS [(C,jq K mg Pt)] (YL "hear") t σ x H1 Q:=by
 obtain⟨k1,k2⟩:=Yj.mp k;exact D.hrl mC hh (HY ?CQ) lm lt wt ht λA2 l D2 l2=>kk A2 l (Sc.go (o:=.hrl i T) nmh D2 k) l2
theorem Sc.runF(nmh:Nm a b)(D:Sc K mg Pt A ps (iy (M.map ?W) (lM so 4)) ls m)(k:rW M (lM so 4)=true):Sc K mg Pt A ps ((iy M (lM so 4)).map ?W) ls m:=by
 have:=aho nmh (nu:=nu) k;rw[ajP]at this;rw[this]at D;exact D
end
noncomputable def m1:List Hs:=Gq 3 (tH (iN [0,1,2]))
noncomputable def o1(o w r:Nat):List Op:=[.lea w,.lea r,.ren o]++([w,r].map λi=>.hea i o)++([w,r].map λi=>.hea o i)++[.hea w o,.hea r w,.hea o r]
noncomputable def n1(o w r:Nat):List Hs:=iy m1 (([.lea w,.lea r,.ren o]++([w,r].map λi=>.hea i o))++([w,r].map λi=>.hea o i))
noncomputable def c1(o w r:Nat):Bool:=rW m1 (o1 o w r)&&decide ((gL (cz (n1 o w r) (.hea w o)) w).lg.drop (gL (n1 o w r) w).lg.length=[.out 0])&&
 decide ((gL ?DE r).lg.drop (gL (cz (n1 o w r) (.hea w o)) r).lg.length=[.out 0])&&;decide ((gL (cz ?DE (.hea o r)) o).lg.drop (gL ?DE o).lg.length=[.lst 1 (2^o) (tH (iN [0,1,2])) 0])&&;decide (((gL (cz ?DE (.hea o r)) o).st.map λq=>(q.1,q.2.1))=Ya (1,2^o))
theorem aog:∀t:vk 3,c1 (jT t 3 0) (jT t 3 1) (jT t 3 2)=true:=by decide +kernel
theorem anq(t:Nat):trs t 3=[jT t 3 0,jT t 3 1,jT t 3 2]:=rfl
theorem mY{t n k:Nat}(h:0<n):jT t n k<n:=GA _ h
theorem Jk(h:Nm a b){k:Nat}(k5:k<5):1*(2:Int)^(nm a b k).toNat=fS a b (2^k):=by
 rw[BA,Uc h ?D ?D,Yy]
theorem O7{k:Nat}(m:k∈so):jL (tH (iN so)) k=true:=by
 unfold jL tH;rw[Yy,Yy,wO,de,gy,eD];exact⟨(k:Int),eJ m,decide_eq_true (Yy k)⟩
theorem Up(g:H t=Ya (.tup [.int x,.int y])):Dl K H (.ref t) (.tuple [.int x,.int y]):=.inl (.tup (dC.of g) (.cons (.int _) (.cons (.int _) .nil)))
theorem acA(x y:Int):(Ee [.int x,.int y]).canLay0=true:=abP rfl
theorem acF(x y:Int):(Ee [.int x,.int y]).depth<=60:=by simp[As,ve]
def pG(K:Yd)(mg:Ym->Option Ye)(P_mk:Yc):Sp:=λvs H Q _=>E3 fun(nl:Yc) (t:Nat) (nu:Int)=>vs=[.ref nl,.int t,.int nu]/\(E2 λa b=>A4 (Nm a b) (t<3) ?EK ?DM)
abbrev nj:List Ym:=["_law_names","_law_turn","_law_number"]
theorem bQ:aF ["_law_names","_law_turn","_law_number","_law_group","_law_hands_here","_law_one","_law_two","_law_three","_law_at","_law_event"] nj (az jG):=iw
variable{sS:Yc}{Aj:Yc}{sU:Yc}{J5:Yc}{Ed:Yc}{qx:Yt}{qU:Yt}{lC:Yt}{HR:Yt}{Bd:Yt}{j4:ml}{tp0_Hand___init__:ml}(Bh:∅ 13 sS qx aZ (lw K mg))(iC:Binds K qx aZ [])(Kp:∅ 13 Aj qU Nh (lN K mg P_mk))(bW:Binds K qU Nh [.int 1 j4])(uo:Binds K qU Nh [])(Bq:∅ 12 sU lC K5 (kW K mg))(BP_Hand___init__:Binds K lC K5 [.int 8 tp0_Hand___init__])(mV:Binds K lC K5 [])(z7:∅ 13 J5 HR aZ (qT K mg P_mk))(Am:Binds K HR aZ [])(Nu:∅ 13 Ed Bd U6 (Ah K))(gR:iU K mg "_law_bits" Ed Bd U6)(nJ:Mk K bf sU)(jF:bY K bf "leave" J5)(bR:bY K bf "renew" Aj)(cN:bY K bf "standing" sS)
include eV Bh iC gO bc lZ Kp bW uo jh cF Bq BP_Hand___init__ mV z7 Am Nu gR mR aC aD nJ bC jF aY bR cN in
theorem zZ(F:cB K "_law_plan_handed_on" "_law_plan_handed_on" jG f fd):∅ 14 f fd nj (pG K mg P_mk):=by
 refine F.oj bQ ?_;rintro _ A _ _ _ _ _ _ hr hu64 _ _ ⟨nl,t,nu,rfl,h⟩;refine⟨_,(ak (bA (i:=0) bQ.nd rfl ?E (oJ ?G5 ?Q xF (qP aB)))
   (ak (bA (i:=3) bQ.nd rfl ?IC (bw Nu gR hr (aj ?Q (aj (dZ (aj aB (aj aB ?B7))) ao))))
   (ak (Gh (i:=4) ["_law_group","_law_number","_law_name"] [Ya 3,Ya 2,Yb] bQ.nd rfl ?E rfl rfl ?J ?CM ?CL ?AA (λ_ _ _ _ _=>(wz nJ Bq hr rfl aD BP_Hand___init__ (show Vals [V.int 8] _ from(.cons ⟨_,rfl⟩ .nil)) fc (aj ?DR (aj ?Q ?B0)))))
   (ak (Wo (cP ["_law_turn","_law_k"] [Ya 1,Yb] rfl rfl ?J (uw rfl mR ?B7) ?AD ?AA ?D0) (O3 (K:=K) (n:=3) rfl rfl (cU (aO (i:=5) bQ.nd rfl ?E) (cU (aO (i:=6) bQ.nd rfl ?E) (cU (aO (i:=7) bQ.nd rfl ?E) um)))))
   (ak (aP (bh (cj.cons aC.cl jF z7 Am cj.nil) (aM ?K (pv 4) (pv 6) ?G) hr))
   (ak (aP (bh (cj.cons aC.cl jF z7 Am cj.nil) (aM ?K (pv 4) (pv 7) ?G) hr))
   (ak (aP (dF ?EC aC.cl bR Kp hr bW ?AB fc))
   (ak (lK ah rfl (bM (K:=K) rfl (dZ (aj (pv 6) (aj (pv 7) ao)))) (aO (i:=8) bQ.nd rfl ?E)
   (aq (aP (aV ?CG (aM ?K (pv 4) (pv 8) ?G) hr (aj (dF ?EC aC.cl aY gO hr bc ?O fc) ao)))))
   (ak (lK ah rfl (bM (K:=K) rfl (dZ (aj (pv 6) (aj (pv 7) ao)))) (aO (i:=8) bQ.nd rfl ?E)
   (aq (aP (aV ?CG ?EC hr (aj (dF (aM ?K (pv 4) (pv 8) ?G) aC.cl aY gO hr bc ?O fc) ao)))))
   (ak (cZ (bL ?EJ (aV ?CG (aM ?K (pv 4) (pv 6) ?G) hr (aj (dF ?EC aC.cl aY gO hr bc ?O fc) ao)) (dZ (aj (dY (aj oV ?AW)) ao)) ?BM) ?GL bN)
   (ak (cZ (bL ?EJ (aV ?CG (aM ?K (pv 4) (pv 7) ?G) hr (aj (dF (aM ?K (pv 4) (pv 6) ?G) aC.cl aY gO hr bc ?O fc) ao)) (dZ (aj (dY (aj oV ?AW)) ao)) ?BM) ?GL bN)
   (ak (bA (i:=9) bQ.nd rfl ?E (dY (aj oV (aj ?IU (aj ?DU (aj ?BW ?B7))))))
   (aq (aX (uz (ie ?B8 (aV ?CG ?EC hr (aj (dF (aM ?K (pv 4) (pv 7) ?G) aC.cl aY gO hr bc ?O fc) ao)) (dZ (aj (pv 9) ao)) ?BM) (uA (ie ?B8 (bh (cj.cons aC.cl cN Bh iC cj.nil) ?EC hr) (oJ (ai9 (K:=K) rfl) (pv 9) (qP aB) (qP aB)) ?BM))))))))))))))))),?_⟩
 refine ani ?_;intro _ _ _ _ _ _ _ _ _ _ _;obtain⟨a,b,nmh,t3,DL,kk⟩:=h;have gn:=bK.of (K:=K) ((DL λ_=>hz).at Yf);cbv;intro nq H1 hq s1 g1;have e3:K6 ?IW Yb (Ya 3)=(rP a b 3).map V.int:=by kernel_rfl
 rw[e3]at g1;have DL1:∀stt,Wn K mg P_mk H1 [] stt [(nq,HO.lst ?DS),?P]:=λstt=>(DL stt).add s1 hq g1;cbv;intro sl H2 hsl s2 g2;have g12:=s2 _ _ g1;cbv;refine⟨nq,sl,rfl,a,b,3,[0,1,2],nmh,by decide,bK.of g12,bK.of g2,by decide,by decide,by decide,λH3 s3=>?_⟩;have DL3:=λstt=>(DL1 stt).same ?EO;have gq3:=bK.of (K:=K) ((DL3 λ_=>hz).at Yf);have c:=aog ⟨t,t3⟩;have gp:0<fS a b (tH (iN [0,1,2])):=V5 nmh (k:=0) ?B ?B (O7 (so:=[0,1,2]) (k:=0) ?B);cbv;intro D1 hD1;refine mkH aD aC nmh ?B (Im _) gp DL3 Yf hD1 λH4 ps D4=>?_;cbv;refine⟨_,rfl,by decide,by decide,λE5 hD5=>?_⟩;refine mkT (t:=t) (n:=3) ?B ?B hD5 λH5 s5 g5=>?_;have D5:=D4.same s5;have o3:=mY (t:=t) (n:=3) (k:=0) ?B;have w3:=mY (t:=t) (n:=3) (k:=1) ?B;have r3:=mY (t:=t) (n:=3) (k:=2) ?B;rw[anq]at g5;have c:c1 (jT t 3 0) (jT t 3 1) (jT t 3 2)=true:=c;generalize jT t 3 0=o at c o3 g5;generalize jT t 3 1=w' at c w3 g5;generalize jT t 3 2=r at c r3 g5;unfold c1 at c;obtain⟨c,f4⟩:=Yj.mp c;obtain⟨c,f3⟩:=Yj.mp c;obtain⟨c,f2⟩:=Yj.mp c;obtain⟨c,f1⟩:=Yj.mp c;have f1:=of_decide_eq_true f1;have f2:=of_decide_eq_true f2;have f3:=of_decide_eq_true f3;have f4:=of_decide_eq_true f4;unfold o1 at c;rw[Dy,Dy,Dy]at c;obtain⟨c,k6⟩:=Yj.mp c;obtain⟨c,k5⟩:=Yj.mp c;obtain⟨c,k4⟩:=Yj.mp c;have c:(vU m1 (.lea w')&&(vU (cz m1 (.lea w')) (.lea r)&&(vU ?DX (.ren o)&&true)))=true:=c;obtain⟨k1,c⟩:=Yj.mp c;obtain⟨k2,c⟩:=Yj.mp c;obtain⟨k3,_⟩:=Yj.mp c;have e1:n1 o w' r=iy (iy (cz ?DX (.ren o)) ?GC) ([w',r].map λi=>.hea o i):=by
  unfold n1;rw[uY,uY];rfl
 have k5:rW (iy (cz ?DX (.ren o)) ?GC) ([w',r].map λi=>.hea o i)=true:=by
  rw[uY]at k5;exact k5
 have k4:rW (cz ?DX (.ren o)) ([w',r].map λi=>.hea i o)=true:=k4;have k6:(vU (n1 o w' r) (.hea w' o)&&(vU (cz (n1 o w' r) (.hea w' o)) (.hea r w')&&(vU (cz (cz (n1 o w' r) (.hea w' o)) (.hea r w')) (.hea o r)&&true)))=true:=k6;obtain⟨k6,c⟩:=Yj.mp k6;obtain⟨k7,c⟩:=Yj.mp c;obtain⟨k8,_⟩:=Yj.mp c;have D5:Sc K mg P_mk H5 ps (m1.map ?W) _ 1:=D5;have g5:H5 E5=Ya (.lst [V.int (o:Int),V.int (w':Int),V.int (r:Int)]):=g5;refine Wg (bK.of g5) rfl ?_;cbv;refine D5.leaF nmh aD Yf k1 λA1 D6=>?_;cbv;refine D6.leaF nmh aD Yf k2 λA2 D7=>?_;cbv;refine D7.renF nmh aD rfl rfl Yf ?B k3 λA3 l D8=>?_;generalize cz ?DX (.ren o)=M3 at D8 k4 k5 e1;cbv;intro lp A4 hlp s4 g4;have D9:=D8.add s4 hlp g4;have g4':=bK.of (K:=K) g4;cbv;refine iV (K:=K) (a:=lp) (xs:=DG [w',r]) (λk σ A=>∃v,σ=?C2/\Sc K mg P_mk A ps ((iy M3 (([w',r].take k).map λi=>.hea i o)).map ?W) ((lp,HO.lst (DG [w',r]))::(D1,HO.lst ?Z)::(nq,HO.lst ?DS)::[?P]) (10+ 3*k)) ⟨Yb,rfl,D9⟩ (λi σ A _ z=>by obtain⟨_,_,z⟩:=z;exact bK.of (z.D.at Yf)) ?_ ?_
 ·rintro k x σ A hx ⟨v,rfl,DA⟩;rw[Yw]at hx;obtain⟨i,hi,rfl⟩:=af.mp hx;have kl:=(Ys.mp hi).1;have kl:k<2:=kl;have ko:=aa7 k4 (k:=k) (o:=.hea i o) (by rw[Yw,hi];rfl);rw[<-IF]at ko;cbv;refine DA.tellF nmh aD rfl rfl ?B5 ?D ko λA5 l ys D10 _ _=>?_;cbv;refine⟨_,rfl,?_⟩;rw[jc hi,YG,uY];exact D10.up ?D
 rintro σ B1 ⟨v,rfl,D10⟩;have D10:=D10.less (ls':=?CX::(nq,HO.lst ?DS)::[?P]) λe he=>Yh _ he;have D10:Sc K mg P_mk B1 ps ((iy M3 ?GC).map ?W) _ 16:=D10;generalize iy M3 ([w',r].map λi=>.hea i o)=M4 at D10 k5 e1;cbv;intro lq A6 hlq s6 g6;have D11:=D10.add s6 hlq g6;have g6':=bK.of (K:=K) g6;cbv;refine iV (K:=K) (a:=lq) (xs:=DG [w',r]) (λk σ A=>∃v,σ=?C2/\Sc K mg P_mk A ps ((iy M4 (([w',r].take k).map λi=>.hea o i)).map ?W) ((lq,HO.lst (DG [w',r]))::(D1,HO.lst ?Z)::(nq,HO.lst ?DS)::[?P]) (16+ 3*k)) ⟨v,rfl,D11⟩ (λi σ A _ z=>by obtain⟨_,_,z⟩:=z;exact bK.of (z.D.at Yf)) ?_ ?_
 ·rintro k x σ A hx ⟨v,rfl,DA⟩;rw[Yw]at hx;obtain⟨i,hi,rfl⟩:=af.mp hx;have kl:=(Ys.mp hi).1;have kl:k<2:=kl;have ko:=aa7 k5 (k:=k) (o:=.hea o i) (by rw[Yw,hi];rfl);rw[<-IF]at ko;cbv;refine DA.tellF nmh aD rfl rfl ?B5 ?D ko λA5 l ys D10 _ _=>?_;cbv;refine⟨_,rfl,?_⟩;rw[jc hi,YG,uY];exact D10.up ?D
 rintro σ B2 ⟨v,rfl,D12⟩;have D12:=D12.less (ls':=?CX::(nq,HO.lst ?DS)::[?P]) λe he=>Yh _ he;have D12:Sc K mg P_mk B2 ps ((iy M4 ([w',r].map λi=>.hea o i)).map ?W) _ 22:=D12;rw[<-e1]at D12;generalize n1 o w' r=M5 at D12 k6 k7 k8 f1 f2 f3 f4;cbv;refine D12.tellF nmh aD rfl rfl Yf ?B k6 λB3 l3 ys3 D13 gl3 ev3=>?_;rw[f1]at ev3;have ev3:vz B3 ys3 [.out (0+ nu)]:=ev3;rw[mM]at ev3;cbv;intro t1 B4 ht1 s41 g41;cbv;intro l4 B5 hl4 s51 g51;have s35:=s41.trans s51;refine uy (vV (s35 _ _ gl3) (j7 (.same s35) ev3)) (vV g51 (.cons ⟨t1,rfl,s51 _ _ g41⟩ .nil)) (O8 _) (Pb _) ?_;have D14:=D13.same s35;cbv;refine D14.tellF nmh aD rfl rfl Yf ?B k7 λB6 l6 ys6 D15 gl6 ev6=>?_;rw[f2]at ev6;have ev6:vz B6 ys6 [.out (0+ nu)]:=ev6;rw[mM]at ev6;cbv;intro t7 B7 ht7 s71 g71;cbv;intro l8 B8 hl8 s81 g81;have s68:=s71.trans s81;refine uy (vV (s68 _ _ gl6) (j7 (.same s68) ev6)) (vV g81 (.cons ⟨t7,rfl,s81 _ _ g71⟩ .nil)) (O8 _) (Pb _) ?_;have D16:=D15.same s68;have gq8:=bK.of (K:=K) (D16.D.at ?B5);have hr:=BZ nmh (k:=o) ?D ?D;have cp:acl 1 (nm a b o):=⟨hr.1,by omega,by decide⟩;have hat:mq ?DS o=Ya (V.int (nm a b o)):=eN (by rw[Yw,Ii,Yw,ij o3];rfl);cbv;intro te B9 hte s91 g91;rw[Jk nmh ?D]at g91;have D17:=D16.add s91 hte g91;cbv;refine D17.tellF nmh aD rfl rfl ?B5 ?B k8 λC1 l9 ys9 D18 gl9 ev9=>?_;rw[f3]at ev9;have ev9:vz C1 ys9 [.lst (1+ nu) (fS a b (2^o)) (fS a b (tH (iN [0,1,2]))) (fS a b 0)]:=ev9;rw[abG,mN 1 nu]at ev9;have gte:=D18.D.at Yf;cbv;intro lx C2 hlx s2c g2c;refine qi (vV (s2c _ _ gl9) (j7 (.same s2c) ev9)) (vV g2c (.cons ⟨te,rfl,s2c _ _ gte⟩ .nil)) (O8 _) (Pb _) ?_;have D19:=D18.same s2c;obtain⟨k8,_⟩:=Yj.mp k8;obtain⟨k8,_⟩:=Yj.mp k8;have ol:=of_decide_eq_true k8;have ol:o<(cz (cz (cz M5 (.hea w' o)) (.hea r w')) (.hea o r)).length:=by rw[cX];exact ol
 obtain⟨q,eq,f4⟩:=af.mp f4;cbv;refine D19.std aD ?B5 (HY ol) (by rw[kj ol];exact jN eq) λC3 u s3c g3c=>?_;have g3c:C3 u=Ya (.tup [.int (q.1+ nu),.int (fS a b q.2.1)]):=g3c;rw[show q.1=1 from congrArg (·.1) f4,show q.2.1=2^o from congrArg (·.2) f4,mN 1 nu]at g3c;have D20:=D19.same s3c;cbv;refine alQ (D20.D.at Yf) λu2 C4 hu2 s4c g4c=>?_;refine qi (Up (s4c _ _ g3c)) (Up g4c) (acA _ _) (acF _ _) ?_;cbv;exact kk _ λstt=>((D20.D.same s4c).drop stt).less λe he=>Yh _ (Yh _ (Yh _ he))
noncomputable def yG(so:List Nat):List Nat:=(cq 5).filter λk=>decide (k∈so)
theorem Io(p:ms.Perm (iN so))(s:ms.Pairwise (·<=·))(nd:so.Nodup)(lt:∀k∈so,k<5):ms=iN (yG so):=by
 have nd1:(iN so).Nodup:=hJ.mpr (nd.imp fun{x y} z e=>z ?D);have ndm:ms.Nodup:=p.nodup_iff.mpr nd1;have up:(iN (yG so)).Pairwise (·<·):=by
  refine hJ.mpr ?_;exact(u4 _ ka).imp λz=>by omega
 refine List.Perm.eq_of_pairwise (le:=(·<=·)) (λx y _ _ h1 h2=>by omega) s (up.imp λz=>by omega) ?_;refine p.trans ((kM nd1 (up.imp λz=>by omega)).mpr λx=>?_);unfold iN yG;rw[YD,YD];constructor
 ·rintro⟨k,hk,rfl⟩;exact⟨k,Y9.mpr ⟨fv.mpr (lt k hk),decide_eq_true hk⟩,rfl⟩
 ·rintro⟨k,hk,rfl⟩;exact⟨k,of_decide_eq_true (Y9.mp hk).2,rfl⟩
theorem xf{k:Nat}(h:k∈yG so):k∈so:=of_decide_eq_true (Y9.mp h).2
theorem Ad(nd:so.Nodup)(lt:∀k∈so,k<5):(yG so).length=so.length:=by
 refine List.Perm.length_eq ((kM (u4 _ (List.nodup_range (n:=5))) nd).mpr λk=>?_);exact⟨xf,λh=>Y9.mpr ⟨fv.mpr (lt k h),decide_eq_true h⟩⟩
theorem Jr(so:List Nat):(iN so).map V.int=DG so:=by unfold iN DG;rw[cw];rfl
theorem O4{H:Hp}{e:Ev}:∀{ds:List Ev} {xs:List V},vz H xs (ds++[e])->∃ys v,xs=ys++[v]/\EvA H v e
 |[],_,.cons h .nil=>⟨[],_,rfl,h⟩
 |_::ds,_,.cons (a:=x) _ t=>by
  obtain⟨ys,v,rfl,h⟩:=O4 (ds:=ds) t;exact⟨x::ys,v,rfl,h⟩
theorem MJ(h:EvA H v e):Dl K H v (evD e):=.inl (akv h)
theorem Wt(e:Ev):(evD e).depth<=60:=by cases e<;>simp[evD,As,ve]
noncomputable def g2(o w r x:Nat):Int:=tH (iN [o,w,r,x])
noncomputable def a2(o w r x y:Nat):List Op:=[.sus o (2^x),.com y,.hea o y,.sus w (2^o),.ren w]
noncomputable def b2(o w r x y:Nat):List Hs:=iy (iy (Gq 5 (g2 o w r x)) (a2 o w r x y)) (lM (yG [w,r,x]) 4)
noncomputable def d2(o w r x y:Nat):List Hs:=cz (cz (cz (cz (cz (b2 o w r x y) (.hea o w)) (.com o)) (.hea w o)) (.sus w 0)) (.ren w)
noncomputable def e2(o w r x y:Nat):List Hs:=iy (d2 o w r x y) (lM (yG [o,w,r,x]) 4)
noncomputable def h2(o w r x y:Nat):List Hs:=iy (cz (e2 o w r x y) (.ren o)) (lM (yG [o,w,r]) 4)
noncomputable def v2(o w r y:Nat):Ev:=.lst 3 (YQ (tH (iN [o,w,r])) (2^y)) (tH (iN [o,w,r])) (2^y)
noncomputable def c2(o w r x y:Nat):Bool:=rW (Gq 5 (g2 o w r x)) (a2 o w r x y)&&rW (iy (Gq 5 (g2 o w r x)) (a2 o w r x y)) (lM (yG [w,r,x]) 4)&&rW (b2 o w r x y) [.hea o w,.com o,.hea w o,.sus w 0,.ren w]&&rW (d2 o w r x y) (lM (yG [o,w,r,x]) 4)&&vU (e2 o w r x y) (.ren o)&&rW (cz (e2 o w r x y) (.ren o)) (lM (yG [o,w,r]) 4)&&
 decide ((gL (cz (b2 o w r x y) (.hea o w)) o).lg.drop (gL (b2 o w r x y) o).lg.length=[.out 0])&&decide (((gL (e2 o w r x y) o).st.map λq=>(q.1,q.2.1))=Ya (2,g2 o w r x))&&decide ((gL (h2 o w r x y) o).lg.getLast?=Ya (v2 o w r y))&&decide ((gL (h2 o w r x y) w).lg.getLast?=Ya (v2 o w r y))
theorem anC:∀t:vk 5,c2 (jT t 5 0) (jT t 5 1) (jT t 5 2) (jT t 5 3) (jT t 5 4)=true:=by decide +kernel
theorem apP(t:Nat):trs t 5=[jT t 5 0,jT t 5 1,jT t 5 2,jT t 5 3,jT t 5 4]:=rfl
theorem nd5:∀t:vk 5,(trs t 5).Nodup:=by decide
def uF(K:Yd)(mg:Ym->Option Ye)(P_mk:Yc):Sp:=λvs H Q _=>E3 fun(nl:Yc) (t:Nat) (nu:Int)=>vs=[.ref nl,.int t,.int nu]/\(E2 λa b=>A4 (Nm a b) (t<5) ?EK ?DM)
theorem cG:aF ["_law_names","_law_turn","_law_number","_law_one","_law_two","_law_three","_law_x","_law_y","_law_group","_law_hands_here","_law_on","_law_event"] nj (az pq):=iw
variable{G9:Yc}{Dk:Yc}{Nf:Yc}{G4:Yc}{Ef:Yt}{Br:Yt}{K9:Yt}{Dw:Yt}(lX:∅ 14 G9 Ef aZ (uO K mg))(lV:Binds K Ef aZ [])(jA:∅ 14 sS qx aZ (lw K mg))(cV:∅ 14 yr nO v9 (gZ K mg))(cQ:∅ 14 Aj qU Nh (lN K mg P_mk))(gW:∅ 14 Dk Br Hx (mL K mg P_mk))(gU:Binds K Br Hx [])(dg:∅ 14 Dv Ac jm (jq K mg P_mk))(eY:∅ 13 sU lC K5 (kW K mg))(jj:∅ 14 Nf K9 aZ (tZ K mg P_mk))(ji:Binds K K9 aZ [])(fV:∅ 14 Ed Bd U6 (Ah K))(dN:∅ 14 G4 Dw Xu (CZ K mg P_mk))(dU:iU K mg "_law_rounds" G4 Dw Xu)(dB:bY K bf "come" Nf)(eE:bY K bf "events" G9)(cR:bY K bf "suspect" Dk)
include eV lX lV jA iC cV bc lZ cQ bW uo gW gU dg cF eY BP_Hand___init__ mV jj ji fV gR dN dU mR d7 aC aD nJ dB eE bC aY bR cN cR in
theorem Ir(F:cB K "_law_out_and_in" "_law_out_and_in" pq f fd):∅ 15 f fd nj (uF K mg P_mk):=by
 refine F.oj cG ?_;rintro _ _ _ _ H _ _ _ hr hu64 _ _ ⟨nl,t,nu,rfl,h⟩;refine⟨_,(ak (Wo (cP ["_law_turn","_law_k"] [Ya 1,Yb] rfl rfl ?J (uw rfl mR ?B7) ?AD ?AA ?D0) (O3 (K:=K) (n:=5) rfl rfl (cU (aO (i:=3) cG.nd rfl ?E) (cU (aO (i:=4) cG.nd rfl ?E) (cU (aO (i:=5) cG.nd rfl ?E) (cU (aO (i:=6) cG.nd rfl ?E) (cU (aO (i:=7) cG.nd rfl ?E) um)))))))
   (ak (bA (i:=8) cG.nd rfl ?IC (bw fV gR hr (aj ?Q (aj (dZ (aj ?BW (aj (pv 4) (aj (pv 5) (aj (pv 6) ao))))) ao))))
   (ak (Gh (i:=9) ["_law_group","_law_number","_law_name"] [Ya 8,Ya 2,Yb] cG.nd rfl ?E rfl rfl ?J ?CM ?CL ?AA ?AN)
   (ak (aP (aV ?DY ?C5 hr (aj (bU rZ aB (aM ?K ?Q (pv 6) ?G)) ao)))
   (ak (aP (bh ?DZ (aM ?K (pv 9) (pv 7) ?G) hr))
   (ak (aP (aV ?BL ?C5 hr (aj (dF (aM ?K (pv 9) (pv 7) ?G) aC.cl aY cV hr bc ?O fc) ao)))
   (ak (aP (aV ?DY ?C8 hr (aj (bU rZ aB (aM ?K ?Q ?BW ?G)) ao)))
   (ak (aP (dF ?C8 aC.cl bR cQ hr bW ?AB fc))
   (ak (aP (bw dN dU hr (aj (pv 9) (aj (cL jt ?AE d7 ae (aj (dZ (aj (pv 4) (aj (pv 5) (aj (pv 6) ao)))) ao)) ?B7))))
   (ak (cZ (bL ?EJ (aV ?BL ?C5 hr (aj (dF ?C8 aC.cl aY cV hr bc ?O fc) ao)) (dZ (aj (dY (aj oV ?AW)) ao)) ?BM) ?GL bN)
   (ak (aP (bh ?DZ ?C5 hr))
   (ak (aP (aV ?BL ?C8 hr (aj (dF ?C5 aC.cl aY cV hr bc ?O fc) ao)))
   (ak (aP (aV ?DY ?C8 hr ?B7))
   (ak (aP (dF ?C8 aC.cl bR cQ hr bW ?AB fc))
   (ak (aP (bw dN dU hr (aj (pv 9) (aj (cL jt ?AE d7 ae (aj (dZ (aj ?BW (aj (pv 4) (aj (pv 5) (aj (pv 6) ao))))) ao)) ?B7))))
   (ak (cZ (bL ?EJ (bh (cj.cons aC.cl cN jA iC cj.nil) ?C5 hr) (dY (aj ?IU (aj (pv 8) ao))) ?BM) ?GL bN)
   (ak (aP (dF ?C5 aC.cl bR cQ hr bW ?AB fc))
   (ak (aP (bw dN dU hr (aj (pv 9) (aj (cL jt ?AE d7 ae ?BO) ?B7))))
   (ak (bA (i:=10) cG.nd rfl ?E (bw fV gR hr (aj ?Q ?BO)))
   (ak (bA (i:=11) cG.nd rfl ?E (dY (aj oV (aj ?IU (aj (bU JP (pv 10) (bU rZ aB (aM ?K ?Q (pv 7) ?G))) (aj (pv 10) (aj (bU rZ aB (aM ?K ?Q (pv 7) ?G)) ao)))))))
   (aq (aX (uz (ie ?B8 (aM ?K (bh (cj.cons aC.cl eE lX lV cj.nil) ?C5 hr) (K3 acO aB) ?G) (pv 11) ?BM) (uA (ie ?B8 (aM ?K (bh (cj.cons aC.cl eE lX lV cj.nil) ?C8 hr) (K3 acO aB) ?G) (pv 11) ?BM))))))))))))))))))))))))),?_⟩
 refine apZ ?_;intro _ _ _ _ _ _ _ _ _ _ _ _ _ _ _ _ _ _ _;obtain⟨a,b,nmh,t5,DL,kk⟩:=h;have c:=anC ⟨t,t5⟩;have nd:=nd5 ⟨t,t5⟩;cbv;refine⟨_,rfl,by decide,by decide,λEq1 hE1=>?_⟩;refine mkT (t:=t) (n:=5) ?B ?B hE1 λH1 s1 g1=>?_;have DL1:=λstt=>(DL stt).same s1;have o5:=mY (t:=t) (n:=5) (k:=0) ?B;have w5:=mY (t:=t) (n:=5) (k:=1) ?B;have r5:=mY (t:=t) (n:=5) (k:=2) ?B;have x5:=mY (t:=t) (n:=5) (k:=3) ?B;have y5:=mY (t:=t) (n:=5) (k:=4) ?B;rw[apP]at g1 nd;have c:c2 (jT t 5 0) (jT t 5 1) (jT t 5 2) (jT t 5 3) (jT t 5 4)=true:=c;have nd:[jT t 5 0,jT t 5 1,jT t 5 2,jT t 5 3,jT t 5 4].Nodup:=nd;generalize jT t 5 0=o at c o5 g1 nd;generalize jT t 5 1=w' at c w5 g1 nd;generalize jT t 5 2=r at c r5 g1 nd;generalize jT t 5 3=x at c x5 g1 nd;generalize jT t 5 4=y at c y5 g1 nd;unfold c2 at c;obtain⟨c,f4⟩:=Yj.mp c;obtain⟨c,f3⟩:=Yj.mp c;obtain⟨c,f2⟩:=Yj.mp c;obtain⟨c,f1⟩:=Yj.mp c;obtain⟨c,k6⟩:=Yj.mp c;obtain⟨c,k5⟩:=Yj.mp c;obtain⟨c,k4⟩:=Yj.mp c;obtain⟨c,k3⟩:=Yj.mp c;obtain⟨c,k2⟩:=Yj.mp c;have f1:=of_decide_eq_true f1;have f2:=of_decide_eq_true f2;have f3:=of_decide_eq_true f3;have f4:=of_decide_eq_true f4;have m0:g2 o w' r x=tH (iN [o,w',r,x]):=rfl;have nd4:[o,w',r,x].Nodup:=nd.sublist ?N;have nd3:[o,w',r].Nodup:=nd.sublist ?N;have ndx:[w',r,x].Nodup:=nd.sublist ?N;have lt4:∀k∈[o,w',r,x],k<5:=λk hk=>by
  simp only[Yz,fi,or_false]at hk;omega
 have lt3:∀k∈[o,w',r],k<5:=λk hk=>by
  simp only[Yz,fi,or_false]at hk;omega
 have ltx:∀k∈[w',r,x],k<5:=λk hk=>by
  simp only[Yz,fi,or_false]at hk;omega
 have g1:H1 Eq1=Ya (.lst [V.int (o:Int),V.int (w':Int),V.int (r:Int),V.int (x:Int),V.int (y:Int)]):=g1;refine Wg (bK.of g1) rfl ?_;have gn1:=bK.of (K:=K) ((DL1 λ_=>hz).at Yf);cbv;intro sl H2 hsl s2 g2';have gn2:=s2.seq gn1;cbv;refine⟨nl,sl,rfl,a,b,5,[o,w',r,x],nmh,by decide,gn2,bK.of g2',nd4,lt4,by show 4<=5;decide,λH3 s3=>?_⟩;have DL3:=λstt=>(DL1 stt).same ?EO;have gn3:=bK.of (K:=K) ((DL3 λ_=>hz).at Yf);have gp:0<fS a b (tH (iN [o,w',r,x])):=V5 nmh (k:=o) ?D ?D (O7 (so:=[o,w',r,x]) (k:=o) Yf);rw[<-m0]at gp⊢;have g0:0<=g2 o w' r x:=Im _;cbv;intro D1 hD1;refine mkH aD aC nmh ?B g0 gp DL3 Yf hD1 λH4 ps D4=>?_;have c:(vU (Gq 5 (g2 o w' r x)) (.sus o (2^x))&&(vU (cz (Gq 5 (g2 o w' r x)) (.sus o (2^x))) (.com y)&&(vU (cz (cz (Gq 5 (g2 o w' r x)) (.sus o (2^x))) (.com y)) (.hea o y)&&(vU (cz (cz (cz (Gq 5 (g2 o w' r x)) (.sus o (2^x))) (.com y)) (.hea o y)) (.sus w' (2^o))&&(vU ?AJ (.ren w')&&true)))))=true:=c;obtain⟨q1,c⟩:=Yj.mp c;obtain⟨q2,c⟩:=Yj.mp c;obtain⟨q3,c⟩:=Yj.mp c;obtain⟨q4,c⟩:=Yj.mp c;obtain⟨q5,_⟩:=Yj.mp c;have k2:rW (cz ?AJ (.ren w')) (lM (yG [w',r,x]) 4)=true:=k2;have eb:b2 o w' r x y=iy (cz ?AJ (.ren w')) (lM (yG [w',r,x]) 4):=rfl;have bt:∀{k:Nat},k<5->acl 1 (nm a b k)/\mq ?IW k=Ya (V.int (nm a b k)):=fun{k} k5=>by
  have hr:=BZ nmh (k:=k) ?D ?D;exact⟨⟨hr.1,by omega,by decide⟩,eN (by rw[Yw,Ii,Yw,ij k5];rfl)⟩
 obtain⟨cpx,hax⟩:=bt x5;obtain⟨cpo,hao⟩:=bt o5;obtain⟨cpy,hay⟩:=bt y5;have gn4:=bK.of (K:=K) (D4.D.at ?B5);cbv;refine D4.susF nmh aD Yf ?B q1 (λR hR=>?_) λAq1 l1 D5=>?_
 ·cbv;rw[Jk nmh x5];exact hR
 cbv;refine D5.comF nmh aD Yf q2 λAq2 D6=>?_;cbv;refine D6.tellF nmh aD rfl rfl Yf ?B q3 λAq3 l3 ys3 D7 _ _=>?_;have gn7:=bK.of (K:=K) (D7.D.at ?B5);cbv;refine D7.susF nmh aD Yf ?B q4 (λR hR=>?_) λAq4 l4 D8=>?_
 ·cbv;rw[Jk nmh o5];exact hR
 cbv;refine D8.renF nmh aD rfl rfl Yf ?B q5 λAq5 l5 D9=>?_;have ln9:∀k∈yG [w',r,x],k<((cz ?AJ (.ren w')).map ?W).length:=λk hk=>by
  rw[Yk,cX,cX,cX,cX,cX,wg];exact ltx k (xf hk)
 generalize cz ?AJ (.ren w')=M1 at D9 k2 eb ln9;cbv;intro p1 Aq6 hp1 s6 g6;cbv;refine⟨p1,iN [w',r,x],rfl,bK.of g6,by show 3<64;decide,λp2 ms hp2 pm sr=>?_⟩;obtain rfl:=Io pm sr ndx ltx;rw[Jr];have D10:=(D9.same s6).add (aH hp2) hp2 (aA (o:=HO.lst (DG (yG [w',r,x]))));cbv;refine⟨D1,p2,rfl,ps,_,_,_,yG [w',r,x],D10,Yh _ Yf,Yf,ln9,by rw[Ad ndx ltx];show 3<=4;decide,by decide,λAq7 D11=>?_⟩;have D11:=(D11.runF nmh k2).less (ls':=?CX::[?P]) λe he=>Yh _ he;rw[<-eb]at D11;have k3:(vU (b2 o w' r x y) (.hea o w')&&(vU (cz (b2 o w' r x y) (.hea o w')) (.com o)&&(vU ?CZ (.hea w' o)&&(vU (cz ?CZ (.hea w' o)) (.sus w' 0)&&(vU (cz (cz ?CZ (.hea w' o)) (.sus w' 0)) (.ren w')&&true)))))=true:=k3;obtain⟨q1,k3⟩:=Yj.mp k3;obtain⟨q2,k3⟩:=Yj.mp k3;obtain⟨q3,k3⟩:=Yj.mp k3;obtain⟨q4,k3⟩:=Yj.mp k3;obtain⟨q5,_⟩:=Yj.mp k3;have lb:(b2 o w' r x y).length=5:=by
  unfold b2;rw[j8,j8,wg]
 have ed:d2 o w' r x y=cz (cz (cz ?CZ (.hea w' o)) (.sus w' 0)) (.ren w'):=rfl;generalize b2 o w' r x y=M2 at D11 q1 q2 q3 q4 q5 f1 lb ed;cbv;refine D11.tellF nmh aD rfl rfl Yf ?B q1 λB1 l1 ys1 D12 gl1 ev1=>?_;rw[f1]at ev1;have ev1:vz B1 ys1 [.out (0+ nu)]:=ev1;rw[mM]at ev1;cbv;intro t1 B2 ht1 sB2 gB2;cbv;intro l2 B3 hl2 sB3 gB3;have s13:=sB2.trans sB3;refine uy (vV (s13 _ _ gl1) (j7 (.same s13) ev1)) (vV gB3 (.cons ⟨t1,rfl,sB3 _ _ gB2⟩ .nil)) (O8 _) (Pb _) ?_;have D13:=D12.same s13;cbv;refine D13.comF nmh aD Yf q2 λB4 D14=>?_;cbv;refine D14.tellF nmh aD rfl rfl Yf ?B q3 λB5 l5 ys5 D15 _ _=>?_;cbv;refine D15.susF (k0:=0) nmh aD Yf ?B q4 (λR hR=>?_) λB6 l6 D16=>?_
 ·cbv;exact hR
 cbv;refine D16.renF nmh aD rfl rfl Yf ?B q5 λB7 l7 D17=>?_;rw[<-ed]at D17;have ld:(d2 o w' r x y).length=5:=by rw[ed,cX,cX,cX,cX,cX,lb]
 have ee:e2 o w' r x y=iy (d2 o w' r x y) (lM (yG [o,w',r,x]) 4):=rfl;generalize d2 o w' r x y=M3 at D17 k4 ld ee;cbv;intro p3 B8 hp3 s8 g8;cbv;refine⟨p3,iN [o,w',r,x],rfl,bK.of g8,by show 4<64;decide,λp4 ms hp4 pm sr=>?_⟩;obtain rfl:=Io pm sr nd4 lt4;rw[Jr];have D18:=(D17.same s8).add (aH hp4) hp4 (aA (o:=HO.lst (DG (yG [o,w',r,x]))));cbv;refine⟨D1,p4,rfl,ps,_,_,_,yG [o,w',r,x],D18,Yh _ Yf,Yf,(λk hk=>by rw[Yk,ld];exact lt4 k (xf hk)),by rw[Ad nd4 lt4];show 4<=4;decide,by decide,λC1 D19=>?_⟩;have D19:=(D19.runF nmh k4).less (ls':=?CX::[?P]) λe he=>Yh _ he;rw[<-ee]at D19;have le:(e2 o w' r x y).length=5:=by rw[ee,j8,ld]
 have eh:h2 o w' r x y=iy (cz (e2 o w' r x y) (.ren o)) (lM (yG [o,w',r]) 4):=rfl;generalize e2 o w' r x y=M4 at D19 k5 k6 f2 le eh;obtain⟨q,eq,f2⟩:=af.mp f2;cbv;refine D19.std aD Yf (HY ?D) (by rw[kj ?D];exact jN eq) λC2 u sC2 gC2=>?_;have gC2:C2 u=Ya (.tup [.int (q.1+ nu),.int (fS a b q.2.1)]):=gC2;rw[show q.1=2 from congrArg (·.1) f2,show q.2.1=g2 o w' r x from congrArg (·.2) f2,mN 2 nu]at gC2;cbv;intro u2 C3 hu2 sC3 gC3;refine uy (Up (sC3 _ _ gC2)) (Up gC3) (acA _ _) (acF _ _) ?_;have D20:=D19.same (sC2.trans sC3);cbv;refine D20.renF nmh aD rfl rfl Yf ?B k5 λC4 l8 D21=>?_;have lf:(cz M4 (.ren o)).length=5:=by rw[cX,le]
 generalize cz M4 (.ren o)=M5 at D21 k6 lf eh;cbv;intro p5 C5 hp5 sC5 gC5;cbv;refine⟨p5,iN [o,w',r],rfl,bK.of gC5,by show 3<64;decide,λp6 ms hp6 pm sr=>?_⟩;obtain rfl:=Io pm sr nd3 lt3;rw[Jr];have D22:=(D21.same sC5).add (aH hp6) hp6 (aA (o:=HO.lst (DG (yG [o,w',r]))));cbv;refine⟨D1,p6,rfl,ps,_,_,_,yG [o,w',r],D22,Yh _ Yf,Yf,(λk hk=>by rw[Yk,lf];exact lt3 k (xf hk)),by rw[Ad nd3 lt3];show 3<=4;decide,by decide,λC6 D23=>?_⟩;have D23:=(D23.runF nmh k6).less (ls':=?CX::[?P]) λe he=>Yh _ he;rw[<-eh]at D23;have lh:(h2 o w' r x y).length=5:=by rw[eh,j8,lf]
 generalize h2 o w' r x y=M6 at D23 f3 f4 lh;have gn6:=bK.of (K:=K) (D23.D.at ?B5);cbv;intro sm C7 hsm sC7 gC7;have gn7':=sC7.seq gn6;cbv;refine⟨nl,sm,rfl,a,b,5,[o,w',r],nmh,by decide,gn7',bK.of gC7,nd3,lt3,by show 3<=5;decide,λC8 sC8=>?_⟩;have D24:=D23.same (sC7.trans sC8);have gn8:=bK.of (K:=K) (D24.D.at ?B5);cbv;intro te C9 hte sC9 gC9;rw[Jk nmh y5,X7 nmh (Im _) (eF _)]at gC9;have ev:∀{H:Hp},H te=Ya (.tup [.str "list",.int (nu+ 3),.int (fS a b (YQ (tH (iN [o,w',r])) (2^y))),.int (fS a b (tH (iN [o,w',r]))),.int (fS a b (2^y))])->EvA H (.ref te) (fE a b nu (v2 o w' r y)):=fun{H} g=>⟨te,rfl,by rw[mN]at g;exact g⟩;have D25:=D24.add sC9 hte gC9;obtain⟨ds,f3⟩:=qS.mp f3;obtain⟨ds',f4⟩:=qS.mp f4;cbv;refine D25.evs aD ?B5 (HY ?D) λF1 l9 xs sF1 hl9 gF1 ex=>?_;rw[kj ?D]at ex;have ex:vz F1 xs ((gL M6 o).lg.map ?GT):=ex;rw[f3,YG]at ex;obtain⟨ys,v,rfl,hv⟩:=O4 ex;have sF:=bK.of (K:=K) gF1;have D26:=D25.same sF1;cbv;refine uK sF (PN ys v) ?_;cbv;refine qi (MJ hv) (MJ (ev (D26.D.at Yf))) (Vu _) (Wt _) ?_;cbv;refine D26.evs aD ?B5 (HY ?D) λF2 l10 xs2 sF2 hl10 gF2 ex2=>?_;rw[kj ?D]at ex2;have ex2:vz F2 xs2 ((gL M6 w').lg.map ?GT):=ex2;rw[f4,YG]at ex2;obtain⟨ys2,v2,rfl,hv2⟩:=O4 ex2;have sG:=bK.of (K:=K) gF2;have D27:=D26.same sF2;cbv;refine uK sG (PN ys2 v2) ?_;cbv;refine qi (MJ hv2) (MJ (ev (D27.D.at Yf))) (Vu _) (Wt _) ?_;cbv;exact kk _ λstt=>(D27.D.drop stt).less λe he=>Yh _ (Yh _ he)
noncomputable def g3(o w:Nat):Int:=tH (iN [o,w])
noncomputable def a3(o w u v:Nat):List Hs:=cz (cz (cz (cz (cz (Gq 4 (g3 o w)) (.com v)) (.hea u v)) (.com u)) (.hea o u)) (.ren o)
noncomputable def b3(o w u v:Nat):List Hs:=iy (a3 o w u v) (lM (yG [o,w,u]) 4)
noncomputable def d3(o w u v:Nat):List Hs:=iy (cz (b3 o w u v) (.ren u)) (lM (yG [o,w,u]) 4)
noncomputable def v3(o w u:Nat):Ev:=.lst 2 (tH (iN [o,w,u])) (tH (iN [o,w,u])) 0
noncomputable def c3(o w u v:Nat):Bool:=rW (Gq 4 (g3 o w)) [.com v,.hea u v,.com u,.hea o u,.ren o]&&rW (a3 o w u v) (lM (yG [o,w,u]) 4)&&vU (b3 o w u v) (.ren u)&&rW (cz (b3 o w u v) (.ren u)) (lM (yG [o,w,u]) 4)&&
 decide ((gL (cz (cz (Gq 4 (g3 o w)) (.com v)) (.hea u v)) u).lg.drop (gL (cz (Gq 4 (g3 o w)) (.com v)) u).lg.length=[])&&decide ((gL (d3 o w u v) u).lg.getLast?=Ya (v3 o w u))
theorem an2:∀t:vk 4,c3 (jT t 4 0) (jT t 4 1) (jT t 4 2) (jT t 4 3)=true:=by decide +kernel
theorem apT(t:Nat):trs t 4=[jT t 4 0,jT t 4 1,jT t 4 2,jT t 4 3]:=rfl
theorem nd4:∀t:vk 4,(trs t 4).Nodup:=by decide
def pM(K:Yd)(mg:Ym->Option Ye)(P_mk:Yc):Sp:=λvs H Q _=>E3 fun(nl:Yc) (t:Nat) (nu:Int)=>vs=[.ref nl,.int t,.int nu]/\(E2 λa b=>A4 (Nm a b) (t<4) ?EK ?DM)
theorem cM:aF ["_law_names","_law_turn","_law_number","_law_one","_law_two","_law_u","_law_v","_law_group","_law_hands_here","_law_three"] nj (az kh):=iw
include eV lX lV cV bc lZ cQ bW uo dg cF eY BP_Hand___init__ mV jj ji fV gR dN dU mR d7 aC aD nJ dB eE bC aY bR in
theorem CK(F:cB K "_law_heard_outside" "_law_heard_outside" kh f fd):∅ 15 f fd nj (pM K mg P_mk):=by
 refine F.oj cM ?_;rintro _ _ _ _ _ _ _ _ hr hu64 _ _ ⟨nl,t,nu,rfl,h⟩;refine⟨_,(ak (Wo (cP ["_law_turn","_law_k"] [Ya 1,Yb] rfl rfl ?J (uw rfl mR ?B7) ?AD ?AA ?D0) (O3 (K:=K) (n:=4) rfl rfl (cU (aO (i:=3) cM.nd rfl ?E) (cU (aO (i:=4) cM.nd rfl ?E) (cU (aO (i:=5) cM.nd rfl ?E) (cU (aO (i:=6) cM.nd rfl ?E) um))))))
   (ak (bA (i:=7) cM.nd rfl ?IC (bw fV gR hr (aj ?Q ?EQ)))
   (ak (Gh (i:=8) ["_law_group","_law_number","_law_name"] [Ya 7,Ya 2,Yb] cM.nd rfl ?E rfl rfl ?J (bM (K:=K) rfl (oJ ?G5 ?Q xF (qP aB))) ?CL ?AA ?AN)
   (ak (aP (bh ?DZ (aM ?K (pv 8) (pv 6) ?G) hr))
   (ak (cZ (bL ?EJ (aV ?BL ?G6 hr (aj (dF (aM ?K (pv 8) (pv 6) ?G) aC.cl aY cV hr bc ?O fc) ao)) (dZ ao) ?BM) ?GL bN)
   (ak (aP (bh ?DZ ?G6 hr))
   (ak (aP (aV ?BL (aM ?K (pv 8) ?BW ?G) hr (aj (dF ?G6 aC.cl aY cV hr bc ?O fc) ao)))
   (ak (aP (dF (aM ?K (pv 8) ?BW ?G) aC.cl bR cQ hr bW ?AB fc))
   (ak (aP (bw dN dU hr (aj (pv 8) (aj (cL jt ?AE d7 ae ?BO) ?B7))))
   (ak (aP (dF ?G6 aC.cl bR cQ hr bW ?AB fc))
   (ak (aP (bw dN dU hr (aj (pv 8) (aj (cL jt ?AE d7 ae ?BO) ?B7))))
   (ak (bA (i:=9) cM.nd rfl ?E (bw fV gR hr (aj ?Q ?BO)))
   (aq (aX (ie ?B8 (aM ?K (bh (cj.cons aC.cl eE lX lV cj.nil) ?G6 hr) (K3 acO aB) ?G) (dY (aj oV (aj ?IU (aj (pv 9) (aj (pv 9) ?B7))))) ?BM))))))))))))))),?_⟩
 refine ani ?_;intro _ _ _ _ _ _ _ _ _ _ _;obtain⟨a,b,nmh,t4,DL,kk⟩:=h;have c:=an2 ⟨t,t4⟩;have nd:=nd4 ⟨t,t4⟩;cbv;refine⟨_,rfl,by decide,by decide,λEq1 hE1=>?_⟩;refine mkT (t:=t) (n:=4) ?B ?B hE1 λH1 s1 g1=>?_;have DL1:=λstt=>(DL stt).same s1;have o5:=mY (t:=t) (n:=4) (k:=0) ?B;have w5:=mY (t:=t) (n:=4) (k:=1) ?B;have u5:=mY (t:=t) (n:=4) (k:=2) ?B;have v5:=mY (t:=t) (n:=4) (k:=3) ?B;rw[apT]at g1 nd;have c:c3 (jT t 4 0) (jT t 4 1) (jT t 4 2) (jT t 4 3)=true:=c;have nd:[jT t 4 0,jT t 4 1,jT t 4 2,jT t 4 3].Nodup:=nd;generalize jT t 4 0=o at c o5 g1 nd;generalize jT t 4 1=w' at c w5 g1 nd;generalize jT t 4 2=u at c u5 g1 nd;generalize jT t 4 3=v at c v5 g1 nd;unfold c3 at c;obtain⟨c,f2⟩:=Yj.mp c;obtain⟨c,f1⟩:=Yj.mp c;obtain⟨c,k4⟩:=Yj.mp c;obtain⟨c,k3⟩:=Yj.mp c;obtain⟨c,k2⟩:=Yj.mp c;have f1:=of_decide_eq_true f1;have f2:=of_decide_eq_true f2;have m0:g3 o w'=tH (iN [o,w']):=rfl;have nd2:[o,w'].Nodup:=nd.sublist ?N;have nd3:[o,w',u].Nodup:=nd.sublist ?N;have lt2:∀k∈[o,w'],k<5:=λk hk=>by
  simp only[Yz,fi,or_false]at hk;omega
 have lt3':∀k∈[o,w',u],k<4:=λk hk=>by
  simp only[Yz,fi,or_false]at hk;omega
 have lt3:∀k∈[o,w',u],k<5:=λk hk=>by have:=lt3' k hk;omega
 have g1:H1 Eq1=Ya (.lst [V.int (o:Int),V.int (w':Int),V.int (u:Int),V.int (v:Int)]):=g1;refine Wg (bK.of g1) rfl ?_;have gn1:=bK.of (K:=K) ((DL1 λ_=>hz).at Yf);cbv;intro sl H2 hsl s2 g2';have gn2:=s2.seq gn1;cbv;refine⟨nl,sl,rfl,a,b,5,[o,w'],nmh,by decide,gn2,bK.of g2',nd2,lt2,by show 2<=5;decide,λH3 s3=>?_⟩;have DL3:=λstt=>(DL1 stt).same ?EO;have gn3:=bK.of (K:=K) ((DL3 λ_=>hz).at Yf);have gp:0<fS a b (tH (iN [o,w'])):=V5 nmh (k:=o) ?D ?D (O7 (so:=[o,w']) (k:=o) Yf);rw[<-m0]at gp⊢;have g0:0<=g3 o w':=Im _;cbv;intro nq H3' hq s3' g3';have e4:K6 ?IW Yb (Ya 4)=(rP a b 4).map V.int:=by kernel_rfl
 rw[e4]at g3';have DL4:∀stt,Wn K mg P_mk H3' [] stt [(nq,HO.lst ((rP a b 4).map V.int)),?P]:=λstt=>(DL3 stt).add s3' hq g3';have gq:=bK.of (K:=K) g3';cbv;intro D1 hD1;refine mkH aD aC nmh ?B g0 gp DL4 Yf hD1 λH4 ps D4=>?_;have D4:=D4.less (ls':=?CX::[?P]) λe he=>by
  rcases Yz.mp he with rfl|he
  ·exact Yf
  ·exact Yh _ (Yh _ he)
 have c:(vU (Gq 4 (g3 o w')) (.com v)&&(vU (cz (Gq 4 (g3 o w')) (.com v)) (.hea u v)&&(vU ?C0 (.com u)&&(vU (cz ?C0 (.com u)) (.hea o u)&&(vU (cz (cz ?C0 (.com u)) (.hea o u)) (.ren o)&&true)))))=true:=c;obtain⟨q1,c⟩:=Yj.mp c;obtain⟨q2,c⟩:=Yj.mp c;obtain⟨q3,c⟩:=Yj.mp c;obtain⟨q4,c⟩:=Yj.mp c;obtain⟨q5,_⟩:=Yj.mp c;have ea:a3 o w' u v=cz (cz (cz ?C0 (.com u)) (.hea o u)) (.ren o):=rfl;have la:(a3 o w' u v).length=4:=by rw[ea,cX,cX,cX,cX,cX,wg]
 cbv;refine D4.comF nmh aD Yf q1 λAq1 D5=>?_;cbv;refine D5.tellF nmh aD rfl rfl Yf ?B q2 λAq2 l2 ys2 D6 gl2 ev2=>?_;rw[f1]at ev2;cases ev2;cbv;intro l3 Aq3 hl3 s3a g3a;refine alW (s3a _ _ gl2) g3a ?_;have D7:=D6.same s3a;cbv;refine D7.comF nmh aD Yf q3 λAq4 D8=>?_;cbv;refine D8.tellF nmh aD rfl rfl Yf ?B q4 λAq5 l5 ys5 D9 _ _=>?_;cbv;refine D9.renF nmh aD rfl rfl Yf ?B q5 λAq6 l6 D10=>?_;rw[<-ea]at D10;have eb:b3 o w' u v=iy (a3 o w' u v) (lM (yG [o,w',u]) 4):=rfl;generalize a3 o w' u v=M1 at D10 k2 la eb;cbv;intro p1 Aq7 hp1 s7 g7;cbv;refine⟨p1,iN [o,w',u],rfl,bK.of g7,by show 3<64;decide,λp2 ms hp2 pm sr=>?_⟩;obtain rfl:=Io pm sr nd3 lt3;rw[Jr];have D11:=(D10.same s7).add (aH hp2) hp2 (aA (o:=HO.lst (DG (yG [o,w',u]))));cbv;refine⟨D1,p2,rfl,ps,_,_,_,yG [o,w',u],D11,Yh _ Yf,Yf,(λk hk=>by rw[Yk,la];exact lt3' k (xf hk)),by rw[Ad nd3 lt3];show 3<=4;decide,by decide,λB1 D12=>?_⟩;have D12:=(D12.runF nmh k2).less (ls':=?CX::[?P]) λe he=>Yh _ he;rw[<-eb]at D12;have lb:(b3 o w' u v).length=4:=by rw[eb,j8,la]
 have ed:d3 o w' u v=iy (cz (b3 o w' u v) (.ren u)) (lM (yG [o,w',u]) 4):=rfl;generalize b3 o w' u v=M2 at D12 k3 k4 lb ed;cbv;refine D12.renF nmh aD rfl rfl Yf ?B k3 λB2 l7 D13=>?_;have lc:(cz M2 (.ren u)).length=4:=by rw[cX,lb]
 generalize cz M2 (.ren u)=M3 at D13 k4 lc ed;cbv;intro p3 B3 hp3 s8 g8;cbv;refine⟨p3,iN [o,w',u],rfl,bK.of g8,by show 3<64;decide,λp4 ms hp4 pm sr=>?_⟩;obtain rfl:=Io pm sr nd3 lt3;rw[Jr];have D14:=(D13.same s8).add (aH hp4) hp4 (aA (o:=HO.lst (DG (yG [o,w',u]))));cbv;refine⟨D1,p4,rfl,ps,_,_,_,yG [o,w',u],D14,Yh _ Yf,Yf,(λk hk=>by rw[Yk,lc];exact lt3' k (xf hk)),by rw[Ad nd3 lt3];show 3<=4;decide,by decide,λB4 D15=>?_⟩;have D15:=(D15.runF nmh k4).less (ls':=?CX::[?P]) λe he=>Yh _ he;rw[<-ed]at D15;have ld:(d3 o w' u v).length=4:=by rw[ed,j8,lc]
 generalize d3 o w' u v=M4 at D15 f2 ld;have gn6:=bK.of (K:=K) (D15.D.at ?B5);cbv;intro sm B5 hsm sB5 gB5;have gn7:=sB5.seq gn6;cbv;refine⟨nl,sm,rfl,a,b,5,[o,w',u],nmh,by decide,gn7,bK.of gB5,nd3,lt3,by show 3<=5;decide,λB6 sB6=>?_⟩;have D16:=D15.same (sB5.trans sB6);obtain⟨ds,f2⟩:=qS.mp f2;cbv;refine D16.evs aD Yf (HY ?D) λF1 l9 xs sF1 hl9 gF1 ex=>?_;rw[kj ?D]at ex;have ex:vz F1 xs ((gL M4 u).lg.map ?GT):=ex;rw[f2,YG]at ex;obtain⟨ys,vv,rfl,hv⟩:=O4 ex;have sF:=bK.of (K:=K) gF1;have D17:=D16.same sF1;cbv;refine uK sF (PN ys vv) ?_;cbv;intro te F2 hte sF2 gF2;have ev:EvA F2 (.ref te) (fE a b nu (v3 o w' u)):=⟨te,rfl,by rw[mN]at gF2;exact gF2⟩;refine qi (MJ (hv.up (.same sF2))) (MJ ev) (Vu _) (Wt _) ?_;cbv;exact kk _ λstt=>((D17.same sF2).D.drop stt).less λe he=>Yh _ he
noncomputable def z4(o w x:Nat):List Hs:=cz (Gq 3 (g3 o w)) (.com x)
noncomputable def l4(o w x:Nat):WT:=Ec (gL (z4 o w x) x)
noncomputable def a4(o w x:Nat):List Hs:=cz (cz (z4 o w x) (.hrl o (l4 o w x))) (.ren o)
noncomputable def b4(o w x:Nat):List Hs:=iy (a4 o w x) (lM [0,1,2] 4)
noncomputable def d4(o w x:Nat):List Hs:=cz (cz (b4 o w x) (.sus o (2^x))) (.ren o)
noncomputable def e4(o w x:Nat):List Hs:=iy (d4 o w x) (lM (yG [o,w]) 4)
noncomputable def h4(o w x:Nat):List Hs:=cz (cz (cz (e4 o w x) (.hrl o (l4 o w x))) (.sus o 0)) (.ren o)
noncomputable def i4(o w x:Nat):List Hs:=iy (h4 o w x) (lM (yG [o,w]) 4)
noncomputable def v4(o w x:Nat):Ev:=.lst 3 (YQ (g3 o w) (2^x)) (g3 o w) (2^x)
noncomputable def c4(o w x:Nat):Bool:=vU (Gq 3 (g3 o w)) (.com x)&&vU (z4 o w x) (.hrl o (l4 o w x))&&vU (cz (z4 o w x) (.hrl o (l4 o w x))) (.ren o)&&rW (a4 o w x) (lM [0,1,2] 4)&&vU (b4 o w x) (.sus o (2^x))&&vU (cz (b4 o w x) (.sus o (2^x))) (.ren o)&&rW (d4 o w x) (lM (yG [o,w]) 4)&&vU (e4 o w x) (.hrl o (l4 o w x))&&vU (cz (e4 o w x) (.hrl o (l4 o w x))) (.sus o 0)&&vU (cz (cz (e4 o w x) (.hrl o (l4 o w x))) (.sus o 0)) (.ren o)&&rW (h4 o w x) (lM (yG [o,w]) 4)&&vU (i4 o w x) (.hea x o)&&((gL (z4 o w x) x).st.isNone&&(gL (z4 o w x) x).wb.isNone)&&
 decide (((gL (i4 o w x) x).st.map λq=>(q.1,q.2.1))=Ya (1,YQ (g3 o w) (2^x)))&&decide ((gL (cz (i4 o w x) (.hea x o)) x).lg.drop (gL (i4 o w x) x).lg.length=[.out 1,v4 o w x])
theorem anT:∀t:vk 3,c4 (jT t 3 0) (jT t 3 1) (jT t 3 2)=true:=by decide +kernel
structure OkB(b:Bool):Prop where
 h:b=true
structure OkP(p:Prop):Prop where
 h:p
theorem nd3:∀t:vk 3,(trs t 3).Nodup:=by decide
theorem ajh(d e:Ev):(BC [evD d,evD e]).depth<=60:=by cases d<;>cases e<;>simp[evD,As,ve]
theorem aiu(d e:Ev):(BC [evD d,evD e]).canLay0=true:=by rw[vn];exact V6 [d,e]
def nA(K:Yd)(mg:Ym->Option Ye)(P_mk:Yc):Sp:=λvs H Q _=>E3 fun(nl:Yc) (t:Nat) (nu:Int)=>vs=[.ref nl,.int t,.int nu]/\(E2 λa b=>A4 (Nm a b) (t<3) ?EK (∀H',Q (.bl true) H'))
theorem bV:aF ["_law_names","_law_turn","_law_number","_law_one","_law_two","_law_x","_law_group","_law_hands_here","_law_letter","_law_event","_law_found"] nj (az ju):=iw
variable{Hh:Yc}{FQ:Yt}(Hq:∅ 14 Hh FQ aZ (vg K mg))(Gz:Binds K FQ aZ [])(jW:bY K bf "strays" Hh)
include eV jA iC cV bc lZ cQ bW uo gW gU dg cF eY BP_Hand___init__ mV jj ji Hq Gz fV gR dN dU mR d7 aC aD nJ dB bC aY bR cN jW cR in
theorem zO(F:cB K "_law_out_by_the_same" "_law_out_by_the_same" ju f fd):∅ 15 f fd nj (nA K mg P_mk):=by
 refine F.oj bV ?_;rintro _ _ _ _ H _ _ _ hr hu64 _ _ ⟨nl,t,nu,rfl,h⟩;refine⟨_,(ak (Wo (cP ["_law_turn","_law_k"] [Ya 1,Yb] rfl rfl ?J (uw rfl mR ?B7) ?AD ?AA ?D0) (O3 (K:=K) (n:=3) rfl rfl (cU (aO (i:=3) bV.nd rfl ?E) (cU (aO (i:=4) bV.nd rfl ?E) (cU (aO (i:=5) bV.nd rfl ?E) um)))))
   (ak (bA (i:=6) bV.nd rfl ?IC (bw fV gR hr (aj ?Q ?EQ)))
   (ak (Gh (i:=7) ["_law_group","_law_number","_law_name"] [Ya 6,Ya 2,Yb] bV.nd rfl ?E rfl rfl ?J (bM (K:=K) rfl (oJ ?G5 ?Q xF (qP aB))) ?CL ?AA ?AN)
   (ak (aP (bh ?DZ ?G7 hr))
   (ak (bA (i:=8) bV.nd rfl ?E (dF ?G7 aC.cl aY cV hr bc ?O fc))
   (ak (aP (aV ?BL ?C9 hr (aj (pv 8) ao)))
   (ak (aP (dF ?C9 aC.cl bR cQ hr bW ?AB fc))
   (ak (aP (bw dN dU hr (aj (pv 7) (aj (dZ (aj aB (aj aB ?B7))) ?B7))))
   (ak (aP (aV ?DY ?C9 hr (aj ?DU ao)))
   (ak (aP (dF ?C9 aC.cl bR cQ hr bW ?AB fc))
   (ak (aP (bw dN dU hr (aj (pv 7) (aj (cL jt ?AE d7 ae ?EQ) ?B7))))
   (ak (aP (aV ?BL ?C9 hr (aj (pv 8) ao)))
   (ak (aP (aV ?DY ?C9 hr ?B7))
   (ak (aP (dF ?C9 aC.cl bR cQ hr bW ?AB fc))
   (ak (aP (bw dN dU hr (aj (pv 7) (aj (cL jt ?AE d7 ae ?EQ) ?B7))))
   (ak (bA (i:=9) bV.nd rfl ?E (dY (aj oV (aj ?IU (aj (bU JP (pv 6) ?DU) (aj (pv 6) (aj ?DU ao)))))))
   (ak (cZ (bL ?EJ (bh (cj.cons aC.cl cN jA iC cj.nil) ?G7 hr) (dY (aj ?IU (aj (bU JP (pv 6) ?DU) ao))) ?BM) ?GL bN)
   (ak (bA (i:=10) bV.nd rfl ?E (aV ?BL ?G7 hr (aj (dF ?C9 aC.cl aY cV hr bc ?O fc) ao)))
   (aq (aX (uz (ie ?B8 (pv 10) (dZ (aj (dY (aj oV (aj ?IU ao))) (aj (pv 9) ao))) ?BM) (uA (ie ?B8 (bh (cj.cons aC.cl jW Hq Gz cj.nil) ?G7 hr) (dZ ao) ?BM))))))))))))))))))))))),?_⟩
 refine apA ?_;intro _ _ _ _ _ _ _ _ _ _ _ _ _ _ _ _ _;obtain⟨a,b,nmh,t4,DL,kk⟩:=h;have c:=anT ⟨t,t4⟩;have nd:=nd3 ⟨t,t4⟩;cbv;refine⟨_,rfl,by decide,by decide,λEq1 hE1=>?_⟩;refine mkT (t:=t) (n:=3) ?B ?B hE1 λH1 s1 g1=>?_;have DL1:=λstt=>(DL stt).same s1;have o5:=mY (t:=t) (n:=3) (k:=0) ?B;have w5:=mY (t:=t) (n:=3) (k:=1) ?B;have x5:=mY (t:=t) (n:=3) (k:=2) ?B;rw[anq]at g1 nd;have c:c4 (jT t 3 0) (jT t 3 1) (jT t 3 2)=true:=c;have nd:[jT t 3 0,jT t 3 1,jT t 3 2].Nodup:=nd;generalize jT t 3 0=o at c o5 g1 nd;generalize jT t 3 1=w' at c w5 g1 nd;generalize jT t 3 2=x at c x5 g1 nd;unfold c4 at c;obtain⟨c,f2⟩:=Yj.mp c;obtain⟨c,f1⟩:=Yj.mp c;obtain⟨c,q13⟩:=Yj.mp c;obtain⟨c,q12⟩:=Yj.mp c;obtain⟨c,q11⟩:=Yj.mp c;obtain⟨c,q10⟩:=Yj.mp c;obtain⟨c,q9⟩:=Yj.mp c;obtain⟨c,q8⟩:=Yj.mp c;obtain⟨c,q7⟩:=Yj.mp c;obtain⟨c,q6⟩:=Yj.mp c;obtain⟨c,q5⟩:=Yj.mp c;obtain⟨c,q4⟩:=Yj.mp c;obtain⟨c,q3⟩:=Yj.mp c;obtain⟨q1,q2⟩:=Yj.mp c;replace q1:=OkB.mk q1;replace q2:=OkB.mk q2;replace q3:=OkB.mk q3;replace q4:=OkB.mk q4;replace q5:=OkB.mk q5;replace q6:=OkB.mk q6;replace q7:=OkB.mk q7;replace q8:=OkB.mk q8;replace q9:=OkB.mk q9;replace q10:=OkB.mk q10;replace q11:=OkB.mk q11;replace q12:=OkB.mk q12;replace q13:=OkB.mk q13;clear c;have f1:=of_decide_eq_true f1;have f2:=of_decide_eq_true f2;have m0:g3 o w'=tH (iN [o,w']):=rfl;have nd2:[o,w'].Nodup:=nd.sublist ?N;have lt2':∀k∈[o,w'],k<3:=λk hk=>by
  simp only[Yz,fi,or_false]at hk;omega
 have lt2:∀k∈[o,w'],k<5:=λk hk=>by have:=lt2' k hk;omega
 have g1:H1 Eq1=Ya (.lst [V.int (o:Int),V.int (w':Int),V.int (x:Int)]):=g1;refine Wg (bK.of g1) rfl ?_;have gn1:=bK.of (K:=K) ((DL1 λ_=>hz).at Yf);cbv;intro sl H2 hsl s2 g2';have gn2:=s2.seq gn1;cbv;refine⟨nl,sl,rfl,a,b,5,[o,w'],nmh,by decide,gn2,bK.of g2',nd2,lt2,by show 2<=5;decide,λH3 s3=>?_⟩;have DL3:=λstt=>(DL1 stt).same ?EO;have gn3:=bK.of (K:=K) ((DL3 λ_=>hz).at Yf);have gp:0<fS a b (tH (iN [o,w'])):=V5 nmh (k:=o) ?D ?D (O7 (so:=[o,w']) (k:=o) Yf);rw[<-m0]at gp⊢;have g0:0<=g3 o w':=Im _;cbv;intro nq H3' hq s3' g3';have e3:K6 ?IW Yb (Ya 3)=(rP a b 3).map V.int:=by kernel_rfl
 rw[e3]at g3';have DL4:∀stt,Wn K mg P_mk H3' [] stt [(nq,HO.lst ?DS),?P]:=λstt=>(DL3 stt).add s3' hq g3';have gq:=bK.of (K:=K) g3';cbv;intro D1 hD1;refine mkH aD aC nmh ?B g0 gp DL4 Yf hD1 λH4 ps D4=>?_;have D4:=D4.less (ls':=?CX::[?P]) λe he=>by
  rcases Yz.mp he with rfl|he
  ·exact Yf
  ·exact Yh _ (Yh _ he)
 have x5':x<5:=by omega
 have hr:=BZ nmh (k:=x) ?D ?D;have cpx:acl 1 (nm a b x):=⟨hr.1,by omega,by decide⟩;have hax:mq ?IW x=Ya (V.int (nm a b x)):=eN (by rw[Yw,Ii,Yw,ij ?D];rfl);cbv;refine D4.comF nmh aD Yf q1.h λAq1 D5=>?_;have D5:Sc K mg P_mk Aq1 ps ((z4 o w' x).map ?W) _ _:=D5;have lz:(z4 o w' x).length=3:=by show(cz _ _).length=3;rw[cX,wg]
 have el:OkP (l4 o w' x=Ec (gL (z4 o w' x) x)):=⟨rfl⟩;have ea:OkP (a4 o w' x=cz (cz (z4 o w' x) (.hrl o (l4 o w' x))) (.ren o)):=⟨rfl⟩;generalize z4 o w' x=M0 at D5 q2 q3 lz el ea q13;obtain⟨q13,q14⟩:=Yj.mp q13.h;have sn:=qE.mp q13;have wn:=qE.mp q14;clear q13 q14;cbv;refine D5.ltrA aD rfl rfl Yf (HY ?D) (by rw[kj ?D];exact uh sn) λAq2 lu sA2 hlu la wt=>?_;rw[kj ?D,akc,<-el.h]at wt;replace wt:=OkP.mk wt;rw[kj ?D]at la;have la:LaA Aq2 lu (nm a b (gL M0 x).me) (gL M0 x).wi (fW a b nu (gL M0 x).wb):=la;rw[wn]at la;obtain⟨wv,gu,rfl⟩:=la;have lA:∀{H:Hp},H lu=Ya (.tup [.str "away",.int (nm a b (gL M0 x).me),.bl (gL M0 x).wi,.non])->Th H lu (fT a b nu (l4 o w' x)):=fun{H} g=>by
  rw[el.h];unfold Ec;rw[sn];show LaA H lu (nm a b (gL M0 x).me) (gL M0 x).wi (fW a b nu (gL M0 x).wb);rw[wn];exact⟨.non,g,rfl⟩
 have D6:=D5.add sA2 hlu gu;cbv;refine D6.hrlF nmh aD ?B5 ?B q2.h (lA gu) wt.h (λR hR=>?_) λAq3 l3 D7 _=>?_
 ·cbv;exact hR
 cbv;refine D7.renF nmh aD rfl rfl ?B5 ?B q3.h λAq4 l4' D8=>?_;rw[<-ea.h]at D8;have la':(a4 o w' x).length=3:=by rw[ea.h,cX,cX,lz]
 have eb:OkP (b4 o w' x=iy (a4 o w' x) (lM [0,1,2] 4)):=⟨rfl⟩;generalize a4 o w' x=M1 at D8 q4 la' eb;cbv;intro p1 Aq5 hp1 s5 g5;have D9:=D8.add s5 hp1 (show Aq5 p1=Ya (HO.lst (DG [0,1,2]))from g5);cbv;refine⟨D1,p1,rfl,ps,_,_,_,[0,1,2],D9,Yh _ ?B5,Yf,(λk hk=>by rw[Yk,la'];simp only[Yz,fi,or_false]at hk;omega),by decide,by decide,λAq6 D10=>?_⟩;have D10:=(D10.runF nmh q4.h).less (ls':=(lu,HO.tup [.str "away",.int (nm a b (gL M0 x).me),.bl (gL M0 x).wi,.non])::(D1,HO.lst ?Z)::[?P]) λe he=>Yh _ he;rw[<-eb.h]at D10;have lb:(b4 o w' x).length=3:=by rw[eb.h,j8,la']
 have ed:OkP (d4 o w' x=cz (cz (b4 o w' x) (.sus o (2^x))) (.ren o)):=⟨rfl⟩;generalize b4 o w' x=M2 at D10 q5 q6 lb ed;have gn6:=bK.of (K:=K) (D10.D.at (Yh _ ?B5));cbv;refine D10.susF nmh aD ?B5 ?B q5.h (λR hR=>?_) λAq7 l7 D11=>?_
 ·cbv;rw[Jk nmh x5'];exact hR
 cbv;refine D11.renF nmh aD rfl rfl ?B5 ?B q6.h λAq8 l8 D12=>?_;rw[<-ed.h]at D12;have ld:(d4 o w' x).length=3:=by rw[ed.h,cX,cX,lb]
 have ee:OkP (e4 o w' x=iy (d4 o w' x) (lM (yG [o,w']) 4)):=⟨rfl⟩;generalize d4 o w' x=M3 at D12 q7 ld ee;cbv;intro p3 B1 hp3 s8 g8;cbv;refine⟨p3,iN [o,w'],rfl,bK.of g8,by show 2<64;decide,λp4 ms hp4 pm sr=>?_⟩;obtain rfl:=Io pm sr nd2 lt2;rw[Jr];have D13:=(D12.same s8).add (aH hp4) hp4 (aA (o:=HO.lst (DG (yG [o,w']))));cbv;refine⟨D1,p4,rfl,ps,_,_,_,yG [o,w'],D13,Yh _ ?B5,Yf,(λk hk=>by rw[Yk,ld];exact lt2' k (xf hk)),by rw[Ad nd2 lt2];show 2<=4;decide,by decide,λB2 D14=>?_⟩;have D14:=(D14.runF nmh q7.h).less (ls':=(lu,HO.tup [.str "away",.int (nm a b (gL M0 x).me),.bl (gL M0 x).wi,.non])::(D1,HO.lst ?Z)::[?P]) λe he=>Yh _ he;rw[<-ee.h]at D14;have le:(e4 o w' x).length=3:=by rw[ee.h,j8,ld]
 have eh:OkP (h4 o w' x=cz (cz (cz (e4 o w' x) (.hrl o (l4 o w' x))) (.sus o 0)) (.ren o)):=⟨rfl⟩;generalize e4 o w' x=M4 at D14 q8 q9 q10 le eh;cbv;refine D14.hrlF nmh aD ?B5 ?B q8.h (lA (D14.D.at Yf)) wt.h (λR hR=>?_) λB3 l9 D15 _=>?_
 ·cbv;exact hR
 cbv;refine D15.susF (k0:=0) nmh aD ?B5 ?B q9.h (λR hR=>?_) λB4 l10 D16=>?_
 ·cbv;exact hR
 cbv;refine D16.renF nmh aD rfl rfl ?B5 ?B q10.h λB5 l11 D17=>?_;rw[<-eh.h]at D17;have lh:(h4 o w' x).length=3:=by rw[eh.h,cX,cX,cX,le]
 have ei:OkP (i4 o w' x=iy (h4 o w' x) (lM (yG [o,w']) 4)):=⟨rfl⟩;generalize h4 o w' x=M5 at D17 q11 lh ei;have D17:=D17.less (ls':=?CX::[?P]) λe he=>Yh _ he;cbv;intro p5 B6 hp5 s9 g9;cbv;refine⟨p5,iN [o,w'],rfl,bK.of g9,by show 2<64;decide,λp6 ms hp6 pm sr=>?_⟩;obtain rfl:=Io pm sr nd2 lt2;rw[Jr];have D18:=(D17.same s9).add (aH hp6) hp6 (aA (o:=HO.lst (DG (yG [o,w']))));cbv;refine⟨D1,p6,rfl,ps,_,_,_,yG [o,w'],D18,Yh _ Yf,Yf,(λk hk=>by rw[Yk,lh];exact lt2' k (xf hk)),by rw[Ad nd2 lt2];show 2<=4;decide,by decide,λC1 D19=>?_⟩;have D19:=(D19.runF nmh q11.h).less (ls':=?CX::[?P]) λe he=>Yh _ he;rw[<-ei.h]at D19;have li:(i4 o w' x).length=3:=by rw[ei.h,j8,lh]
 generalize i4 o w' x=M6 at D19 q12 f1 f2 li;have gn8:=bK.of (K:=K) (D19.D.at ?B5);cbv;intro te C2 hte sC2 gC2;rw[Jk nmh x5',X7 nmh g0 (eF _)]at gC2;have D20:=D19.add sC2 hte gC2;have ev:∀{H:Hp},H te=Ya (.tup [.str "list",.int (nu+ 3),.int (fS a b (YQ (g3 o w') (2^x))),.int (fS a b (g3 o w')),.int (fS a b (2^x))])->EvA H (.ref te) (fE a b nu (v4 o w' x)):=fun{H} g=>⟨te,rfl,by rw[mN]at g;exact g⟩;have gn9:=bK.of (K:=K) (D20.D.at (Yh _ ?B5));obtain⟨q,eq,f1⟩:=af.mp f1;cbv;refine D20.std aD ?B5 (HY ?D) (by rw[kj ?D];exact jN eq) λC3 u sC3 gC3=>?_;have gC3:C3 u=Ya (.tup [.int (q.1+ nu),.int (fS a b q.2.1)]):=gC3;rw[show q.1=1 from congrArg (·.1) f1,show q.2.1=YQ (g3 o w') (2^x)from congrArg (·.2) f1,mN 1 nu]at gC3;have gn10:=sC3.seq gn9;cbv;intro u2 C4 hu2 sC4 gC4;rw[Jk nmh x5',X7 nmh g0 (eF _)]at gC4;refine uy (Up (sC4 _ _ gC3)) (Up gC4) (acA _ _) (acF _ _) ?_;have D21:=D20.same (sC3.trans sC4);cbv;refine D21.tellF nmh aD rfl rfl ?B5 ?B q12.h λF1 lf ysf D22 glf evf=>?_;rw[f2]at evf;have evf:vz F1 ysf [.out (1+ nu),fE a b nu (v4 o w' x)]:=evf;rw[mN 1 nu]at evf;cbv;intro t1 F2 ht1 sF2 gF2;cbv;intro lg F3 hlg sF3 gF3;have s13:=sF2.trans sF3;have D23:=D22.same s13;refine qi (vV (s13 _ _ glf) (j7 (.same s13) evf)) (vV gF3 (.cons ⟨t1,rfl,sF3 _ _ gF2⟩ (.cons (ev (D23.D.at Yf)) .nil))) (aiu _ _) (ajh _ _) ?_;cbv;refine D23.str aD ?B5 (HY (by rw[cX];omega)) λF4 lst sF4 hlst gF4=>?_;cbv;intro lz2 F5 hlz sF5 gF5;refine qi (vV (es:=[]) (sF5 _ _ gF4) .nil) (vV (es:=[]) gF5 .nil) rfl ?B ?_;cbv;exact kk _
def Cv(K:Yd):Sp:=λvs H Q _=>E2 fun(a:Yc) (k:Int)=>vs=[.ref a,.int k]/\∃ns:List Int,bK K H a ?A1/\0<=k/\∀c:Int,Q (.int c) H
abbrev aa5:List Ym:=["_law_script","_law_k"]
theorem Oe:aF ["_law_script","_law_k"] aa5 (az u6):=iw
include eV oM in
theorem Om(F:cB K "_law_cell_at" "_law_cell_at" u6 f fd):∅ 1 f fd aa5 (Cv K):=by
 refine F.oj Oe ?_;rintro _ _ _ _ _ _ _ _ _ _ _ _ ⟨a,k,rfl,h⟩;refine⟨_,(ak (cZ (bL aab ?AU (cL ?EZ ?AE oM gF ?IS) ?BM) (aq (aX (aM ?K ?Q ?AU ?G))) bN)
   (aq (aX aB))),?_⟩
 obtain⟨ns,hS,h0,q⟩:=h;cbv;refine iu (λh1=>?_) λh1=>?_
 ·have h1:k<((ns.map V.int).length:Nat):=of_decide_eq_true h1;rw[Yk]at h1;have hx:k.toNat<ns.length:=by omega
  have hat:mq ?A1 k=Ya (V.int ns[k.toNat]):=ajU h0 (by rw[Yw,Yv hx];rfl);cbv;exact q _
 ·cbv;exact q _
theorem Wh:aF ["_law_script","_law_names","_law_number","_law_turn"] ["_law_script"] (az Ut):=iw
variable{Lb:Yc}{pO:Yc}{v7:Yc}{rO:Yc}{nQ:Yc}{Ff:Yc}{HW:Yt}{pB:Yt}{vm:Yt}{pP:Yt}{ni:Yt}{CG:Yt}(KQ:∅ 15 Lb HW X3 (GP K))(Li:iU K mg "_law_hands" Lb HW X3)(pK:∅ 15 pO pB nj (pG K mg P_mk))(pI:iU K mg "_law_plan_handed_on" pO pB nj)(wJ:∅ 15 v7 vm nj (uF K mg P_mk))(wV:iU K mg "_law_out_and_in" v7 vm nj)(rC:∅ 15 rO pP nj (pM K mg P_mk))(rA:iU K mg "_law_heard_outside" rO pP nj)(oO:∅ 15 nQ ni nj (nA K mg P_mk))(oW:iU K mg "_law_out_by_the_same" nQ ni nj)(oh:∅ 15 Ff CG aa5 (Cv K))(nZ:iU K mg "_law_cell_at" Ff CG aa5)
include eV KQ Li pK pI wJ wV rC rA oO oW oh nZ in
theorem amr(F:cB K "law" "law" Ut f fd):∅ 16 f fd ["_law_script"] (Ws K P_mk):=by
 refine F.oj Wh ?_;rintro _ _ _ _ H _ _ _ hr _ _ _ ⟨a,ns,rfl,h⟩;refine⟨_,(ak (bA (i:=1) Wh.nd rfl ?E (bw KQ Li hr (aj (bw oh nZ hr (aj ?Q ?B7)) ?B7)))
   (ak (bA (i:=2) Wh.nd rfl ?E (bU vJ (bw oh nZ hr (aj ?Q ?B7)) (bU jH (bU ak7 aB aB) aB)))
   (ak (bA (i:=3) Wh.nd rfl ?E (bw oh nZ hr (aj ?Q ?B7)))
   (ak (cZ (Az (du K rfl (bw pK pI hr (aj ?AU (aj (bU vJ ?BW aB) ?AW))))) ?GL bN)
   (ak (cZ (Az (du K rfl (bw wJ wV hr ?IJ))) ?GL bN)
   (ak (cZ (Az (du K rfl (bw rC rA hr ?IJ))) ?GL bN)
   (aq (aX (bw oO oW hr ?IJ))))))))),?_⟩
 refine xl7 ?_;intro _ _ _ _ _;obtain⟨hS,hlen,hP,kk⟩:=h;have tb:eX P_mk H:=.inl hP;cbv;refine⟨a,0,rfl,ns,hS,by decide,λc0=>?_⟩;cbv;refine⟨_,5,rfl,by decide,by decide,λH1 nl aa bb s1 hnl a0 a1 b0 b1 g1=>?_⟩;have g1:H1 nl=Ya (.lst ((rP aa bb 5).map V.int)):=g1;have nmh:=aoS a0 a1 b0 b1;have DL1:∀stt,Wn K mg P_mk H1 [] stt [(nl,HO.lst ((rP aa bb 5).map V.int))]:=λstt=>(Wn.nil (mg:=mg) tb).add s1 hnl g1;have hS1:=s1.seq hS;cbv;refine⟨a,1,rfl,ns,hS1,by decide,λc1=>?_⟩;cbv;refine⟨a,2,rfl,ns,hS1,by decide,λc2=>?_⟩;generalize c1%(10^tP 18+ 1)=nu;obtain⟨t1,e1⟩:=fg (nX c2 (show(3:Int)≠0 by decide));obtain⟨t2,e2⟩:=fg (nX (c2 / 3) (show(5:Int)≠0 by decide));obtain⟨t3,e3⟩:=fg (nX (c2 / 15) (show(4:Int)≠0 by decide));obtain⟨t4,e4⟩:=fg (nX (c2 / 60) (show(3:Int)≠0 by decide));have l1:=ku c2 (show(0:Int)<3 by decide);have l2:=ku (c2 / 3) (show(0:Int)<5 by decide);have l3:=ku (c2 / 15) (show(0:Int)<4 by decide);have l4:=ku (c2 / 60) (show(0:Int)<3 by decide);cbv;rw[e1];refine⟨nl,t1,nu,rfl,aa,bb,nmh,by omega,DL1,λH2 DL2=>?_⟩;cbv;rw[e2];refine⟨nl,t2,nu,rfl,aa,bb,nmh,by omega,DL2,λH3 DL3=>?_⟩;cbv;rw[e3];refine⟨nl,t3,nu,rfl,aa,bb,nmh,by omega,DL3,λH4 DL4=>?_⟩;cbv;rw[e4];exact⟨nl,t4,nu,rfl,aa,bb,nmh,by omega,DL4,λH'=>kk H'⟩
theorem ln2(h:us.length=2):∃a b,us=[a,b]:=match us,h with|[a,b],_=>⟨a,b,rfl⟩
theorem ln4(h:us.length=4):∃a b c d,us=[a,b,c,d]:=match us,h with|[a,b,c,d],_=>⟨a,b,c,d,rfl⟩
theorem ln5(h:us.length=5):∃a b c d e,us=[a,b,c,d,e]:=match us,h with|[a,b,c,d,e],_=>⟨a,b,c,d,e,rfl⟩
theorem ajB(tU:∅ 5 tW qR ["me","hands","reports","wishes"] (yp K))(tX:iU K mg "first_plan" tW qR ["me","hands","reports","wishes"]):∀f sp,OKs K mg f sp->(∃fd ps,∅ 6 f fd ps sp/\Binds K fd ps [])/\∀vs H Q E,sp vs H Q E->∃fo:Y6,?G3/\H f=Ya (FnO f fo):=by
 rintro f sp ⟨c',c1,c2,c3,pm,ctv,v1,v2,v3,nv,rfl⟩;exact⟨⟨_,_,Iv trivial nv tU tX,.all λus hl=>match us,hl with|[_],_=>rfl⟩,λvs H Q E h=>⟨_,⟨_,rfl⟩,h.1⟩⟩
end
end K68
namespace K68
open PySem L2
theorem akM:AM:=by
 intro l w K h mg fa f_0 f_1 f_2 f_3 f_4 f_5 f_6 f_7 f_8 f_9 f_10 f_11 f_12 f_13 f_14 f_15 f_16 f_17 f_18 f_19 f_20 f_21 f_22 f_23 f_24 f_25 f_26 f_27 f_28 f_29 f_30 f_31 f_32 f_33 f_34 f_35 f_36 f_37 f_38 f_39 f_40 f_41 f_42 f_43 f_44 f_45 f_46 f_47 f_48 f_49 f_50 f_51 f_52 f_53 f_54 f_55 f_56 f_57 f_58 f_59 f_60 f_61 f_62 f_63 f_64 f_65 f_66 f_67 f_68 f_69 f_70 f_71 f_72 f_73 f_74 f_75 f_76 f_77 f_78 f_79 f_80 f_81 f_82 f_83 f_84 f_85 f_86 f_87 f_88 f_89 f_90 f_91 bZ bf ig fK abF P_mk d_0 d_1 d_2 d_3 d_4 d_5 d_6 d_7 d_8 d_9 d_10 d_11 d_12 d_13 d_14 d_15 d_16 d_17 d_18 d_19 d_20 d_21 d_22 d_23 d_24 d_25 d_26 d_27 d_28 d_29 d_30 d_31 d_32 d_33 d_34 d_35 d_36 d_37 d_38 d_39 d_40 d_41 d_42 d_43 d_44 d_45 d_46 d_47 d_48 d_49 d_50 d_51 d_52 d_53 d_54 d_55 d_56 d_57 d_58 d_59 d_60 d_61 d_62 d_63 d_64 d_65 d_66 d_67 d_68 d_69 d_70 d_71 d_72 d_73 d_74 d_75 d_76 d_77 d_78 d_79 d_80 d_81 d_82 d_83 d_84 d_85 d_86 d_87 d_88 d_89 d_90 d_91 X G hfa oU dX fJ jM iM tk_LAST_HAND a_0 a_1 a_2 a_3 a_4 a_5 a_6 a_7 a_8 a_9 a_20 a_21 a_22 a_23 a_24 a_25 a_26 a_27 a_28 a_29 a_30 a_31 a_32 a_33 a_34 a_35 a_36 a_48 a_69 a_75 a_76 a_77 a_79 a_84 a_85 a_86 a_87 a_88 a_89 a_90 a_91 Xh afX ac9 ahd Hv ah2 agd akt J4 akg agn ake akm adC aka Xm akC adi jB dJ fX iK iQ iR iJ fU cW iT iH gY d8 dB je dM eE dO fM bC iI gH eQ jF aY dw bR dh cN cY cT jW cR fG jf iD iY mj jZ iW cu j9 jX lU fj oX nU Ez nJ Gj Qh F_0 F_1 F_2 F_3 F_4 F_5 F_6 F_7 F_8 F_9 F_10 F_11 F_12 F_13 F_14 F_15 F_16 F_17 F_18 F_19 F_20 F_21 F_22 F_23 F_24 F_25 F_26 F_27 F_28 F_29 F_30 F_31 F_32 F_33 F_34 F_35 F_36 F_37 F_38 F_39 F_40 F_41 F_42 F_43 F_44 F_45 F_46 F_47 F_48 F_49 F_50 F_51 F_52 F_53 F_54 F_55 F_56 F_57 F_58 F_59 F_60 F_61 F_62 F_63 F_64 F_65 F_66 F_67 F_68 F_69 F_70 F_71 F_72 F_73 F_74 F_75 F_76 F_77 F_78 F_79 F_80 F_81 F_82 F_83 F_84 F_85 F_86 F_87 F_88 F_89 F_90 F_91 aL aC bO bj FC hcd;have e:=hfa.symm.trans (W.mg_of X G a_91);cases e;have CA_0:iU K mg _ _ _ VD:=F_0.cal X G a_0;have CA_1:iU K mg _ _ _ acx:=F_1.cal X G a_1;have CA_2:iU K mg _ _ _ IK:=F_2.cal X G a_2;have CA_3:iU K mg _ _ _ sO:=F_3.cal X G a_3;have CA_4:iU K mg _ _ _ Ss:=F_4.cal X G a_4;have CA_5:iU K mg _ _ _ ["yes"]:=F_5.cal X G a_5;have CA_6:iU K mg _ _ _ yx:=F_6.cal X G a_6;have CA_7:iU K mg _ _ _ IK:=F_7.cal X G a_7;have CA_8:iU K mg _ _ _ ahZ:=F_8.cal X G a_8;have CA_9:iU K mg _ _ _ yx:=F_9.cal X G a_9;have B_10:Binds K _ aga []:=F_10.bq;have B_11:Binds K _ ahR []:=F_11.bq;have B_12:Binds K _ agx []:=F_12.bq;have B_13:Binds K _ Xl []:=F_13.bq;have B_14:Binds K _ aaj []:=F_14.bq;have B_15:Binds K _ aZ []:=F_15.bq;have B_16:Binds K _ aZ []:=F_16.bq;have B_17:Binds K _ aZ []:=F_17.bq;have B_18:Binds K _ aa8 []:=F_18.bq;have B_19:Binds K _ XF []:=F_19.bq;have CA_20:iU K mg _ _ _ yx:=F_20.cal X G a_20;have CA_21:iU K mg _ _ _ UT:=F_21.cal X G a_21;have CA_22:iU K mg _ _ _ Ss:=F_22.cal X G a_22;have CA_23:iU K mg _ _ _ yx:=F_23.cal X G a_23;have CA_24:iU K mg _ _ _ aaH:=F_24.cal X G a_24;have CA_25:iU K mg _ _ _ ["call"]:=F_25.cal X G a_25;have CA_26:iU K mg _ _ _ ["calls"]:=F_26.cal X G a_26;have CA_27:iU K mg _ _ _ X8:=F_27.cal X G a_27;have CA_28:iU K mg _ _ _ Xr:=F_28.cal X G a_28;have CA_29:iU K mg _ _ _ Xv:=F_29.cal X G a_29;have CA_30:iU K mg _ _ _ Dg:=F_30.cal X G a_30;have CA_31:iU K mg _ _ _ aa6:=F_31.cal X G a_31;have CA_32:iU K mg _ _ _ Dg:=F_32.cal X G a_32;have CA_33:iU K mg _ _ _ Ei:=F_33.cal X G a_33;have CA_34:iU K mg _ _ _ Ei:=F_34.cal X G a_34;have CA_35:iU K mg _ _ _ aal:=F_35.cal X G a_35;have CA_36:iU K mg _ _ _ aaT:=F_36.cal X G a_36;have B_37:Binds K _ Xc []:=F_37.bq;have B_38:Binds K _ aaZ []:=F_38.bq;have B_39:Binds K _ Hx []:=F_39.bq;have B_40:Binds K _ abd []:=F_40.bq;have B_41:Binds K _ aZ []:=F_41.bq;have B_42:Binds K _ aaM []:=F_42.bq;have B_43:Binds K _ aaX []:=F_43.bq;have B_44:Binds K _ aZ []:=F_44.bq;have B_45:Binds K _ aah []:=F_45.bq;have B_46:Binds K _ aZ []:=F_46.bq;have B_47:Binds K _ aZ []:=F_47.bq;have CA_48:iU K mg _ _ _ IK:=F_48.cal X G a_48;have B_49:Binds K _ aZ []:=F_49.bq;have B_50:Binds K _ v9 []:=F_50.binds λ_ _ _ _ _ _ _ us hl=>by obtain⟨a0,a1,a2,rfl⟩:=ln3 (us:=us) ?E4;exact⟨_,rfl,rfl⟩
 have aia:Binds K _ v9 [.int 0 oU,.none]:=F_50.binds λ_ _ _ _ _ _ _ us hl=>by obtain⟨a0,rfl⟩:=ln1 (us:=us) (by rw[YE]at hl;exact ez (m:=2) hl);exact⟨_,rfl,rfl⟩
 have B_51:Binds K _ XJ []:=F_51.bq;have B_52:Binds K _ XS []:=F_52.bq;have B_53:Binds K _ UG []:=F_53.bq;have B_54:Binds K _ aaB []:=F_54.bq;have B_55:Binds K _ aZ []:=F_55.bq;have B_56:Binds K _ aZ []:=F_56.bq;have B_57:Binds K _ aZ []:=F_57.bq;have B_58:Binds K _ U5 []:=F_58.bq;have B_59:Binds K _ aZ []:=F_59.bq;have B_60:Binds K _ U7 []:=F_60.bq;have B_61:Binds K _ aaQ []:=F_61.bq;have B_62:Binds K _ aZ []:=F_62.bq;have B_63:Binds K _ Ud []:=F_63.bq;have B_64:Binds K _ aZ []:=F_64.bq;have B_65:Binds K _ v9 []:=F_65.binds λ_ _ _ _ _ _ _ us hl=>by obtain⟨a0,a1,a2,rfl⟩:=ln3 (us:=us) ?E4;exact⟨_,rfl,rfl⟩
 have bc:Binds K _ v9 [.int 0 dX,.none]:=F_65.binds λ_ _ _ _ _ _ _ us hl=>by obtain⟨a0,rfl⟩:=ln1 (us:=us) (by rw[YE]at hl;exact ez (m:=2) hl);exact⟨_,rfl,rfl⟩
 have B_66:Binds K _ aZ []:=F_66.bq;have B_67:Binds K _ Nh []:=F_67.binds λ_ _ _ _ _ _ _ us hl=>by obtain⟨a0,a1,rfl⟩:=ln2 (us:=us) ?E4;exact⟨_,rfl,rfl⟩
 have bW:Binds K _ Nh [.int 1 fJ]:=F_67.binds λ_ _ _ _ _ _ _ us hl=>by obtain⟨a0,rfl⟩:=ln1 (us:=us) (by rw[YE]at hl;exact ez (m:=1) hl);exact⟨_,rfl,rfl⟩
 have B_68:Binds K _ Hx []:=F_68.bq;have CA_69:iU K mg _ _ _ aa1:=F_69.cal X G a_69;have B_70:Binds K _ jm []:=F_70.bq;have B_71:Binds K _ jm []:=F_71.bq;have B_72:Binds K _ jm []:=F_72.bq;have B_73:Binds K _ jm []:=F_73.bq;have B_74:Binds K _ jm []:=F_74.bq;have CA_75:iU K mg _ _ _ sO:=F_75.cal X G a_75;have CA_76:iU K mg _ _ _ sO:=F_76.cal X G a_76;have CA_77:iU K mg _ _ _ sO:=F_77.cal X G a_77;have B_78:Binds K _ K5 []:=F_78.binds λ_ _ _ _ _ _ _ us hl=>by obtain⟨a0,a1,a2,a3,a4,rfl⟩:=ln5 (us:=us) ?E4;exact⟨_,rfl,rfl⟩
 have aeH:Binds K _ K5 [.int 1 jM,.int 8 iM]:=F_78.binds λ_ _ _ _ _ _ _ us hl=>by obtain⟨a0,a1,a2,rfl⟩:=ln3 (us:=us) (by rw[YE]at hl;exact ez (m:=2) hl);exact⟨_,rfl,rfl⟩
 have BP_Hand___init__:Binds K _ K5 [.int 8 iM]:=F_78.binds λ_ _ _ _ _ _ _ us hl=>by obtain⟨a0,a1,a2,a3,rfl⟩:=ln4 (us:=us) (by rw[YE]at hl;exact ez (m:=1) hl);exact⟨_,rfl,rfl⟩
 have CA_79:iU K mg _ _ _ X3:=F_79.cal X G a_79;have B_80:Binds K _ aZ []:=F_80.bq;have B_81:Binds K _ aZ []:=F_81.bq;have B_82:Binds K _ aZ []:=F_82.bq;have B_83:Binds K _ aZ []:=F_83.bq;have CA_84:iU K mg _ _ _ U6:=F_84.cal X G a_84;have CA_85:iU K mg _ _ _ Xu:=F_85.cal X G a_85;have CA_86:iU K mg _ _ _ nj:=F_86.cal X G a_86;have CA_87:iU K mg _ _ _ nj:=F_87.cal X G a_87;have CA_88:iU K mg _ _ _ nj:=F_88.cal X G a_88;have CA_89:iU K mg _ _ _ nj:=F_89.cal X G a_89;have CA_90:iU K mg _ _ _ aa5:=F_90.cal X G a_90;have aN:=W.mg_of X G Xh;have aD:=W.mg_of X G afX;have cC:=W.mg_of X G ac9;have bI:=W.mg_of X G ahd;have jz:=W.mg_of X G Hv;have jo:RelV (.int 62) (.int 62 tk_LAST_HAND):=⟨_,rfl⟩;have jy:KN K (.int 62):=rfl;have al4:mg "bool"=none:=W.mg_none_of X G ah2;have Mp:mg "dict"=none:=W.mg_none_of X G agd;have an1:mg "int"=none:=W.mg_none_of X G akt;have JV:mg "isinstance"=none:=W.mg_none_of X G J4;have JS:mg "len"=none:=W.mg_none_of X G akg;have z9:mg "list"=none:=W.mg_none_of X G agn;have ahx:mg "max"=none:=W.mg_none_of X G ake;have akE:mg "min"=none:=W.mg_none_of X G akm;have Gm:mg "range"=none:=W.mg_none_of X G adC;have aj0:mg "set"=none:=W.mg_none_of X G aka;have rE:mg "sorted"=none:=W.mg_none_of X G Xm;have anO:mg "sum"=none:=W.mg_none_of X G akC;have v8:mg "tuple"=none:=W.mg_none_of X G adi;obtain⟨_,_,kV,dc,pm,an,cd,ct,_,rfl,_⟩:=id F_91.ex;refine⟨W.fnOf "law" "law" (jP Ut) (gK Ut) (az Ut) .none kV dc pm an cd ct,λs v=>.of_eq rfl,λbase kb _ hB=>?_⟩;have eV:Tg l.prog w mg base:=trivial;have hC:=W.codeHd_of_K kb hcd;have G_0:=aea eV F_0;have G_1:=amf eV (G_0.mono ?B) CA_0 F_1;have G_2:=aaf eV (G_1.mono ?B) CA_1 Gm F_2;have G_3:=abk eV Mp JV z9 v8 F_3 CA_3;have G_4:=SQ eV F_4;have G_5:=Vk eV F_5;have G_6:=OD eV (G_4.mono ?B) CA_4 (G_5.mono ?B) CA_5 F_6;have G_7:=ajF eV (G_2.mono ?B) CA_2 JS F_7;have G_8:=JG eV (G_7.mono ?B) CA_7 F_8;have G_9:=ae6 eV (G_0.mono ?B) CA_0 F_9;have G_10:=Jd eV F_10;have G_11:=Od eV (G_3.mono ?B) CA_3 aL aN F_11;have G_12:=J9 eV (G_3.mono ?B) CA_3 aL aN F_12;have G_13:=Du eV (G_4.mono ?B) CA_4 aL aN F_13;have G_14:=Ke eV (G_0.mono ?B) CA_0 (G_4.mono ?B) CA_4 (G_5.mono ?B) CA_5 aL aN F_14;have G_15:=JH eV (G_5.mono ?B) CA_5 aL aN F_15;have G_16:=Gp eV aL aN (G_8.mono ?B) CA_8 F_16;have G_17:=Jw eV (G_3.mono ?B) CA_3 aL aN F_17;have G_18:=K8 eV CA_3 aL aN (G_3.mono ?B) (G_13.mono ?B) B_13 (G_14.mono ?B) B_14 (G_15.mono ?B) B_15 (G_16.mono ?B) B_16 dJ fU cW iT F_18;have G_19:=Ex eV z9 aL aN (G_8.mono ?B) CA_8 (G_9.mono ?B) CA_9 F_19;have G_20:=Pu eV z9 aj0 rE F_20;have G_21:=abb eV Mp F_21;have G_22:=aeD eV (G_20.mono ?B) CA_20 (G_21.mono ?B) CA_21 F_22;have G_23:=ae3 eV (G_20.mono ?B) CA_20 (G_21.mono ?B) CA_21 F_23;have G_24:=afa eV v8 rE F_24;have G_25:=ab9 eV F_25;have G_26:=abC eV rE (G_25.mono ?B) CA_25 F_26;have G_27:=RZ eV JS F_27;have G_28:=aca eV JS F_28;have G_29:=MF eV F_29;have G_30:=alH eV Mp aj0 rE (G_22.mono ?B) CA_22 (G_27.mono ?B) CA_27 (G_28.mono ?B) CA_28 (G_29.mono ?B) CA_29 F_30;have G_31:=O1 eV (G_25.mono ?B) CA_25 akE F_31;have G_32:=aes eV z9 (G_30.mono ?B) CA_30 (G_31.mono ?B) CA_31 F_32;have G_33:=acN eV CA_21 (G_22.mono ?B) CA_22 (G_21.mono ?B) F_33;have G_34:=Wc eV v8 JS ahx F_34;have G_35:=Oq eV z9 F_35;have G_36:=SX eV CA_0 v8 CA_9 (G_0.mono ?B) (G_9.mono ?B) (G_32.mono ?B) CA_32 (G_33.mono ?B) CA_33 (G_34.mono ?B) CA_34 (G_35.mono ?B) CA_35 F_36;have acu:=ajB (P:=l.prog) (w:=w) (K:=K) (mg:=mg) (base:=base) (G_36.mono ?B) CA_36;have G_37:=Ky eV CA_3 aL aN (G_3.mono ?B) rE F_37 acu;have G_38:=Kd eV CA_0 aL aN B_15 B_16 dJ cW (G_0.mono ?B) (G_6.mono ?B) CA_6 (G_15.mono ?B) (G_16.mono ?B) (G_19.mono ?B) B_19 (G_37.mono ?B) B_37 fX iK F_38;have G_39:=JC eV Mp (G_2.mono ?B) CA_2 F_39;have G_40:=RN eV (G_22.mono ?B) CA_22 bO cC F_40;have G_41:=QF eV z9 bO cC (G_23.mono ?B) CA_23 F_41;have G_42:=SN eV F_42;have G_43:=Rp eV F_43;have G_44:=OJ eV v8 bO cC F_44;have G_45:=My eV bO cC (G_39.mono ?B) B_39 Gj F_45;have G_46:=Il eV z9 (G_26.mono ?B) CA_26 bj bI F_46;have G_47:=Qa eV Mp bO cC bj bI (G_41.mono ?B) B_41 fG F_47;have G_48:=ahf eV (G_2.mono ?B) CA_2 akE F_48;have G_49:=Vg eV CA_30 (G_32.mono ?B) CA_32 bO cC bj bI (G_30.mono ?B) (G_40.mono ?B) B_40 (G_42.mono ?B) B_42 (G_46.mono ?B) B_46 (G_47.mono ?B) B_47 (G_48.mono ?B) CA_48 jf mj cu j9 F_49;have G_50:=Su eV (t0:=oU) v8 bO cC bj bI (G_46.mono ?B) B_46 cu (G_44.mono ?B) B_44 iD F_50;have G_51:=Mm eV F_51;have G_52:=QH eV JS bO cC bj bI (G_43.mono ?B) B_43 (G_49.mono ?B) B_49 (G_51.mono ?B) B_51 iY iW nU F_52;have G_53:=Qs eV v8 bO cC bj bI B_41 fG (G_46.mono ?B) B_46 cu (G_24.mono ?B) CA_24 (G_41.mono ?B) F_53;have G_54:=RP eV F_54;have G_55:=VG eV (G_26.mono ?B) CA_26 bj bI F_55;have G_56:=Qd eV z9 aC aD F_56;have G_57:=Oz eV aL aN aC aD F_57;have G_58:=Jv eV bj bI aC aD F_58;have G_59:=LC eV bj bI aC aD F_59;have G_60:=Ij eV aC aD F_60;have G_61:=Sw eV aL aN ahx bj bI aC aD (G_10.mono ?B) B_10 (G_45.mono ?B) B_45 Ez Qh F_61;have G_62:=PJ eV bj bI aC aD F_62;have G_63:=Sy eV CA_1 v8 bj bI aC aD (G_1.mono ?B) (G_54.mono ?B) B_54 (G_55.mono ?B) B_55 (G_60.mono ?B) B_60 (G_61.mono ?B) B_61 (G_62.mono ?B) B_62 dM fM dw jZ oX F_63;have G_64:=Qv eV (P_mk:=P_mk) aL aN bj bI aC aD hC hB (G_17.mono ?B) B_17 (G_38.mono ?B) B_38 (G_63.mono ?B) B_63 iR iH dO FC;have G_65:=Qm eV (t0:=dX) aL aN bj bI aC aD (G_12.mono ?B) B_12 (G_50.mono ?B) B_50 (G_53.mono ?B) B_53 (G_57.mono ?B) B_57 iQ cT lU fj F_65;have G_66:=Lx eV aC aD F_66;have G_67:=Sq eV (P_mk:=P_mk) (t0:=fJ) JS aL aN bj bI aC aD B_53 fj (G_11.mono ?B) B_11 (G_53.mono ?B) (G_64.mono ?B) B_64 (G_66.mono ?B) B_66 jB d8 dh F_67;have G_68:=Oc eV (P_mk:=P_mk) CA_0 JS aC aD (G_64.mono ?B) B_64 dh (G_0.mono ?B) F_68;have G_69:=Ml eV Mp F_69;have G_70:=LQ eV CA_1 aC aD (G_1.mono ?B) (G_61.mono ?B) B_61 dM (G_69.mono ?B) CA_69 F_70;have G_71:=Gv eV (P_mk:=P_mk) aL aN bj bI aC aD B_60 dw B_57 cT (G_64.mono ?B) B_64 dh (G_18.mono ?B) B_18 (G_52.mono ?B) B_52 (G_57.mono ?B) (G_60.mono ?B) iJ jX F_71;have G_72:=CJ eV (P_mk:=P_mk) ahx bj bI aC aD B_62 fM B_63 dO (G_58.mono ?B) B_58 (G_62.mono ?B) (G_63.mono ?B) (G_70.mono ?B) B_70 (G_71.mono ?B) B_71 je gH cY F_72;have G_73:=J6 eV (P_mk:=P_mk) CA_0 CA_1 bj bI aC aD (G_63.mono ?B) B_63 dO B_58 cY (G_0.mono ?B) (G_1.mono ?B) (G_58.mono ?B) F_73;have G_74:=Vs eV (P_mk:=P_mk) JS aC aD (G_72.mono ?B) B_72 (G_73.mono ?B) B_73 iI eQ F_74;have G_75:=Xw eV JV al4 an1 F_75;have G_76:=ab3 eV (G_75.mono ?B) CA_75 jz jo jy F_76;have G_77:=afj eV (G_75.mono ?B) CA_75 jz jo jy F_77;have G_78:=Ma eV (t0:=jM) (t1:=iM) CA_1 aC aD (G_1.mono ?B) (G_61.mono ?B) B_61 dM (G_76.mono ?B) CA_76 (G_77.mono ?B) CA_77 F_78;have G_79:=S8 eV Gm F_79;have G_80:=Ie eV aC aD B_57 cT B_66 d8 (G_57.mono ?B) (G_66.mono ?B) F_80;have G_81:=RV eV (P_mk:=P_mk) aC aD (G_80.mono ?B) B_80 gY F_81;have G_82:=Vz eV (P_mk:=P_mk) aC aD F_82;have G_83:=Rn eV z9 aC aD F_83;have G_84:=Vv eV anO F_84;have G_85:=Qu eV (P_mk:=P_mk) (iB:=dX) aC aD (G_65.mono ?B) bc B_65 (G_74.mono ?B) B_74 bC aY F_85;have G_86:=zZ eV (P_mk:=P_mk) (iB:=dX) (j4:=fJ) Gm aC aD (G_65.mono ?B) bc B_65 (G_74.mono ?B) B_74 bC aY (G_59.mono ?B) B_59 (G_67.mono ?B) bW B_67 (G_78.mono ?B) BP_Hand___init__ B_78 (G_81.mono ?B) B_81 (G_84.mono ?B) CA_84 nJ jF bR cN F_86;have G_87:=Ir eV (P_mk:=P_mk) (iB:=dX) (j4:=fJ) Gm rE aC aD bc B_65 B_74 bC aY B_59 bW B_67 BP_Hand___init__ B_78 CA_84 nJ bR cN (G_56.mono ?B) B_56 (G_59.mono ?B) (G_65.mono ?B) (G_67.mono ?B) (G_68.mono ?B) B_68 (G_74.mono ?B) (G_78.mono ?B) (G_82.mono ?B) B_82 (G_84.mono ?B) (G_85.mono ?B) CA_85 dB eE cR F_87;have G_88:=CK eV (P_mk:=P_mk) (iB:=dX) (j4:=fJ) Gm rE aC aD bc B_65 B_74 bC aY bW B_67 BP_Hand___init__ B_78 CA_84 nJ bR (G_56.mono ?B) B_56 (G_65.mono ?B) (G_67.mono ?B) (G_74.mono ?B) (G_78.mono ?B) (G_82.mono ?B) B_82 (G_84.mono ?B) (G_85.mono ?B) CA_85 dB eE F_88;have G_89:=zO eV (P_mk:=P_mk) (iB:=dX) (j4:=fJ) Gm rE aC aD bc B_65 B_74 bC aY B_59 bW B_67 BP_Hand___init__ B_78 CA_84 nJ bR cN (G_59.mono ?B) (G_65.mono ?B) (G_67.mono ?B) (G_68.mono ?B) B_68 (G_74.mono ?B) (G_78.mono ?B) (G_82.mono ?B) B_82 (G_84.mono ?B) (G_85.mono ?B) CA_85 dB cR (G_83.mono ?B) B_83 jW F_89;have G_90:=Om eV JS F_90;exact amr eV (G_79.mono ?B) CA_79 (G_86.mono ?B) CA_86 (G_87.mono ?B) CA_87 (G_88.mono ?B) CA_88 (G_89.mono ?B) CA_89 (G_90.mono ?B) CA_90 F_91
end K68
end
theorem PySem.Challenge.cw_groupcall_k68_what_hands_keep_holds : PySem.Challenge.rw_groupcall_k68_what_hands_keep.Holds := by
 exact PySem.Challenge.hd_K68 @K68.akM
