import PyProof.Rows.All
import Wide.All
import OpenK.AllK
import Wide.FinOn
import Lean
import PyProof.EqAt
import PyProof.EqKinds
import PyProof.TupleCall
import PyProof.AttrMissHeap
import KE.KSortTup
import KE.KDictList
import KE.KNest
import KE.KNestM
import OpenK.KRaise
import KE.KIsAll
import KE.KMatchCls
import PyProof.ExcAttrAll.ValueError
import PyProof.Rows.Range3
import PyProof.ZipIter
import PyProof.Rows.FactsT2
import PyProof.Rows.ZipGen
import KE.KItemsList
import PySem.Challenge.RW_groupcall_k44_one_order_in_a_list
set_option Elab.async false
set_option linter.all false
set_option compiler.extract_closed false
set_option bootstrap.genMatcherCode false
set_option maxRecDepth 100000
set_option maxHeartbeats 16000000
open PySem.W renaming Frag→Yc,findIn→gf,kia_one→aaD,emptyDict→aaP,fnOf→aaS,KasT→aa9,methodCall_KW→abg,instObj→abj,kas_rev→abr,keepIn→abE,callWith_K→abK,codeIn→ade,plainGet→adx,hideAll→adH,plainGet_of→adW,looks_clsIn→adX,lookIn→ad2,methodObj→aey,hasDictIn→aeB,set_plain→aeC,handedIn→aeQ,kdl_call→ae3,kas_sort→ae5,kat_cons→ae6,takerIn→afg,kat_nil→afl,kat_yes→afm,cellsFrom_some→afs,kitOne→afE,KatLex→afO,kat_go→afP,kat_lt→afQ,hideAll_none→afU,kas_descPart→af9,mroIn→agd,hideAll_get→agj,callWith_K0→agk,of_hideAll→ago,isFn→ags,plainOver→agL,specialIn→agM,kitx_list→agN,kitx_dict→agO,kas_tail3→agV,kas_count→agW,kas_place→agX,InitBack→ag6,kdl_dict→aha,kcp_self→ahb,kas_desc→ahe,kat_kind→ahi,kas_item→ahj,kat_snds→ahk,makesIn→ahy,OpenLaw→ahE,kas_asc→ahM,kas_bin→ahN,KatTups→ahO,kat_run→ahP,kas_ask→ahQ,typeIn→ahT,kat_no→ah6,WalkO→aik,clsIn→ail
open PySem renaming Value→Yd,Addr→Ye,wpAny_bind→Yg,Shared→Yn,Str→Yp,wpAny→Ys,wpAny_pure→Yt,model→Yv,sizeLine→YB,FuncData→YE,Heap→YV,starEach→YW,Paired→YX,Program→Y0,Stmt→Y4,World→Y7,Expr→cb,mainGlobals→cw,eval→lr,wpAny_mono→oh,Obj→pe,Around→uc,DictEntry→xi,codeAny→Gr,Builtin→GV,backTo→aad,sysModules→aag,compareOp→aai,boot_len→aal,cLine→aax,wpAny_newObj_type→aay,pyNext→aaA,sizeLine_eq→aaB,keywordEach→aaC,wpAny_holding→aaI,mem_of_lookup→aaQ,wpAny_Call_Name_kw→aaR,codeAny_call_builtin→aaW,rawInt→aaY,wpAny_pyIter_list→aa2,wpAny_setState_of→aa3,intKind→aa5,attributeBase→abb,wpAny_call_entry→abd,tupleKind→abf,bootBuiltins→abk,backToKw→abl,PyData→abo,wpAny_truthy_bool→abu,Pos→abz,plainId_quiet→abA,wpAny_callSpecial?_slot→abB,tupleKind_room_in1→abL,wpAny_setField_rec→abO,wpAny_passesOwn→abP,argsOk→abX,wpAny_askSetting→abZ,wpAny_setEntries_of→ab6,wpAny_Call_method0_late→ab9,Scope→acb,entryFor→acg,Env→ack,Meets→acp,wpAny_pyIter_slot→acq,wpAny_loadPart_at→acs,holding→acu,Result→acv,storedH→acx,call_meetsIn→acy,isSubtype_type→acz,wpAny_setField→acA,scanBound→acF,assignEach→acH,binaryOp→acI,IsTupleKey→acK,sliceBounds→acO,evalArgs_none→acR,Tok→acT,wpAny_execs_nil→acU,wpAny_updateSeq→acW,getMethod→ac2,call_meets→adf,pyIter→adm,wpAny_field→ado,wpAny_isOneOf_itemiter→ads,behindInMarks→adt,wpAny_standAt→adu,wpAny_attempt→adw,NameKind→ady,swapsWith→adz,standAt→adA,Keyword→adB,pickOrder→adD,plainObj_wpAny_Assign_Attribute→adG,letOwnedTupleGo→adI,wpAny_call→adK,wpAny_typeNameOfWhole_itemiter→adT,Fin→adY,wpAny_isSubtype_exc→ad0,callWith→ad3,recursionLimit→ad4,getItem→ad6,wpAny_tryCatch→ad8,wpAny_seqItems→ad9,SetTable→aea,setNext→aeb,wpAny_fieldsOf→aec,KeyKind→aee,table→aef,excClassObj→aeg,Within→aeh,wpAny_letOwnedTupleGo_items→aek,Sem→aex,foldedSetIterable→aez,fits_of_scanBound→aeF,atKey→aeH,valueAt→aeM,callerA→aeN,wpAny_eqBool_int→aeO,assign→aeP,merged→aeS,IsPart→aeT,wpAny_comprehension_free→aeY,wpAny_isInstance→ae1,codeAny_builtin→afh,Walks→afi,wpAny_ite_split→afj,subscripted→aft,richCompare→afu,wpAny_isTrue_Compare1→afB,setAttr→afC,wpAny_loadPart→afD,BindsTo→afF,plainId→afH,builtinLookup_eq_fast→afI,wpAny_newTuple→afM,entryOfKey→afT,bindArgs→afX,bindL→afY,bindC→afZ,typeLookup→af0,wpAny_rule→af3,setEntries→af4,setField→af5,wpAny_pyIter_valiter→af7,wpAny_newList→agg,wpAny_raiseNew_none→agm,wpAny_pyIter_tuple→agr,wpAny_typeOf→agu,seqItems?→agv,ExcBaseFacts→agC,newList→agG,numAt→agH,wpAny_assign_Name→agK,wpAny_Call_method→agP,slot_list_getitem→agQ,meets_dict_values→agU,wpAny_of_eq→ag1,wpAny_execs_cons→ag3,wpAny_lookBehind→ag4,pastItsLine_dict→ag5,wpAny_Dict_empty→ag7,getAttr?→ag8,entryFor_of_tree→ag9,relayAll→ahc,raiseNew→ahd,Drawn→aht,CmpOp→ahu,builtinsNs→ahv,isTrue→ahw,wpAny_Name→ahx,wpAny_specialOf→ahB,wpAny_loadPart'→ahC,typeOf→ahD,closureFor→ahF,codeAny_of_tree→ahI,typeLookup_type→ahJ,MeetsIn→ahX,wpAny_ite_true→ahY,entryFor_alias→ah3,firstArgMember→ah4,isSubtype_stop→ah5,refuseLoop_ref→ah7,cellsFrom→ah9,drawOrder→aia,isSubtype→aid,intBits_le_64→aif,evalPart_none→aii,call_list_seq→aij,Model→aim,wants→aip,GenState→aiq,wpAny_nsSet1→air,seqIndex_neg→ais,Slot→ait,setAddHashed→aiu,setNextDrawn→aiv,getAttr→aiO,operate→aiP,collect→aiQ,ElemsOf→aiR,Spec→aiY
open List renaming length_map→Yf,getElem?_eq_some_iff→Yh,mem_singleton→Yi,getElem?_eq_getElem→Yk,mem_cons→Ym,mem_cons_of_mem→Yo,length_append→Yq,map_append→Yr,mem_cons_self→Yu,mem_of_getElem?→Yw,getElem?_map→Yy,mem_map→YA,size_toArray→YC,mem_append→YD,map_cons→YG,take_length→YI,getElem?_of_mem→YJ,mem_append_right→YK,getD_eq_getElem?_getD→YM,length_filter_le→YQ,filter_append→YS,mem_filter→YU,mem_append_left→YY,append_nil→Y1,mem_map_of_mem→Y3,length_singleton→Y6,range→Y8,length_cons→gm,nodup_append→jJ,length_take→mr,pairwise_iff_getElem→nh,map_map→rl,nodup_cons→vc,not_mem_nil→xu,getElem?_set→xw,getElem_mem→Rk,length_range→Rw,append_assoc→RW,filter_cons→aac,getElem?_append_left→aah,mem_range→aak,map_congr_left→aap,eq_nil_of_length_eq_zero→aav,getElem?_append_right→aaH,toArray→aaJ,prefix_refl→aaT,length_eq_zero_iff→aaZ,filter_cons_of_pos→aa0,filter_cons_of_neg→aa1,length_nil→aa4,length_take_le→aa6,getElem?_eq_none→abi,of_mem_zip→abm,foldl_cons→abn,pairwise_map→abw,length_drop→abG,take_of_length_le→abI,find?_cons→abR,lookup→abU,any_eq_true→ab0,getElem_map→ab4,getElem_of_mem→ab5,filter_sublist→ab7,map_eq_nil_iff→ab8,any_cons→aca,pairwise_lt_range→ach,take_append_of_le_length→acm,find?_eq_some_iff_append→acn,take_sublist→aco,map_nil→acw,mem_of_mem_take→acL,mem_of_mem_drop→acM,filterMap_cons→acQ,range_succ→acX,getElem?_zip_eq_some→acZ,mem_filterMap→ac0,pairwise_cons→ac7,map_id'→ada,mem_replicate→adb,ext_getElem?→adl,length→adn,map_id→adp,length_replicate→adC,findSome?_append→adF,pairwise_append→adP,mem_erase_of_ne→adQ,findSome?_cons→ad1,replicate→ad5,nodup_nil→ad7,zip_cons_cons→aej,length_eraseIdx_of_lt→aer,sum_cons→aes,findSome?_eq_none_iff→aew,any_eq_false→aeA,foldl_append→aeG,drop_eq_getElem_cons→aeJ,mem_or_eq_of_mem_set→aeK,lookup_cons→aeV,ext_getElem→aeZ,all_eq_true→ae4,sum_append→afk,take_left'→afn,length_set→afo,filter_nil→afp,filter_map→afq,getElem?_set_self→afr,find?_cons_of_pos→afz,drop_of_length_le→afA,getElem?_toArray→afK,take_succ→afN,pairwise_and_iff→afS,getElem?_set_ne→afW,perm_cons_erase→af6,zip_map'→agi,contains_cons→agA,find?_eq_none→agD,getElem?_take→agE,prefix_append→agF,reverse_cons→agT,find?_append→agY,getElem?_inj→agZ,map_snd_zip→ahh,map→ahm,mem_reverse→aho,nodup_range→ahq,length_zip→ahR,drop_zero→ah8,sum_nil→aiy,Perm→ai1
open PySem.Heap renaming get?_push_of_some→Yj,get?_push_size→Yx,lt_size→Yz,get?_update_other→xp,SameBut→aan,get?_update_self→aar,size_push→aaV,ExtBut→adq,get?_none_of_le→afV,get?_update_ne→agn,FlyingW→agz,get?_push_at→agR
open Nat renaming le_refl→Yl,ne_of_lt→YN,lt_of_lt_of_le→Y5,lt_irrefl→Y9,zero_le→cT,le_trans→ir,le_of_lt→xl,succ_le_succ→aau,le_succ→aaU,lt_succ_of_lt→abv,lt_succ_self→abF,ne_of_gt→abJ,lt_or_ge→abY,lt_of_le_of_lt→ace,le_succ_of_le→acr,add_le_add_left→acS,lt_trichotomy→adj,le_of_eq→adJ,not_lt_zero→adR,sub_self→adS,lt_or_gt_of_ne→aem,lt_trans→aeR,lt_succ_iff_lt_or_eq→aeW,zero_testBit→aeX,lt_of_succ_lt_succ→afy,pow_le_pow_right→af1,add_right_cancel→agc,testBit_two_pow→agl,zero_add→agw,succ_lt_succ→ahn,min_eq_right→ahp,testBit_and→ahG,not_lt→ahK,min_eq_left→ahS,succ_pos→aiw,sub_zero→aiB,le_total→aiD,mod_lt→aiZ
open Option.some renaming inj→YF
open PySem.Value renaming ref→YH,none→aaf,type→aaG,int→abe,bool→acG,str→aff,isInt_shape→agJ,float→ag0,isStrOf→aie,isInt→aiG,bytes→aiH
open Sum renaming inl→YL,inr→aeL
open Int renaming toNat_natCast→YO,emod_nonneg→KW,emod_lt_of_pos→aaj,le_refl→aat,eq_ofNat_of_zero_le→aaF,le_trans→aaK,toNat→abN,natCast_nonneg→ac1,mul_le_mul_of_nonneg_right→adU,zero_add→ae7,ne_of_gt→ae8,ne_of_lt→ae9,one_mul→ag2,le_of_lt→aix
open Array renaming getElem?_eq_getElem→YR,getD_eq_getD_getElem?→YT,length_toList→pk,getElem?_toList→sq,getElem?_eq_none→aaN,getElem_toList→acJ,perm_iff_toList_perm→aev,append_assoc→agp,toList→agq,append_empty→agB,toList_push→agS,toList_inj→ahg,getD→ai0
open Bool renaming false_ne_true→YZ,and_eq_true→aas,eq_false_iff→aby,eq_iff_iff→abQ,false_and→abV,or_eq_true→acY,false_eq_true→ac6,false_or→aeo,true_and→aeq,or_eq_false_iff→af2,and_eq_true_iff→agb,or_false→agf,and_false→ahW,or_true→aiA
open PySem.Paired renaming length→Y2,snoc→aiJ
open List.cons renaming inj→tq
open PySem.SetTable renaming below→xj,Probe→ah1
open PyProof.Rows renaming IntsAre→xy,boot_list→aaO,boot_sorted→abt,boot_tuple→abD,slot_tuple_getitem→abH,envOfC→acd,firstMet→aci,boot_dict→acj,boot_min→acB,boot_isinstance→acC,callWith_type1→acD,AllBare→acN,kws_cons→adE,callWith_kw→adV,listUpdate_at→aeu,subscriptTail_builtinR→afv,kws_nil→af8,tuples'→aga,subscriptTail→age,firstMet_succ→agh,args_sorted1→agx,failedOf→ahf,lt_int→ahr,callWith_builtin1→ahz,Subscript_→ahA,entry_list_sort→ahH,get?_update_seq→ahL,slicePart_none→ahV,slot_list_sort→ahZ,args_list_sort→ah0,IsTup→ain,listItems_at→aiz,intBits_le→aiF,bitAnd_pp→aiL,boot_bool→aiN,boot_all→aiT,boot_max→aiU,boot_int→aiV,boot_abs→aiW,boot_sum→aiX
open PySem.Shared renaming TypeIs→BD
open PySem.Str renaming ofString→aaa
open PySem.NameKind renaming free→aab,cell→abc
open PySem.PyData renaming canLayAll0→aae,depthAll→abp,list→acP,canLay0→aed,strOk→aiC
open PySem.PassesOwn renaming never→aam
open False renaming elim→aao
open PySem.Heap.SameBut renaming update→aaq
open PySem.Builtin.Int renaming intBits→aaw
open PySem.Obj renaming mapSeq→aaz,mapFields→adv
open PySem.F renaming plainAttrs_dict→aaE,slot_dict_get→abh,slot_dict_values→abq,plainAttrs_list→abC,slot_list_append→ab1,type_list_append→ab3,entry_dict_get→acf,type_dict_values→ac9,slot_dict_items→adi,args_dict_values_1→aet,entry_dict_values→aeI,args_dict_get_2→afa,args_dict_get_3→afb,type_dict_items→afc,plain_list_iadd→afd,entry_min_loop→afw,plain_min_loop→afx,type_dict_get→afG,slot_set_iter→afL,called_set→agy
open Sum.inl renaming inj→aaL
open PySem.Calls renaming callWith_builtin→aaM,spliced_cons→ac3,evalArgs_plain→adL,Name_function_global→aen,spliced_nil→aeD
open PySem.Builtin.Dict_items renaming ownsTuple→aaX,ownedTupleIsFree→agI,pairFromOwner→ahl
open Option renaming map_eq_some_iff→aa7,map_some→abS,isSome_iff_exists→ac4,none_or→adh,isSome_map→aeE,getD_none→aeU,getD_some→ae0,map_map→ah2,none→aiK,some→Ya,none→Yb
open PySem.PyData.canLayAll0 renaming eq_2→aa8
open True renaming intro→aba
open PySem.SetTable.below renaming go→abx
open PyProof.Rows.F renaming plain_set_update_loop→abM,entry_set_update_loop→ac8
open PySem.Builtin.Slice renaming slicePlaces→abT,sliceAdjust→acV,sliceApplied→aep,slicePartIndex→ahU,sliceFields→aio
open PySem.Builtin.Tuple renaming tupleExact→abW,tupleCompareSizes→ahs,tupleItemsOf→aih
open PySem.Builtin.Builtins renaming bindParams→acE
open PySem.Builtin.List renaming listTooLong→ac5,listSameRef→ae2,listUpdate→afe,listLengthHint→aib,listExtendWith→aic,listItems→aiM
open List.Perm renaming refl→adg,swap→afJ,eq_of_pairwise→aiE,append_left→aiS,cons→ai2
open PySem.SetTable.probe renaming go→adk
open ForInStep renaming yield→adM
open PySem.Walks renaming list→adN
open Nat.succ renaming inj→adO
open PySem.PyData.canLay0 renaming eq_5→adZ
open PySem.W.Looks renaming here→aei,of_pure→afR
open PySem.Code renaming quiet_builtin→ael,isFrame→agt,frames→aiI
section
local macro_rules|`(tactic|omega)=>`(tactic|first|lia|omega +splitNatSub)
namespace L2
open PySem PySem.Spec PyProof.Rows
variable{us:List Yd}{a b it dx C:Ye}{u:Yd}{h h':YV}{items:Array Yd}{P:Y0}{x name m Zb:Yp}{e c tg l Zg:cb}{Za:List (Ye×pe)}{s s':Yn}{g':Array aiq}{t' i j k n:Nat}{d':aht}{ch fp:List Ye}{M:aim}{E Q:Yd->Yn->Prop}{pos Zq p tpos Ze:abz}{op:ahu}{es:List cb}{Zr:List Y4}{f:Yd->Yd->aex Yd}{mA:Yp->Option Yd}{pl:aex Bool}{kw:List (Yp×Yd)}{fd:YE}{ps:List Yp}{scope:acb}{T:String}
abbrev bR:=Sum Int Yp
variable{xs:List (List bR×Ye×Yd)}
noncomputable def wU:bR->Yd->Bool
 | .inl k,v=>aiG k v
 | .inr x,v=>aie x v
noncomputable def Xv(w:Y7):bR->Int
 | .inl k=>hashInt k
 | .inr x=>hashStr w x
theorem cQ:∀{k:bR} {v:Yd},wU k v=true->(∃i t,k=YL i/\v=abe i t)∨(∃x t,k=aeL x/\v=aff x t)
 | .inl i,v,h=>by
  obtain⟨t,e⟩:=agJ (k:=i) (v:=v) h;exact .inl ⟨i,t,rfl,e⟩
 | .inr x,v,h=>by
  obtain⟨t,e⟩:=Value.isStrOf_shape (x:=x) (v:=v) h;exact .inr ⟨x,t,rfl,e⟩
theorem JH(i:Int)(t:acT):wU (.inl i) (.int i t)=true:=by simp[wU,aiG]
theorem Ko(x:Yp)(t:acT):wU (.inr x) (.str x t)=true:=by simp[wU,aie]
theorem TK(a b:Int):decide ((YL a:bR)=YL b)=(a==b):=by
 by_cases e:a=b
 ·subst e;simp
 ·have h:¬ (YL a:bR)=YL b:=λq=>e (aaL q);rw[decide_eq_false h];exact(beq_eq_false_iff_ne.mpr e).symm
theorem SY(a b:Yp):decide ((aeL a:bR)=aeL b)=decide (a=b):=by
 by_cases e:a=b
 ·subst e;simp
 ·have h:¬ (aeL a:bR)=aeL b:=λq=>e (Sum.inr.inj q);rw[decide_eq_false h,decide_eq_false e]
theorem T8(a:Int)(b:Yp):decide ((YL a:bR)=aeL b)=false:=decide_eq_false (λq=>nomatch q)
theorem Uk(a:Yp)(b:Int):decide ((aeL a:bR)=YL b)=false:=decide_eq_false (λq=>nomatch q)
noncomputable def bf(prog:Y0)(w:Y7):aee prog w bR where
 is:=wU
 hash:=Xv w
 inj:=λv a b ha d=>by
  rcases cQ ha with⟨i,t,rfl,rfl⟩|⟨x,t,rfl,rfl⟩
  ·rcases cQ d with⟨j,u,rfl,e⟩|⟨y,u,rfl,e⟩
   ·injection e with e1 _;rw[e1]
   ·exact nomatch e
  ·rcases cQ d with⟨j,u,rfl,e⟩|⟨y,u,rfl,e⟩
   ·exact nomatch e
   ·injection e with e1 _;rw[e1]
 byValue:=λk v h=>by
  rcases cQ h with⟨i,t,rfl,rfl⟩|⟨x,t,rfl,rfl⟩<;>rfl
 pyHash:=λc h=>by
  rcases cQ c with⟨i,t,rfl,rfl⟩|⟨x,t,rfl,rfl⟩
  ·exact wpAny_pyHash_int h
  ·exact wpAny_pyHash_str h
 eqBool:=λhu c h=>by
  rcases cQ hu with⟨i,t,rfl,rfl⟩|⟨x,t,rfl,rfl⟩
  ·rcases cQ c with⟨j,u,rfl,rfl⟩|⟨y,u,rfl,rfl⟩
   ·rw[TK]at h;exact aeO h
   ·rw[T8]at h;exact SeqAt.EqAt.int_str i t y u _ _ _ _ h
  ·rcases cQ c with⟨j,u,rfl,rfl⟩|⟨y,u,rfl,rfl⟩
   ·rw[Uk]at h;exact SeqAt.EqAt.str_int x t j u _ _ _ _ h
   ·rw[SY]at h;exact wpAny_eqBool_str h
 «strs»:=λk x t v h=>by
  rcases cQ h with⟨i,u,rfl,e⟩|⟨y,u,rfl,e⟩
  ·exact nomatch e
  ·injection e with e1 _;subst e1;cases v<;>rfl
theorem ph(prog:Y0)(w:Y7)(i:Int)(t:acT):(bf prog w).is (.inl i) (.int i t)=true:=JH i t
theorem EL(prog:Y0)(w:Y7)(x:Yp)(t:acT):(bf prog w).is (.inr x) (.str x t)=true:=Ko x t
inductive V where
 |non|bl (b:Bool)|int (i:Int)|str (x:Yp)|byt (b:Array UInt8)|flt (b:UInt64)|ref (a:Ye)|ty (n:String)
 deriving DecidableEq
variable{v y d:V}{vs:List V}{kvs:List (List bR×V)}
def RelV:V->Yd->Prop
 | .non,u=>u=aaf
 | .bl b,u=>u=acG b
 | .int i,u=>∃t,u=abe i t
 | .str x,u=>∃t,u=aff x t
 | .byt b,u=>∃t,u=aiH b t
 | .flt b,u=>∃t,u=ag0 b t
 | .ref a,u=>u=YH a
 | .ty n,u=>u=aaG n
abbrev Vals:List V->List Yd->Prop:=YX RelV
theorem Vals.length{xs:List V}(r:Vals xs us):xs.length=us.length:=Y2 r
theorem Vals.get:∀{xs:List V} {us:List Yd} {i:Nat} {x:V},Vals xs us->xs[i]?=Ya x->∃u,us[i]?=Ya u/\RelV x u:=by
 intro a b i x w
 induction w generalizing i with
 |nil=>exact λe=>by simp at e
 |cons r _ ih=>
  intro e;cases i with
  |zero=>simp at e;subst e;exact⟨_,rfl,r⟩
  |succ i=>
   obtain⟨p,h1,h2⟩:=ih (i:=i) (by simpa using e);exact⟨p,by simpa using h1,h2⟩
theorem Vals.append:∀{xs ys:List V} {us e:List Yd},Vals xs us->Vals ys e->Vals (xs++ys) (us++e):=by
 intro a b c d w h
 induction w with
 |nil=>exact h
 |cons r _ ih=>exact .cons r ih
theorem Vals.take:∀{xs:List V} {us:List Yd} (n:Nat),Vals xs us->Vals (xs.take n) (us.take n)
 |_,_,0,_=>.nil
 |_,_,_+ 1,.nil=>.nil
 |_,_,n+ 1,.cons r t=>.cons r (Vals.take n t)
theorem Vals.drop:∀{xs:List V} {us:List Yd} (n:Nat),Vals xs us->Vals (xs.drop n) (us.drop n)
 |_,_,0,r=>r
 |_,_,_+ 1,.nil=>.nil
 |_,_,n+ 1,.cons _ t=>Vals.drop n t
def lX:Option V->Option Yd->Prop
 |some v,Ya u=>RelV v u
 |none,Yb=>True
 |_,_=>False
def KV{κ:Type}:List (κ×V)->List (κ×Yd)->Prop:=YX fun(p:κ×V) (q:κ×Yd)=>p.1=q.1/\RelV p.2 q.2
noncomputable def kV:bR->V
 | .inl i=>.int i
 | .inr x=>.str x
inductive HO where
 |lst (xs:List V)
 |tup (xs:List V)
 |dK (kvs:List (bR×V))|dT (kvs:List (List bR×V))
 |set (S:Int->Bool) (n:Nat)
 |ins (C dx:Ye) (fs:List (Yp×V))
 |own (x:Ye)
 |xd (fs:List (Yp×V))
 |met (f x:Ye)
 |rng (lo hi:Int)
 |frz (o:pe) (u:HO)
 |tbl (ps:Array Yd)
 |ext (φ:YV->Prop)
variable{o:HO}
abbrev Hp:=Ye->Option HO
variable{H H':Hp}{R:V->V->Hp->Prop}
noncomputable def upd(H:Hp)(a:Ye)(o:HO):Hp:=λb=>if b=a then Ya o else H b
theorem af:upd H a o a=Ya o:=by unfold upd;rw[if_pos rfl]
theorem ak(h:b≠a):upd H a o b=H b:=by unfold upd;rw[if_neg h]
theorem O0{u:HO}:upd (upd H a o) a u=upd H a u:=by
 funext b;unfold upd;split<;>rfl
theorem bM{u:HO}(h:H a=Ya o)(h':H b=Ya u)(d:o≠u):a≠b:=by
 intro e;subst e;rw[h]at h';exact d (YF h')
theorem ay(h:H a=Ya o)(h':H b=Yb):a≠b:=by
 intro e;subst e;rw[h]at h';cases h'
def mO(h:YV)(a:Ye)(items:Array Yd):Prop:=∃o,h.get? a=Ya o/\o.cls=.type "tuple"/\∃n,o.data=.seq items n/\o.dict=Yb/\o.slots=#[]
theorem mO.tup(x:mO h a items):ain h a items:=let ⟨o,e,c,n,d,_⟩:=x;⟨o,e,c,n,d⟩
theorem mO.lt(x:mO h a items):a<h.objs.size:=x.tup.lt
theorem mO.new(h:YV)(items:Array Yd):mO (h.push {cls:=.type "tuple",data:=.seq items}) h.objs.size items:=⟨_,Yx _ rfl,rfl,_,rfl,rfl,rfl⟩
section
variable(P:Y0)(w:Y7)
def cD(H:Hp)(h:YV)(a:Ye):HO->Prop
 | .lst xs=>xs.length<=YB/\∃(b:List Yd) (n:Nat),Vals xs b/\h.get? a=Ya {cls:=.type "list",data:=.seq b.toArray n}
 | .tup xs=>xs.length<=YB/\∃b:List Yd,Vals xs b/\mO h a b.toArray
 | .dK kvs=>kvs.length<=YB/\(a==aag)=false/\∃d,KV kvs d/\h.DictOf (bf P w) a d
 | .dT kvs=>kvs.length<=YB/\(a==aag)=false/\∃xs:List (List bR×Ye×Yd),
   YX (fun(p:List bR×V) (q:List bR×Ye×Yd)=>p.1=q.1/\H q.2.1=Ya (.tup (p.1.map kV))/\RelV p.2 q.2.2) kvs xs/\
   ∃o e g,h.get? a=Ya o/\o.ExactDict/\o.data=.dict e g/\e.toList=xs.map (afT (abf (bf P w)))/\(xs.map (·.1)).Nodup
 | .set S n=>h.SetOf (aa5 P w) a S n
 | .ins C dx fs=>H dx=Ya (.own a)/\fs.length<=1000/\dx≠a/\h.get? a=Ya (abj C dx)/\
   ∃c,h.Ns1 dx c/\(∀f,lX (fs.lookup f) (c f))/\aeh c (fs.map (·.1))
 | .own _=>∃o,h.get? a=Ya o
 | .xd fs=>∃c,h.Ns1 a c/\∀f,lX (fs.lookup f) (c f)
 | .rng lo hi=>∃t u v,h.get? a=Ya {cls:=.type "range",data:=.fields #[.int lo t,.int hi u,.int 1 v]}
 | .frz o u=>h.get? a=Ya o/\cD H h a u
 | .tbl ps=>h.get? a=Ya {cls:=.none,data:=.fields ps}
 | .met f x=>h.get? a=Ya (aey (.ref f) (.ref x))
 | .ext φ=>φ h/\(∃o,h.get? a=Ya o)/\∀h1 h2:YV,φ h1->(∀o,h1.get? a=Ya o->h2.get? a=Ya o)->φ h2
def mS(H:Hp)(h:YV):Prop:=∀a o,H a=Ya o->cD P w H h a o
end
section
variable{w:Y7}
theorem cD.lt(x:cD P w H h a o):a<h.objs.size:=by
 cases o with
 |lst xs=>obtain⟨_,_,_,_,e⟩:=x;exact Yz e
 |tup xs=>obtain⟨_,_,_,p⟩:=x;exact p.lt
 |dK kvs=>obtain⟨_,_,_,_,o,_,_,e,_⟩:=x;exact Yz e
 |dT kvs=>obtain⟨_,_,_,_,o,_,_,e,_⟩:=x;exact Yz e
 |set S n=>obtain⟨o,_,_,_,e,_⟩:=x;exact Yz e
 |ins C dx fs=>obtain⟨_,_,_,e,_⟩:=x;exact Yz e
 |own y=>obtain⟨_,e⟩:=x;exact Yz e
 |xd fs=>obtain⟨_,⟨_,_,_,e,_⟩,_⟩:=x;exact Yz e
 |rng lo hi=>obtain⟨_,_,_,e⟩:=x;exact Yz e
 |frz ob u=>obtain⟨e,_⟩:=x;exact Yz e
 |tbl ps=>exact Yz (show h.get? a=Ya _ from x)
 |met f y=>exact Yz (show h.get? a=Ya _ from x)
 |ext φ=>obtain⟨_,⟨_,e⟩,_⟩:=x;exact Yz e
theorem YX.mapP{α β:Type}{F G:α->β->Prop}:∀{c:List α} {d:List β},YX F c d->(∀a b,F a b->G a b)->YX G c d:=by
 intro a b w f
 induction w with
 |nil=>exact .nil
 |cons r _ ih=>exact .cons (f _ _ r) ih
theorem cD.stay(x:cD P w H h a o)(k:∀b u,(b=a∨H b=Ya (.own a))->h.get? b=Ya u->h'.get? b=Ya u)
  (ho:∀b,H b=Ya (.own a)->H' b=Ya (.own a)) (m:∀b xs,H b=Ya (.tup xs)->H' b=Ya (.tup xs)):cD P w H' h' a o:=by
 induction o with
 |lst xs=>obtain⟨z,j,n,r,e⟩:=x;exact⟨z,j,n,r,k _ _ (.inl rfl) e⟩
 |tup xs=>obtain⟨z,j,r,ob,e,c⟩:=x;exact⟨z,j,r,ob,k _ _ (.inl rfl) e,c⟩
 |dK kvs=>obtain⟨z,y,s,r,ob,g,i,e,c⟩:=x;exact⟨z,y,s,r,ob,g,i,k _ _ (.inl rfl) e,c⟩
 |dT kvs=>
  obtain⟨z,y,xs,r,ob,g,i,e,c⟩:=x;exact⟨z,y,xs,YX.mapP r λp q z=>⟨z.1,m _ _ z.2.1,z.2.2⟩,ob,g,i,k _ _ (.inl rfl) e,c⟩
 |set S n=>obtain⟨ob,g,i,t,e,c⟩:=x;exact⟨ob,g,i,t,k _ _ (.inl rfl) e,c⟩
 |ins C dx fs=>
  obtain⟨d,z,ne,e,l,⟨od,g,i,A,c⟩,r⟩:=x;exact⟨ho _ d,z,ne,k _ _ (.inl rfl) e,l,⟨od,g,i,k _ _ (.inr d) A,c⟩,r⟩
 |own y=>obtain⟨ob,e⟩:=x;exact⟨ob,k _ _ (.inl rfl) e⟩
 |xd fs=>obtain⟨l,⟨od,g,i,e,c⟩,r⟩:=x;exact⟨l,⟨od,g,i,k _ _ (.inl rfl) e,c⟩,r⟩
 |rng lo hi=>obtain⟨t,u,v,e⟩:=x;exact⟨t,u,v,k _ _ (.inl rfl) e⟩
 |frz ob u ih=>obtain⟨e,q⟩:=x;exact⟨k _ _ (.inl rfl) e,ih q⟩
 |tbl ps=>
  have e:h.get? a=Ya {cls:=.none,data:=.fields ps}:=x;show h'.get? a=Ya {cls:=.none,data:=.fields ps};exact k a _ (.inl rfl) e
 |met f y=>
  have e:h.get? a=Ya (aey (.ref f) (.ref y)):=x;show h'.get? a=Ya (aey (.ref f) (.ref y));exact k a _ (.inl rfl) e
 |ext φ=>obtain⟨p,⟨o,e⟩,st⟩:=x;exact⟨st _ _ p λo q=>k _ _ (.inl rfl) q,⟨o,k _ _ (.inl rfl) e⟩,st⟩
theorem mS.lt(x:mS P w H h)(e:H a=Ya o):a<h.objs.size:=(x a o e).lt
theorem mS.fresh(x:mS P w H h)(e:h.objs.size<=a):H a=none:=by
 cases q:H a with
 |none=>rfl
 |some u=>exact absurd (Y5 (x.lt q) e) (Y9 _)
theorem mS.kept(x:mS P w H h)(k:∀b u,h.get? b=Ya u->h'.get? b=Ya u):mS P w H h':=λa o e=>
 (x a o e).stay (λb u _ q=>k b u q) (λ_ q=>q) λ_ _ q=>q
theorem mS.laid(x:mS P w H h)(k:∀b u,h.get? b=Ya u->h'.get? b=Ya u)(hp:h.objs.size<=a)(new:cD P w (upd H a o) h' a o):mS P w (upd H a o) h':=λb u e=>by
 have hn:=x.fresh hp;by_cases d:b=a
 ·subst d;rw[af]at e;cases e;exact new
 ·rw[ak d]at e;exact(x b u e).stay (λc v _ q=>k c v q) (λc q=>by rw[ak (ay q hn)];exact q) λc f q=>by rw[ak (ay q hn)];exact q
end
def Rd(H:Hp)(a:Ye)(u:HO):Prop:=H a=Ya u∨∃o,H a=Ya (.frz o u)
theorem Rd.ok{w:Y7}{u:HO}(r:Rd H a u)(x:mS P w H h):cD P w H h a u:=by
 rcases r with r|⟨o,r⟩
 ·exact x a u r
 ·obtain⟨_,q⟩:=x a _ r;exact q
def WW:Option HO->Prop
 |some (.lst _)=>True
 |some (.dK _)=>True
 |some (.dT _)=>True
 |some (.set _ _)=>True
 |some (.ins _ _ _)=>True
 |some (.ext _)=>True
 |_=>False
section
variable{w:Y7}{x e:Ye}{o':HO}
theorem mS.write(ok:mS P w H h)(mu:WW (H x))(m:e=x∨H e=Ya (.own x))(k:∀b u,b≠e->h.get? b=Ya u->h'.get? b=Ya u)(l:∃u,h'.get? e=Ya u)
  (new:cD P w (upd H x o') h' x o'):mS P w (upd H x o') h':=λb u q=>by
 have d:∀c y,H c=Ya (.own y)->c≠x:=λc y r z=>by subst z;rw[r]at mu;exact mu
 have f:∀c g,H c=Ya (.tup g)->c≠x:=λc g r z=>by subst z;rw[r]at mu;exact mu
 by_cases i:b=x
 ·subst i;rw[af]at q;cases q;exact new
 ·rw[ak i]at q;by_cases a:b=e
  ·have n:H b=Ya (.own x):=by
    rcases m with z|z
    ·exact absurd (a.trans z) i
    ·rw[a];exact z
   rw[q]at n;cases n;obtain⟨v,o⟩:=l;exact⟨v,by rw[a];exact o⟩
  ·refine(ok b u q).stay (λc v j r=>k c v ?_ r) (λc r=>by rw[ak (d c b r)];exact r) λc g r=>by rw[ak (f c g r)];exact r
   rcases j with rfl|j
   ·exact a
   ·rintro rfl;rcases m with z|z
    ·exact d c b j z
    ·rw[j]at z;cases z;exact i rfl
end
structure Un(fs ex:List Ye)(H H':Hp)(h h':YV):Prop where
 keep:∀b o,h.get? b=Ya o->H b=Yb->b∉fs->b∉ex->h'.get? b=Ya o
 slot:∀b o,h.get? b=Ya o->H b=Yb->b∈fs->b∉ex->∃sl,h'.get? b=Ya {o with slots:=sl}
 free:∀b o,h.get? b=Ya o->H b=Yb->b∉ex->H' b=Yb
 there:∀b o,h.get? b=Ya o->b∉ex->∃o',h'.get? b=Ya o'
 tups:∀b xs,H b=Ya (.tup xs)->H' b=Ya (.tup xs)
 frzs:∀b o u,H b=Ya (.frz o u)->H' b=Ya (.frz o u)
 tbls:∀b ps,H b=Ya (.tbl ps)->∃more,H' b=Ya (.tbl (ps++more))
section
variable{fs fs' ex ex':List Ye}{H1 H2:Hp}{h1 h2:YV}{x e:Ye}
theorem Un.any(u:Un fs ex H H1 h h1){ob:pe}(q:h.get? b=Ya ob)(n:H b=Yb)(a:b∉ex):∃d,h1.get? b=Ya {ob with slots:=d}:=by
 by_cases c:b∈fs
 ·exact u.slot b ob q n c a
 ·exact⟨ob.slots,u.keep b ob q n c a⟩
theorem Un.kept(k:∀b u,h.get? b=Ya u->h'.get? b=Ya u):Un fs ex H H h h':=
 ⟨λb ob q _ _ _=>k b ob q,λb ob q _ _ _=>⟨ob.slots,k b ob q⟩,λ_ _ _ n _=>n,λb ob q _=>⟨ob,k b ob q⟩,λ_ _ q=>q,λ_ _ _ q=>q,λ_ ps q=>⟨#[],by rw[q];simp⟩⟩
theorem Un.refl:Un fs ex H H h h:=Un.kept λ_ _ q=>q
theorem Un.laid(k:∀b u,h.get? b=Ya u->h'.get? b=Ya u)(hp:h.objs.size<=a)(hn:H a=Yb):Un fs ex H (upd H a o) h h' where
 keep:=λb u q _ _ _=>k b u q
 slot:=λb u q _ _ _=>⟨u.slots,k b u q⟩
 free:=λb u q n _=>by rw[ak (YN (Y5 (Yz q) hp))];exact n
 there:=λb u q _=>⟨u,k b u q⟩
 tups:=λb c q=>by rw[ak (ay q hn)];exact q
 frzs:=λb u c q=>by rw[ak (ay q hn)];exact q
 tbls:=λb ps q=>⟨#[],by rw[ak (ay q hn),q];simp⟩
theorem Un.write(mu:WW (H x))(g:e=x∨H e=Ya (.own x))(k:∀b u,b≠e->h.get? b=Ya u->h'.get? b=Ya u)(c:∃u,h'.get? e=Ya u):Un fs ex H (upd H x o) h h':=by
 have d:∀b,H b=Yb->b≠x:=λb n z=>by subst z;rw[n]at mu;exact mu
 have f:∀b,H b=Yb->b≠e:=λb n z=>by
  subst z;rcases g with r|r
  ·exact d b n r
  ·rw[n]at r;cases r
 have hm:∀b u,H b=Ya u->¬ WW (Ya u)->b≠x:=λb u q i z=>by subst z;rw[q]at mu;exact i mu
 refine⟨λb u q n _ _=>k b u (f b n) q,λb u q n _ _=>⟨u.slots,k b u (f b n) q⟩,λb u q n _=>by rw[ak (d b n)];exact n,λb u q _=>?_,
  λb j q=>by rw[ak (hm b _ q λz=>z)];exact q,λb u j q=>by rw[ak (hm b _ q λz=>z)];exact q,λb ps q=>⟨#[],by rw[ak (hm b _ q λz=>z),q];simp⟩⟩
 by_cases a:b=e
 ·subst a;exact c
 ·exact⟨u,k b u a q⟩
end
noncomputable def Xp(h:YV)(H:Hp):List Ye:=(Y8 h.objs.size).filter λa=>(H a).isSome
noncomputable def CK(h:YV)(H:Hp):YV:=adH h (Xp h H)
theorem KO(h:YV)(H:Hp):(CK h H).objs.size=h.objs.size:=PySem.W.hideAll_size _ _
theorem OB{o:pe}(e:h.get? b=Ya o)(n:H b=Yb):(CK h H).get? b=Ya o:=
 agj _ e λhm=>by
  have q:(H b).isSome=true:=(YU.mp hm).2;rw[n]at q;simp at q
theorem Rm{o:pe}(e:(CK h H).get? b=Ya o):h.get? b=Ya o/\H b=none:=by
 have a:h.get? b=Ya o:=ago (Xp h H) e;refine⟨a,?_⟩;cases q:H b with
 |none=>rfl
 |some x=>
  have hm:b∈Xp h H:=YU.mpr ⟨aak.mpr (Yz a),by simp[q]⟩;have z:(CK h H).get? b=none:=afU (Xp h H) hm;rw[z]at e;cases e
structure Mod(K:Yc)(mg:Yp->Option Yd)(base:YV):Prop where
 kin:K.In base
 glob:base.Ns cw mg
 blt:∃mb,base.Ns ahv mb/\∀x:Yp,x≠"__name__"->mb x=abk x
 nolimit:base.NoLimit
structure Cx where
 prog:Y0
 w:Y7
 K:Yc
 mg:Yp->Option Yd
 base:YV
 A:uc
 N:List Yp
 s₀:Yn
 H₀:Hp
 env:ack
 outer:List ack
 stack:List ack
 ex:List Ye
 fn:Yp->Bool
 calm:Bool
 pn:List (Ye×pe)
 xe:Yd->Yn->Prop
variable{w:Y7}{X:Cx}{N:List Yp}{A:uc}{prog:Y0}{env:ack}{mg:Yp->Option Yd}{outer:List ack}
noncomputable def mT(l:List ack):List Ye:=l.filterMap (·.frame)
noncomputable abbrev Cx.fs(X:Cx):List Ye:=mT X.outer
variable{fs:List (Yp×V)}
def XE(sc:acb)(x:Yp):Prop:=sc.names.lookup x=Ya .local∨sc.names.lookup x=Ya .cell∨sc.names.lookup x=Ya .free
def WY(sc:acb)(x:Yp):Prop:=sc.names.lookup x=Ya .local∨sc.names.lookup x=Ya .cell
def XH(env:ack)(h:YV)(m:Yp->Option Yd)(x:Yp)(u:Yd):Prop:=
 (env.kindOf x=Ya .local/\m x=Ya u)∨((env.kindOf x=Ya .cell∨env.kindOf x=Ya .free)/\∃c,env.cells.lookup x=Ya c/\h.IsCell c (Ya u))
structure Cx.Ok(X:Cx):Prop where
 mod:Mod X.K X.mg X.base
 kind:X.env.scope.kind=.function
 glob:X.env.globals=cw
 blt:X.env.builtins=ahv
 above:X.s₀.heap.objs.size<=X.env.locals
 inj:∀x y c,X.env.cells.lookup x=Ya c->X.env.cells.lookup y=Ya c->x=y
 has:∀x,(X.env.kindOf x=Ya .cell∨X.env.kindOf x=Ya .free)->∃c,X.env.cells.lookup x=Ya c
 cab:∀x c,X.fn x=true->X.env.cells.lookup x=Ya c->X.s₀.heap.objs.size<=c
 hd:X.calm=true->X.A.handled=Yb
 frames:X.A.frames=Ya X.stack
 stk:X.stack=X.outer∨(X.stack=X.env::X.outer/\X.env.frame=Ya X.env.locals)
 exf:∀b∈X.ex,b≠X.env.locals/\∀x c,X.env.cells.lookup x=Ya c->c≠b
 bs:∀b o,X.base.get? b=Ya o->X.s₀.heap.get? b=Ya o/\X.H₀ b=Yb
 bsz:X.base.objs.size<=X.s₀.heap.objs.size
 noex:∀b o,X.base.get? b=Ya o->b∉X.ex
 exfs:∀b∈X.ex,b∉X.fs
 funs:X.s₀.heap.FunFrames X.base X.outer
 frf:∀b∈X.fs,X.H₀ b=Yb
structure aO(X:Cx)(Za:List (Ye×pe))(σ:List (Option V))(H:Hp)(s:Yn):Prop where
 ok:X.Ok
 os:s.os=X.s₀.os
 bare:acN s.gens
 base:Un X.fs X.ex X.H₀ H X.s₀.heap s.heap
 loc:∃m,s.heap.Ns X.env.locals m/\∀(i:Nat) (x:Yp) (v:V),X.N[i]?=Ya x->σ[i]?=Ya (Ya v)->XE X.env.scope x->∃u,RelV v u/\XH X.env s.heap m x u
 cell:∀x c,X.env.cells.lookup x=Ya c->∃v,s.heap.IsCell c v
 free:H X.env.locals=Yb
 freeC:∀x c,X.env.cells.lookup x=Ya c->H c=Yb
 pin:∀p∈X.pn++Za,s.heap.get? p.1=Ya p.2/\H p.1=Yb/\p.1≠X.env.locals/\p.1∉X.fs/\∀v,p.2.data≠.cell v
 hok:mS X.prog X.w H s.heap
 len:σ.length=X.N.length
section
variable{σ:List (Option V)}
theorem Cx.Ok.nofr(ok:X.Ok){o:pe}(e:X.base.get? b=Ya o):b∉X.fs:=λa=>by
 have:=(ok.funs.mem a).1;rw[e]at this;cases this
theorem aO.bs(I:aO X Za σ H s):∀b o,X.base.get? b=Ya o->s.heap.get? b=Ya o/\H b=none:=λb o e=>
 ⟨I.base.keep b o (I.ok.bs b o e).1 (I.ok.bs b o e).2 (I.ok.nofr e) (I.ok.noex b o e),I.base.free b o (I.ok.bs b o e).1 (I.ok.bs b o e).2 (I.ok.noex b o e)⟩
theorem aO.bk(I:aO X Za σ H s):∀b o,X.base.get? b=Ya o->s.heap.get? b=Ya o:=λb o e=>(I.bs b o e).1
theorem aO.mod(I:aO X Za σ H s):Mod X.K X.mg X.base:=I.ok.mod
theorem aO.kIn(I:aO X Za σ H s):X.K.In s.heap:=I.ok.mod.kin.keeps I.bk
theorem aO.lt(I:aO X Za σ H s):X.env.locals<s.heap.objs.size:=let ⟨_,hn,_⟩:=I.loc;hn.lt
theorem aO.sz(I:aO X Za σ H s):X.s₀.heap.objs.size<=s.heap.objs.size:=ir I.ok.above (xl I.lt)
theorem aO.nofs(I:aO X Za σ H s)(h:s.heap.objs.size<=a):a∉X.fs:=λb=>by
 obtain⟨_,o,ho,_⟩:=I.ok.funs.mem b;exact absurd (Y5 (Yz ho) (ir I.sz h)) (Y9 _)
theorem aO.cne(I:aO X Za σ H s):∀x c,X.env.cells.lookup x=Ya c->c≠X.env.locals:=λx c e z=>by
 obtain⟨v,o,ho,hd⟩:=I.cell x c e;obtain⟨m,⟨d,f,g,a,b,_⟩,_⟩:=I.loc;rw[z,a]at ho;cases ho;rw[b]at hd;cases hd
theorem aO.funs(I:aO X Za σ H s):s.heap.FunFrames X.base X.outer:=by
 have all:∀(l:List ack),(∀b∈mT l,b∈X.fs)->X.s₀.heap.FunFrames X.base l->s.heap.FunFrames X.base l:=by
  intro l
  induction l with
  |nil=>intro _ _;trivial
  |cons env r ih=>
   intro hs hl;obtain⟨f,⟨L,o,a,hn,ho,hd⟩,g⟩:=hl;have c:L∈X.fs:=hs L (by unfold mT;rw[acQ,a];exact Yu);obtain⟨h,e⟩:=I.base.slot L o ho (I.ok.frf L c) c λz=>I.ok.exfs L z c;exact⟨f,⟨L,_,a,hn,e,hd⟩,ih (λb d=>hs b (by unfold mT;rw[acQ,a];exact Yo _ d)) g⟩
 exact all X.outer (λ_ d=>d) I.ok.funs
theorem aO.stack(I:aO X Za σ H s):s.heap.FunFrames X.base X.stack:=by
 rcases I.ok.stk with e|⟨e,a⟩
 ·rw[e];exact I.funs
 ·rw[e];obtain⟨m,hn,_⟩:=I.loc;refine .cons (by rw[I.ok.kind];decide) a hn ?_ I.funs;exact afV (ir I.ok.bsz I.ok.above)
theorem aO.stkSub(I:aO X Za σ H s):∀b∈mT X.stack,b∈X.env.locals::X.fs:=λb a=>by
 rcases I.ok.stk with e|⟨e,c⟩
 ·rw[e]at a;exact Yo _ a
 ·rw[e]at a;unfold mT at a;rw[acQ,c]at a;exact a
theorem aO.stkFree(I:aO X Za σ H s):∀b∈mT X.stack,H b=none:=λb a=>by
 rcases Ym.mp (I.stkSub b a)with e|a
 ·rw[e];exact I.free
 ·obtain⟨_,o,ho,_⟩:=I.ok.funs.mem a;exact I.base.free b o ho (I.ok.frf b a) λz=>I.ok.exfs b z a
theorem aO.step(I:aO X Za σ H s)(f:∀b∈ch,(b∈X.ex∨X.s₀.heap.objs.size<=b)/\b≠X.env.locals/\(∀x c,X.env.cells.lookup x=Ya c->c≠b)/\∀p∈X.pn++Za,p.1≠b)(keep:∀b o,b≠X.env.locals->b∉X.fs->b∉ch->s.heap.get? b=Ya o->H b=Yb->h'.get? b=Ya o)(slot:∀b o,b≠X.env.locals->b∈X.fs->b∉ch->s.heap.get? b=Ya o->H b=Yb->∃B,h'.get? b=Ya {o with slots:=B})(free:∀b o,b∉ch->s.heap.get? b=Ya o->H b=Yb->H' b=Yb)(there:∀b o,b∉ch->s.heap.get? b=Ya o->∃o',h'.get? b=Ya o')(tups:∀b xs,H b=Ya (.tup xs)->H' b=Ya (.tup xs))(frzs:∀b o u,H b=Ya (.frz o u)->H' b=Ya (.frz o u))(tbls:∀b ps,H b=Ya (.tbl ps)->∃more,H' b=Ya (.tbl (ps++more)))(ns:∀m,s.heap.Ns X.env.locals m->h'.Ns X.env.locals m)(hok:mS X.prog X.w H' h')(F:acN g'):
  aO X Za σ H' {s with heap:=h',gens:=g',drawn:=d',toks:=t'}:=by
 have y:∀b o,X.s₀.heap.get? b=Ya o->b≠X.env.locals:=λb o e=>YN (Y5 (Yz e) I.ok.above);have j:∀b o,X.s₀.heap.get? b=Ya o->b∉X.ex->b∉ch:=λb o e a w=>by
  rcases(f b w).1 with z|z
  ·exact a z
  ·exact absurd (Y5 (Yz e) z) (Y9 _)
 have g:∀x c,X.env.cells.lookup x=Ya c->∀v,s.heap.IsCell c v->h'.IsCell c v:=λx c e v ⟨o,ho,hd⟩=>by
  have h:c∉ch:=λz=>(f c z).2.2.1 x c e rfl;by_cases D:c∈X.fs
  ·obtain⟨B,q⟩:=slot c o (I.cne x c e) D h ho (I.freeC x c e);exact⟨_,q,hd⟩
  ·exact⟨o,keep c o (I.cne x c e) D h ho (I.freeC x c e),hd⟩
 refine⟨I.ok,I.os,F,⟨λb o e n w a=>?_,λb o e n w a=>?_,λb o e n a=>?_,λb o e a=>?_,λb xs e=>tups b xs (I.base.tups b xs e),λb o xs e=>frzs b o xs (I.base.frzs b o xs e),λb ps e=>?_⟩,?_,λx c e=>?_,?_,λx c e=>?_,λp hp=>?_,hok,I.len⟩
 ·exact keep b o (y b o e) w (j b o e a) (I.base.keep b o e n w a) (I.base.free b o e n a)
 ·obtain⟨B,t⟩:=I.base.slot b o e n w a;obtain⟨C,A⟩:=slot b _ (y b o e) w (j b o e a) t (I.base.free b o e n a);exact⟨C,A⟩
 ·obtain⟨o',t⟩:=I.base.there b o e a;exact free b o' (j b o e a) t (I.base.free b o e n a)
 ·obtain⟨o',t⟩:=I.base.there b o e a;exact there b o' (j b o e a) t
 ·obtain⟨G,t⟩:=I.base.tbls b ps e;obtain⟨J,A⟩:=tbls b _ t;exact⟨G++J,by rw[A,agp]⟩
 ·obtain⟨m,hn,hl⟩:=I.loc;refine⟨m,ns m hn,λi x v t A K=>?_⟩;obtain⟨u,r,l⟩:=hl i x v t A K;refine⟨u,r,?_⟩;rcases l with l|⟨k,c,e,z⟩
  ·exact .inl l
  ·exact .inr ⟨k,c,e,g x c e _ z⟩
 ·obtain⟨v,z⟩:=I.cell x c e;exact⟨v,g x c e v z⟩
 ·obtain⟨m,⟨o,_,_,ho,_⟩,_⟩:=I.loc;exact free _ o (λz=>(f _ z).2.1 rfl) ho I.free
 ·obtain⟨v,o,ho,hd⟩:=I.cell x c e;exact free c o (λz=>(f c z).2.2.1 x c e rfl) ho (I.freeC x c e)
 ·obtain⟨e,n,ne,E,d⟩:=I.pin p hp;have h:p.1∉ch:=λz=>(f p.1 z).2.2.2 p hp rfl;exact⟨keep p.1 p.2 ne E h e n,free p.1 p.2 h e n,ne,E,d⟩
theorem aO.un(I:aO X Za σ H s)(u:Un X.fs [] H H' s.heap h')(hok:mS X.prog X.w H' h'):aO X Za σ H' {s with heap:=h',toks:=t'}:=by
 obtain⟨m,⟨o,i,j,ho,r⟩,_⟩:=id I.loc;obtain⟨k,f⟩:=u.any ho I.free (by simp);exact I.step (g':=s.gens) (d':=s.drawn) (ch:=[]) (λ_ z=>nomatch z) (λb o _ c _ e n=>u.keep b o e n c (by simp)) (λb o _ c _ e n=>u.slot b o e n c (by simp)) (λb o _ e n=>u.free b o e n (by simp)) (λb o _ e=>u.there b o e (by simp)) u.tups u.frzs u.tbls (λl hm=>by
  obtain⟨p,g,d,a,h⟩:=hm;rw[ho]at a;cases a;exact⟨_,g,d,f,h⟩) hok I.bare
theorem aO.call(I:aO X Za σ H s)(u:Un (mT X.stack) ch H H' s.heap h')(hok:mS X.prog X.w H' h')(i:acN g')(d:∀b∈ch,(b∈X.ex∨X.s₀.heap.objs.size<=b)/\b≠X.env.locals/\(∀x c,X.env.cells.lookup x=Ya c->c≠b)/\∀p∈X.pn++Za,p.1≠b):
  aO X Za σ H' {s with heap:=h',gens:=g',drawn:=d',toks:=t'}:=by
 obtain⟨m,⟨o,q,t,ho,r⟩,_⟩:=id I.loc;obtain⟨v,g⟩:=u.any ho I.free λz=>(d _ z).2.1 rfl;exact I.step (ch:=ch) d (λb o g j a e n=>u.keep b o e n (λz=>(Ym.mp (I.stkSub b z)).elim g j) a) (λb o _ _ a e n=>u.any e n a) (λb o a e n=>u.free b o e n a) (λb o a e=>u.there b o e a) u.tups u.frzs u.tbls (λw hm=>by
  obtain⟨y,k,h,f,l⟩:=hm;rw[ho]at f;cases f;exact⟨_,k,h,g,l⟩) hok i
theorem aO.turned(I:aO X Za σ H s)(k:∀b o,b≠it->s.heap.get? b=Ya o->h'.get? b=Ya o)(hn:H it=Yb)(f:it≠X.env.locals)(h1:it∈X.ex∨X.s₀.heap.objs.size<=it)(h2:∀x c,X.env.cells.lookup x=Ya c->c≠it)(h3:∀p∈X.pn++Za,p.1≠it):aO X Za σ H {s with heap:=h',toks:=t'}:=by
 have d:∀b u,H b=Ya u->b≠it:=λb u e z=>by rw[z,hn]at e;cases e
 refine I.step (g':=s.gens) (d':=s.drawn) (ch:=[it]) (λb g=>?_) (λb o _ _ a e _=>k b o (λz=>a (by simp[z])) e) (λb o _ _ a e _=>⟨o.slots,k b o (λz=>a (by simp[z])) e⟩) (λ_ _ _ _ n=>n)
  (λb o a e=>⟨o,k b o (λz=>a (by simp[z])) e⟩) (λ_ _ e=>e) (λ_ _ _ e=>e) (λb ps e=>⟨#[],by rw[e];simp⟩) (λm hm=>?_) (λb u e=>?_) I.bare
 ·have e:b=it:=by simpa using g
  subst e;exact⟨h1,f,h2,h3⟩
 ·obtain⟨o,h,i,ho,r⟩:=hm;exact⟨o,h,i,k _ o (Ne.symm f) ho,r⟩
 ·refine(I.hok b u e).stay (λc v a q=>k c v ?_ q) (λ_ q=>q) λ_ _ q=>q;rcases a with z|z
  ·rw[z];exact d b u e
  ·exact d c _ z
theorem aO.tok(I:aO X Za σ H s)(t:Nat):aO X Za σ H {s with toks:=t}:=I.un (h':=s.heap) (t':=t) Un.refl I.hok
theorem aO.kept(I:aO X Za σ H s)(k:∀b u,s.heap.get? b=Ya u->h'.get? b=Ya u):aO X Za σ H {s with heap:=h',toks:=t'}:=I.un (Un.kept k) (I.hok.kept k)
theorem aO.laid(I:aO X Za σ H s)(k:∀b u,s.heap.get? b=Ya u->h'.get? b=Ya u)(hp:s.heap.objs.size<=a)(new:cD X.prog X.w (upd H a o) h' a o):
  aO X Za σ (upd H a o) {s with heap:=h',toks:=t'}:=I.un (Un.laid k hp (I.hok.fresh hp)) (I.hok.laid k hp new)
theorem aO.write{x e:Ye}{o:HO}{t':Nat}(I:aO X Za σ H s)(mu:WW (H x))(c:e=x∨H e=Ya (.own x))(k:∀b u,b≠e->s.heap.get? b=Ya u->h'.get? b=Ya u)(a:∃u,h'.get? e=Ya u)
  (new:cD X.prog X.w (upd H x o) h' x o):aO X Za σ (upd H x o) {s with heap:=h',toks:=t'}:=I.un (Un.write mu c k a) (I.hok.write mu c k a new)
theorem aO.pins_of{a:List (Ye×pe)}(I:aO X Za σ H s)(h:∀p∈a,s.heap.get? p.1=Ya p.2/\H p.1=Yb/\p.1≠X.env.locals/\p.1∉X.fs/\∀v,p.2.data≠.cell v):aO X a σ H s:=
 ⟨I.ok,I.os,I.bare,I.base,I.loc,I.cell,I.free,I.freeC,λp hp=>(YD.mp hp).elim (λz=>I.pin p (YY _ z)) (h p),I.hok,I.len⟩
theorem DJ(c:N.Nodup)(a:N[i]?=Ya x)(b:N[j]?=Ya x):i=j:=by
 obtain⟨h1,d⟩:=Yh.mp a;obtain⟨h2,e⟩:=Yh.mp b;exact(List.getElem_inj c).mp (d.trans e.symm)
theorem AG{Q:Unit->Yn->Prop}(I:aO X Za σ H s)(hN:X.N.Nodup)(K:X.N[i]?=Ya x)(t:WY X.env.scope x)(r:RelV v u)(h:∀s',aO X Za (σ.set i (Ya v)) H s'->(∃a,aan a s.heap s'.heap/\(a=X.env.locals∨X.env.cells.lookup x=Ya a))->Q () s')(hf:X.fn x=true∨X.env.scope.names.lookup x=Ya .local:=by first|exact .inl rfl|exact .inr rfl|assumption):Ys M A (storeName X.env x u) Q E s:=by
 obtain⟨m,hn,hl⟩:=id I.loc;have L:(X.env.scope.kind==.class||(X.env.scope.kind==.module&&X.env.locals !=X.env.globals))=false:=by rw[I.ok.kind];rfl
 have N:i<σ.length:=by rw[I.len];exact(Yh.mp K).1
 have cne:=I.cne;have f:∀{a:Ye} {J:YV},(∃o,s.heap.get? a=Ya o/\H a=Yb)->aan a s.heap J->mS X.prog X.w H J:=fun{a J} ha hs b ob e=>by
  obtain⟨_,_,w⟩:=ha;refine(I.hok b ob e).stay (λc T l q=>(hs.2 c ?_).trans q) (λ_ q=>q) λ_ _ q=>q;rintro rfl;rcases l with rfl|l
  ·rw[w]at e;cases e
  ·rw[w]at l;cases l
 rcases t with C|C
 ·refine wpAny_storeName_local C hn (λJ V hs=>?_) L;obtain⟨oL,_,_,W,_⟩:=id hn;refine h _ ⟨I.ok,I.os,I.bare,⟨λb o e n D t=>?_,λb o e n D t=>?_,I.base.free,λb o e t=>?_,I.base.tups,I.base.frzs,I.base.tbls⟩,⟨_,V,λj y Y g B Z=>?_⟩,λy c e=>?_,I.free,I.freeC,λp hp=>?_,f ⟨oL,W,I.free⟩ hs,by simpa using I.len⟩ ⟨_,hs,.inl rfl⟩
  ·exact(hs.2 b (YN (Y5 (Yz e) I.ok.above))).trans (I.base.keep b o e n D t)
  ·obtain⟨sl,g⟩:=I.base.slot b o e n D t;exact⟨sl,(hs.2 b (YN (Y5 (Yz e) I.ok.above))).trans g⟩
  ·obtain⟨o',g⟩:=I.base.there b o e t;exact⟨o',(hs.2 b (YN (Y5 (Yz e) I.ok.above))).trans g⟩
  ·by_cases F:j=i
   ·subst F;rw[K]at g;cases g;rw[afr N]at B;cases B;exact⟨u,r,.inl ⟨C,by simp⟩⟩
   ·rw[afW (Ne.symm F)]at B;obtain⟨u',r',q⟩:=hl j y Y g B Z;refine⟨u',r',?_⟩;rcases q with⟨k,e⟩|⟨k,c,e,z⟩
    ·refine .inl ⟨k,?_⟩;have:y≠x:=λe=>F (DJ hN g (e▸K));simp[this,e]
    ·exact .inr ⟨k,c,e,z.sameBut hs (cne y c e)⟩
  ·obtain⟨T,z⟩:=I.cell y c e;exact⟨T,z.sameBut hs (cne y c e)⟩
  ·obtain⟨e,n,ne,nf,d⟩:=I.pin p hp;exact⟨(hs.2 p.1 ne).trans e,n,ne,nf,d⟩
 ·have G:X.fn x=true:=by
   rcases hf with z|z
   ·exact z
   ·rw[z]at C;cases C
  obtain⟨c,l⟩:=I.ok.has x (.inl C);obtain⟨T,z⟩:=I.cell x c l;refine wpAny_storeName_cell I.ok.kind C l z (λJ O hs=>?_);obtain⟨oc,P,R⟩:=id z;refine h {s with heap:=J} ⟨I.ok,I.os,I.bare,⟨λb o e n D t=>?_,λb o e n D t=>?_,I.base.free,λb o e t=>?_,I.base.tups,I.base.frzs,I.base.tbls⟩,⟨m,hn.sameBut hs (Ne.symm (cne x c l)),λj y Y g B Z=>?_⟩,λy U e=>?_,I.free,I.freeC,λp hp=>?_,f ⟨oc,P,I.freeC x c l⟩ hs,by simpa using I.len⟩ ⟨c,hs,.inr l⟩
  ·exact(hs.2 b (YN (Y5 (Yz e) (I.ok.cab x c G l)))).trans (I.base.keep b o e n D t)
  ·obtain⟨sl,g⟩:=I.base.slot b o e n D t;exact⟨sl,(hs.2 b (YN (Y5 (Yz e) (I.ok.cab x c G l)))).trans g⟩
  ·obtain⟨o',g⟩:=I.base.there b o e t;exact⟨o',(hs.2 b (YN (Y5 (Yz e) (I.ok.cab x c G l)))).trans g⟩
  ·by_cases F:j=i
   ·subst F;rw[K]at g;cases g;rw[afr N]at B;cases B;exact⟨u,r,.inr ⟨.inl C,c,l,O⟩⟩
   ·rw[afW (Ne.symm F)]at B;obtain⟨u',r',q⟩:=hl j y Y g B Z;refine⟨u',r',?_⟩;rcases q with q|⟨k,U,e,z'⟩
    ·exact .inl q
    ·refine .inr ⟨k,U,e,z'.sameBut hs ?_⟩;rintro rfl;exact F (DJ hN g (I.ok.inj _ _ _ e l▸K))
  ·by_cases S:U=c
   ·subst S;exact⟨_,O⟩
   ·obtain⟨w2,z2⟩:=I.cell y U e;exact⟨w2,z2.sameBut hs S⟩
  ·obtain⟨e,n,ne,nf,d⟩:=I.pin p hp;refine⟨(hs.2 p.1 ?_).trans e,n,ne,nf,d⟩;intro q;rw[q,P]at e;have q':oc=p.2:=YF e;exact d T (by rw[←q'];exact R)
theorem FI{Q:Unit->Yn->Prop}(I:aO X Za σ H s)(a:X.N.Nodup)(b:X.N[i]?=Ya x)(c:WY X.env.scope x)(r:RelV v u)(h:∀s',aO X Za (σ.set i (Ya v)) H s'->Q () s')(d:X.fn x=true∨X.env.scope.names.lookup x=Ya .local:=by first|exact .inl rfl|exact .inr rfl|assumption):Ys M A (storeName X.env x u) Q E s:=
 AG I a b c r (λs' e _=>h s' e) d
theorem aO.call'(I:aO X Za σ H s)(ho:s'.os=s.os)(u:Un (mT X.stack) ch H H' s.heap s'.heap)(hok:mS X.prog X.w H' s'.heap)(d:acN s'.gens)(a:∀b∈ch,(b∈X.ex∨X.s₀.heap.objs.size<=b)/\b≠X.env.locals/\(∀x c,X.env.cells.lookup x=Ya c->c≠b)/\∀p∈X.pn++Za,p.1≠b):aO X Za σ H' s':=by
 obtain⟨j,f,g,h,i⟩:=s';have e:i=s.os:=ho;subst e;exact I.call (g':=f) (t':=h) (d':=g) u hok d a
end
abbrev XK:=Yd->Option Ye->Hp->Prop
abbrev St:=List (Option V)
variable{σ:St}
abbrev VK:=V->Hp->Prop
abbrev TE:=St->Hp->VK->Prop
variable{ta te tl tv td ty:TE}
abbrev TT:=St->Hp->(Bool->Hp->Prop)->Prop
variable{tc:TT}
abbrev TA:=St->Hp->(List V->Hp->Prop)->Prop
structure qB where
 nx:St->Hp->Prop
 rt:VK
 bk:St->Hp->Prop:=λ_ _=>False
 ct:St->Hp->Prop:=λ_ _=>False
variable{D:qB}
abbrev TS:=qB->St->Hp->Prop
variable{tb:TS}
def EP(X:Cx)(b:List (Ye×pe))(σ:St)(Q:VK)(u:Yd)(s':Yn):Prop:=∃v a,aO X b σ a s'/\RelV v u/\Q v a
def TP(X:Cx)(c:List (Ye×pe))(σ:St)(Q:Bool->Hp->Prop)(b:Bool)(s':Yn):Prop:=∃a,aO X c σ a s'/\Q b a
def AP(X:Cx)(c:List (Ye×pe))(σ:St)(Q:List V->Hp->Prop)(us:List Yd)(s':Yn):Prop:=∃a b,aO X c σ b s'/\Vals a us/\Q a b
def SP(X:Cx)(c:List (Ye×pe))(D:qB)(f:Flow)(s':Yn):Prop:=
 match f with
 | .next=>∃b a,aO X c b a s'/\D.nx b a
 | .brk=>∃b a,aO X c b a s'/\D.bk b a
 | .cont=>∃b a,aO X c b a s'/\D.ct b a
 | .ret u=>∃v b a,aO X c b a s'/\RelV v u/\D.rt v a
def PE(X:Cx)(e:cb)(t:TE):Prop:=
 ∀(a:List (Ye×pe)) (s:Yn) (σ:St) (H:Hp) (Q:VK),aO X a σ H s->t σ H Q->Ys (Yv X.prog X.w) X.A (lr e X.env) (EP X a σ Q) X.xe s
def PT(X:Cx)(e:cb)(t:TT):Prop:=
 ∀(a:List (Ye×pe)) (s:Yn) (σ:St) (H:Hp) (Q:Bool->Hp->Prop),aO X a σ H s->t σ H Q->Ys (Yv X.prog X.w) X.A (ahw e X.env (lr e X.env)) (TP X a σ Q) X.xe s
def PW(X:Cx)(e:cb)(t:TT):Prop:=
 ∀(a:aex Yd) (b:List (Ye×pe)) (s:Yn) (σ:St) (H:Hp) (Q:Bool->Hp->Prop),aO X b σ H s->t σ H Q->Ys (Yv X.prog X.w) X.A (ahw e X.env a) (TP X b σ Q) X.xe s
theorem PW.pt{t:TT}(h:PW X e t):PT X e t:=h _
def PA(X:Cx)(es:List cb)(t:TA):Prop:=
 ∀(pos:abz) (a:List (Ye×pe)) (s:Yn) (σ:St) (H:Hp) (Q:List V->Hp->Prop),aO X a σ H s->t σ H Q->Ys (Yv X.prog X.w) X.A (spliced (aad pos (YW es X.env))) (AP X a σ Q) X.xe s
def PS(X:Cx)(st:Y4)(t:TS):Prop:=
 ∀(a:List (Ye×pe)) (s:Yn) (σ:St) (H:Hp) (D:qB),aO X a σ H s->t D σ H->Ys (Yv X.prog X.w) X.A (exec st X.env) (SP X a D) X.xe s
def CS(X:Cx)(st:List Y4)(t:TS):Prop:=
 ∀(a:List (Ye×pe)) (s:Yn) (σ:St) (H:Hp) (D:qB),aO X a σ H s->t D σ H->Ys (Yv X.prog X.w) X.A (execs st X.env) (SP X a D) X.xe s
theorem cL{α:Type}{t:aex α}{Q b:α->Yn->Prop}(h:Ys M A t Q E s)(c:∀a s,Q a s->b a s):Ys M A t b E s:=oh h c λ_ _ x=>x
section
theorem bin{a b:cb}{tb:TE}(ha:PE X a ta)(i:PE X b tb)(I:aO X Za σ H s)(h:ta σ H λx e=>tb σ e λy c=>R x y c){α:Type}{Q:α->Yn->Prop}{f:Yd->Yd->aex α}(j:∀v u d x y c,aO X Za σ c d->RelV x v->RelV y u->R x y c->Ys (Yv X.prog X.w) X.A (f v u) Q X.xe d):
  Ys (Yv X.prog X.w) X.A (lr a X.env) (λv k=>Ys (Yv X.prog X.w) X.A (lr b X.env) (λu l=>Ys (Yv X.prog X.w) X.A (f v u) Q X.xe l) X.xe k) X.xe s:=by
 refine cL (ha Za s σ H _ I h) λv m g=>?_;obtain⟨x,e,n,o,p⟩:=g;refine cL (i Za m σ e _ n p) λu d g=>?_;obtain⟨y,c,q,r,t⟩:=g;exact j v u d x y c q o r t
def Jw(i:Nat):TE:=λσ H Q=>∃v,σ[i]?=Ya (Ya v)/\Q v H
def tC(v:V):TE:=λ_ H Q=>Q v H
theorem T5(g:X.N[i]?=Ya x)(j:XE X.env.scope x)(hd:(x==("__debug__":Yp))=false:=by decide)(d:(x==("__classdict__":Yp))=false:=by decide):PE X (.Name x pos) (Jw i):=by
 intro k s σ H Q I h;obtain⟨v,e,h⟩:=h;obtain⟨m,hn,hl⟩:=I.loc;obtain⟨u,r,l⟩:=hl i x v g e j;have fin:EP X k σ Q u s:=⟨v,H,I,r,h⟩;rcases l with⟨b,hm⟩|⟨b,c,f,a⟩
 ·exact ahx (wpAny_loadName_local I.ok.kind b hn hm fin) hd
 ·rcases b with b|b
  ·exact ahx (wpAny_loadName_cell I.ok.kind b f a fin) hd
  ·exact ahx (wpAny_loadName_free I.ok.kind b f a fin d) hd
theorem az{i j pos}:PE X (.Constant (.int i) j pos) (tC (.int i)):=λ_ _ _ H _ I h=>wpAny_Constant_int ⟨.int i,H,I.tok _,⟨_,rfl⟩,h⟩
theorem wM{b j pos}:PE X (.Constant (.bool b) j pos) (tC (.bl b)):=λ_ _ _ H _ I h=>Constant_bool ⟨.bl b,H,I,rfl,h⟩
theorem pY{j pos}:PE X (.Constant .none j pos) (tC .non):=λ_ _ _ H _ I h=>Constant_none ⟨.non,H,I,rfl,h⟩
theorem fS{x j pos}:PE X (.Constant (.str x) j pos) (tC (.str x)):=λ_ _ _ H _ I h=>Calls.Constant_str ⟨.str x,H,I.tok _,⟨_,rfl⟩,h⟩
def Gl(X:Cx)(x:Yp):Prop:=X.env.kindOf x=Ya .globalImplicit
theorem nP(I:aO X Za σ H s)(a:Gl X x)(hm:X.mg x=Ya u)(h:Q u s)(hd:(x==("__debug__":Yp))=false:=by decide):Ys (Yv X.prog X.w) X.A (lr (.Name x pos) X.env) Q E s:=
 aen I.ok.kind a (Calls.loadGlobal_global (by rw[I.ok.glob];exact I.mod.glob.keeps I.bk) hm h) hd
theorem qe(I:aO X Za σ H s)(a:Gl X x)(hm:X.mg x=Yb)(b:abk x=Ya u)(h:Q u s)(hn:x≠"__name__":=by decide)(hd:(x==("__debug__":Yp))=false:=by decide):Ys (Yv X.prog X.w) X.A (lr (.Name x pos) X.env) Q E s:=by
 obtain⟨c,h1,h2⟩:=I.mod.blt;exact aen I.ok.kind a (Calls.loadGlobal_builtin (by rw[I.ok.glob];exact I.mod.glob.keeps I.bk) hm (by rw[I.ok.blt];exact h1.keeps I.bk) ((h2 x hn).trans b) h) hd
theorem HD(a:Gl X x)(hm:X.mg x=Ya u)(r:RelV v u)(hd:(x==("__debug__":Yp))=false:=by decide):PE X (.Name x pos) (tC v):=
 λ_ _ _ H _ I h=>nP I a hm ⟨v,H,I,r,h⟩ hd
theorem PU(a:Gl X x)(hm:X.mg x=Yb)(b:abk x=Ya u)(r:RelV v u)(hn:x≠"__name__":=by decide)(hd:(x==("__debug__":Yp))=false:=by decide):PE X (.Name x pos) (tC v):=
 λ_ _ _ H _ I h=>qe I a hm b ⟨v,H,I,r,h⟩ hn hd
variable{a b:cb}{tb:TE}
def PC(X:Cx)(op:ahu)(a b:cb)(t:TE):Prop:=
 ∀(c:List (Ye×pe)) (s:Yn) (σ:St) (H:Hp) (Q:VK),aO X c σ H s->t σ H Q->
  Ys (Yv X.prog X.w) X.A (lr a X.env) (λv d=>Ys (Yv X.prog X.w) X.A (lr b X.env) (λu e=>Ys (Yv X.prog X.w) X.A (aai op v u) (EP X c σ Q) X.xe e) X.xe d) X.xe s
def tB(t:TE):TT:=λσ H Q=>t σ H λx a=>∃c,x=.bl c/\Q c a
theorem Gv{t:TE}(h:PC X op a b t)(h1:adt op b=false:=by first|exact nobehind _ (by decide) (by decide)|rfl):PT X (.Compare a [op] [b] pos) (tB t):=by
 intro e s σ H Q I hw;refine afB (cL (h e s σ H _ I hw) λv l h1=>cL h1 λu m h2=>cL h2 λc n f=>?_) h1;obtain⟨x,g,i,j,k⟩:=f;obtain⟨d,rfl,q⟩:=k;cases j;exact abu ⟨g,i,q⟩
variable{tA tB':TT}{Zd:List cb}
def Wz(t u:TT):TT:=λσ H Q=>t σ H λc a=>if c=true then u σ a Q else Q false a
def X0(t u:TT):TT:=λσ H Q=>t σ H λc a=>if c=true then Q true a else u σ a Q
def Vq(t:TT):TT:=λσ H Q=>t σ H λc a=>Q (!c) a
theorem uK(ha:PT X a tA):PW X (.BoolOp .And [a] pos) tA:=by
 intro d b s σ H Q I h;refine isTrue_and (cL (ha b s σ H Q I h) λc f e=>?_);cases c with
 |true=>exact isTrue_and_nil e
 |false=>exact e
theorem LR(ha:PT X a tA):PW X (.BoolOp .Or [a] pos) tA:=by
 intro d b s σ H Q I h;refine isTrue_or (cL (ha b s σ H Q I h) λc f e=>?_);cases c with
 |false=>exact isTrue_or_nil e
 |true=>exact e
theorem zW(ha:PT X a tA)(i:PW X (.BoolOp .And (b::Zd) pos) tB'):PW X (.BoolOp .And (a::b::Zd) pos) (Wz tA tB'):=by
 intro j d s σ H Q I h;refine isTrue_and (cL (ha d s σ H _ I h) λc k l=>?_);obtain⟨e,f,g⟩:=l;cases c with
 |true=>exact i j d k σ e Q f g
 |false=>exact⟨e,f,g⟩
theorem RS(ha:PT X a tA)(i:PW X (.BoolOp .Or (b::Zd) pos) tB'):PW X (.BoolOp .Or (a::b::Zd) pos) (X0 tA tB'):=by
 intro j d s σ H Q I h;refine isTrue_or (cL (ha d s σ H _ I h) λc k l=>?_);obtain⟨e,f,g⟩:=l;cases c with
 |true=>exact⟨e,f,g⟩
 |false=>exact i j d k σ e Q f g
theorem vF(ha:PT X a tA):PT X (.UnaryOp .Not a pos) (Vq tA):=by
 intro b s σ H Q I h;exact isTrue_not (ha b s σ H (λc d=>Q (!c) d) I h)
def Ry(ta tb:TE):TE:=λσ H Q=>ta σ H λx a=>∃c,x=.bl c/\if c=true then tb σ a Q else Q (.bl false) a
def Vi(ta tb:TE):TE:=λσ H Q=>ta σ H λx a=>∃c,x=.bl c/\if c=true then Q (.bl true) a else tb σ a Q
def RJ(ta:TE):TE:=λσ H Q=>ta σ H λx a=>∃c,x=.bl c/\Q (.bl (!c)) a
theorem yW{op}{t:TE}(h:PE X a t):PE X (.BoolOp op [a] pos) t:=λb s σ H Q I hw=>BoolOp_one (h b s σ H Q I hw)
theorem By(ha:PE X a ta)(i:PE X (.BoolOp .And (b::Zd) pos) tb):PE X (.BoolOp .And (a::b::Zd) pos) (Ry ta tb):=by
 intro e s σ H Q I h;refine BoolOp_and (cL (ha e s σ H _ I h) λv j k=>?_);obtain⟨x,f,g,l,d⟩:=k;obtain⟨c,rfl,d⟩:=d;cases l;refine abu ?_;cases c with
 |true=>exact i e j σ f Q g d
 |false=>exact⟨.bl false,f,g,rfl,d⟩
theorem V5(ha:PE X a ta)(i:PE X (.BoolOp .Or (b::Zd) pos) tb):PE X (.BoolOp .Or (a::b::Zd) pos) (Vi ta tb):=by
 intro e s σ H Q I h;refine BoolOp_or (cL (ha e s σ H _ I h) λv j k=>?_);obtain⟨x,f,g,l,d⟩:=k;obtain⟨c,rfl,d⟩:=d;cases l;refine abu ?_;cases c with
 |false=>exact i e j σ f Q g d
 |true=>exact⟨.bl true,f,g,rfl,d⟩
theorem MB(ha:PE X a ta):PE X (.UnaryOp .Not a pos) (RJ ta):=by
 intro d s σ H Q I h;refine UnaryOp_ (cL (ha d s σ H _ I h) λv j e=>?_);obtain⟨x,f,g,i,b⟩:=e;obtain⟨c,rfl,b⟩:=b;cases i;exact not_of (abu ⟨.bl (!c),f,g,rfl,b⟩)
def X9(t:TT)(ta tb:TE):TE:=λσ H Q=>t σ H λc a=>if c=true then ta σ a Q else tb σ a Q
theorem z4(k:PT X c tA)(ha:PE X a ta)(l:PE X b tb):PE X (.IfExp c a b pos) (X9 tA ta tb):=by
 intro e s σ H Q I h;refine wpAny_IfExp (cL (k e s σ H _ I h) λd f m=>?_);obtain⟨g,i,j⟩:=m;cases d with
 |true=>exact ha e f σ g Q i j
 |false=>exact l e f σ g Q i j
end
def a9(K:Yc)(H:Hp)(a:Ye)(xs:List V):Prop:=
 Rd H a (.lst xs)∨
  ∃(o:pe) (b:Array Yd) (n:Nat),K.lookup a=Ya o/\o.cls=.type "list"/\o.dict=Yb/\o.data=.seq b n/\b.size<=YB/\Vals xs b.toList
def bJ(K:Yc)(H:Hp)(a:Ye)(xs:List V):Prop:=
 Rd H a (.tup xs)∨
  ∃(o:pe) (b:Array Yd) (n:Nat),K.lookup a=Ya o/\o.cls=.type "tuple"/\o.data=.seq b n/\b.size<=YB/\Vals xs b.toList
noncomputable def Xx:Yd->Option V
 | .none=>Ya .non
 | .bool b=>Ya (.bl b)
 | .int i _=>Ya (.int i)
 | .str x _=>Ya (.str x)
 | .bytes b _=>Ya (.byt b)
 | .float b _=>Ya (.flt b)
 | .ref a=>Ya (.ref a)
 | .type n=>Ya (.ty n)
 |_=>Yb
theorem RelV.abs{x:V}(r:RelV x u):Xx u=Ya x:=by
 cases x with
 |non=>cases r;rfl
 |bl _=>cases r;rfl
 |int _=>obtain⟨t,rfl⟩:=r;rfl
 |str _=>obtain⟨t,rfl⟩:=r;rfl
 |byt _=>obtain⟨t,rfl⟩:=r;rfl
 |flt _=>obtain⟨t,rfl⟩:=r;rfl
 |ref _=>cases r;rfl
 |ty _=>cases r;rfl
theorem RelV.inj{x:V}(r:RelV x u)(q:RelV y u):x=y:=YF (r.abs.symm.trans q.abs)
theorem Vals.inj:∀{xs ys:List V} {us:List Yd},Vals xs us->Vals ys us->xs=ys:=by
 intro xs ys us h
 induction h generalizing ys with
 |nil=>
  intro h;cases h;rfl
 |cons r t ih=>
  intro h;cases h with|cons r' t'=>
  rw[r.inj r',ih t']
section
variable{xs ys:List V}
theorem a9.of{K:Yc}(h:H a=Ya (.lst xs)):a9 K H a xs:=.inl (.inl h)
theorem bJ.of{K:Yc}(h:H a=Ya (.tup xs)):bJ K H a xs:=.inl (.inl h)
theorem aO.list(I:aO X Za σ H s)(h:a9 X.K H a xs):∃its:List Yd,Vals xs its/\PlainL s.heap a its.toArray/\xs.length<=YB:=by
 rcases h with h|⟨o,its,n,b,c,hd,hs,d,r⟩
 ·obtain⟨z,its,n,r,e⟩:=h.ok I.hok;exact⟨its,r,⟨_,n,e,rfl,rfl,rfl⟩,z⟩
 ·refine⟨its.toList,r,⟨o,n,I.kIn a o b,c,hd,by simpa using hs⟩,?_⟩;have e:=r.length;simp only[pk]at e;omega
theorem aO.tuple(I:aO X Za σ H s)(h:bJ X.K H a xs):∃its:List Yd,Vals xs its/\ain s.heap a its.toArray/\xs.length<=YB:=by
 rcases h with h|⟨o,its,n,b,c,hs,d,r⟩
 ·obtain⟨z,its,r,p⟩:=h.ok I.hok;exact⟨its,r,p.tup,z⟩
 ·refine⟨its.toList,r,⟨o,I.kIn a o b,c,n,by simpa using hs⟩,?_⟩;have e:=r.length;simp only[pk]at e;omega
theorem aO.list_inj(I:aO X Za σ H s)(h:a9 X.K H a xs)(h':a9 X.K H a ys):xs=ys:=by
 obtain⟨c,r,⟨o,n,e,_,_,d⟩,_⟩:=I.list h;obtain⟨b,i,⟨j,k,f,_,_,g⟩,_⟩:=I.list h';rw[e]at f;cases f;rw[d]at g;injection g with d1 _;have:c=b:=by simpa using congrArg agq d1
 subst this;exact r.inj i
theorem aO.tuple_inj(I:aO X Za σ H s)(h:bJ X.K H a xs)(h':bJ X.K H a ys):xs=ys:=by
 obtain⟨c,r,⟨o,e,_,n,d⟩,_⟩:=I.tuple h;obtain⟨b,i,⟨j,f,_,k,g⟩,_⟩:=I.tuple h';rw[e]at f;cases f;rw[d]at g;injection g with d1 _;have:c=b:=by simpa using congrArg agq d1
 subst this;exact r.inj i
end
noncomputable abbrev Cx.wish(X:Cx)(E:Yd->Yn->Prop):Cx:={X with xe:=E}
noncomputable abbrev Cx.nox(X:Cx):Cx:=X.wish λ_ _=>False
theorem Cx.Ok.wish(ok:X.Ok)(E:Yd->Yn->Prop):(X.wish E).Ok:=
 ⟨ok.mod,ok.kind,ok.glob,ok.blt,ok.above,ok.inj,ok.has,ok.cab,ok.hd,ok.frames,ok.stk,ok.exf,ok.bs,ok.bsz,ok.noex,ok.exfs,ok.funs,ok.frf⟩
theorem Cx.Ok.unwish(ok:(X.wish E).Ok):X.Ok:=
 ⟨ok.mod,ok.kind,ok.glob,ok.blt,ok.above,ok.inj,ok.has,ok.cab,ok.hd,ok.frames,ok.stk,ok.exf,ok.bs,ok.bsz,ok.noex,ok.exfs,ok.funs,ok.frf⟩
section
theorem aO.wish(I:aO X Za σ H s)(E:Yd->Yn->Prop):aO (X.wish E) Za σ H s:=⟨I.ok.wish E,I.os,I.bare,I.base,I.loc,I.cell,I.free,I.freeC,I.pin,I.hok,I.len⟩
theorem aO.unwish(I:aO (X.wish E) Za σ H s):aO X Za σ H s:=⟨I.ok.unwish,I.os,I.bare,I.base,I.loc,I.cell,I.free,I.freeC,I.pin,I.hok,I.len⟩
theorem SP.unwish{f:Flow}(h:SP (X.wish E) Za D f s'):SP X Za D f s':=by
 cases f with
 |next=>obtain⟨a,b,I,q⟩:=h;exact⟨a,b,I.unwish,q⟩
 |brk=>obtain⟨a,b,I,q⟩:=h;exact⟨a,b,I.unwish,q⟩
 |cont=>obtain⟨a,b,I,q⟩:=h;exact⟨a,b,I.unwish,q⟩
 |ret u=>obtain⟨v,a,b,I,r,q⟩:=h;exact⟨v,a,b,I.unwish,r,q⟩
theorem CS.nox{st:List Y4}{t:TS}(h:CS X.nox st t):CS X st t:=λa s σ H D I hw=>
 oh (h a s σ H D (I.wish _) hw) (λ_ _ q=>q.unwish) λ_ _ z=>aao z
end
section
variable{st:Y4}{Zd:List Y4}{t u:TS}
def IB:TS:=λD σ H=>D.nx σ H
def qy(t u:TS):TS:=λD σ H=>t {D with nx:=u D} σ H
theorem cg:CS X [] IB:=λ_ _ σ H _ I h=>acU ⟨σ,H,I,h⟩
theorem aj(h1:PS X st t)(h2:CS X Zd u):CS X (st::Zd) (qy t u):=by
 intro a s σ H D I h;refine ag3 (cL (h1 a s σ H {D with nx:=u D} I h) λf b q=>?_);cases f with
 |next=>
  obtain⟨c,d,e,q⟩:=q;exact h2 a b c d D e q
 |ret v=>exact q
 |brk=>exact q
 |cont=>exact q
theorem ax(h1:PS X st t):CS X [st] t:=by
 intro a s σ H D I h;refine ag3 (cL (h1 a s σ H D I h) λf b q=>?_);cases f with
 |next=>exact acU q
 |ret v=>exact q
 |brk=>exact q
 |cont=>exact q
def MH:TS:=λD σ H=>D.bk σ H
theorem Nk:PS X (.Break pos) MH:=λ_ _ σ H _ I h=>wpAny_Break ⟨σ,H,I,h⟩
theorem aO.quiet(I:aO X Za σ H s):interactive X.env=false:=by simp[interactive,I.ok.kind]
def N1(a:TE):TS:=λD σ H=>a σ H λ_ b=>D.nx σ b
theorem dC(a:PE X e te)(hs:adz e Yb pos.line X.env=pure false:=by rfl):PS X (.Expr e pos) (N1 te):=by
 intro b s σ H D I h;exact wpAny_Expr_any (cL (a b s σ H _ I h) λv g ⟨x,c,d,i,f⟩=>⟨σ,c,d,f⟩) I.quiet hs
def SK(a:TE):TS:=λD σ H=>a σ H D.rt
theorem aP(a:PE X e te):PS X (.Return (Ya e) pos) (SK te):=by
 intro b s σ H D I h;exact wpAny_Return_some (cL (a b s σ H _ I h) λv i ⟨x,c,d,f,g⟩=>⟨x,σ,c,d,f,g⟩)
def O6(c:TT)(t u:TS):TS:=λD σ H=>c σ H λb a=>if b=true then t D σ a else u D σ a
theorem eF{a b:List Y4}(k:PT X c tc)(ha:CS X a t)(l:CS X b u):PS X (.If c a b pos) (O6 tc t u):=by
 intro e s σ H D I h;refine wpAny_If (cL (k e s σ H _ I h) λd f m=>?_);obtain⟨g,i,j⟩:=m;cases d with
 |true=>exact ha e f σ g D i j
 |false=>exact l e f σ g D i j
def Ln:TS:=λ_ _ _=>False
theorem Fs:PS X st Ln:=λ_ _ _ _ _ _ h=>h.elim
end
abbrev TG:=V->St->Hp->(St->Hp->Prop)->Prop
variable{g:TG}
abbrev OM:=List V->St->Hp->(St->Hp->Prop)->Prop
def PG(X:Cx)(a:cb)(t:TG):Prop:=
 ∀(b:List (Ye×pe)) (s:Yn) (σ:St) (H:Hp) (v:V) (u:Yd) (Q:St->Hp->Prop),aO X b σ H s->RelV v u->t v σ H Q->
  Ys (Yv X.prog X.w) X.A (aeP a X.env u) (λ_ s'=>∃c d,aO X b c d s'/\Q c d) X.xe s
def Wy(X:Cx)(e:List cb)(t:OM):Prop:=
 ∀(a:List (Ye×pe)) (s:Yn) (σ:St) (H:Hp) (b:List V) (us:List Yd) (Q:St->Hp->Prop),aO X a σ H s->Vals b us->t b σ H Q->
  Ys (Yv X.prog X.w) X.A (assignInOrder ((acH e X.env).map (·.2)) us) (λ_ s'=>∃c d,aO X a c d s'/\Q c d) X.xe s
section
def yt(i:Nat):TG:=λv σ H Q=>Q (σ.set i (Ya v)) H
theorem aQ(a:X.N.Nodup)(b:X.N[i]?=Ya x)(c:WY X.env.scope x)(d:X.fn x=true∨X.env.scope.names.lookup x=Ya .local:=by first|exact .inl rfl|exact .inr rfl|assumption):PG X (.Name x pos) (yt i):=by
 intro f s σ H v u Q I r h;exact agK (FI I a b c r (λs' e=>⟨_,H,e,h⟩) d)
def Tv:OM:=λa σ H Q=>a=[]/\Q σ H
def Ht(t:TG)(u:OM):OM:=λa σ H Q=>∃v r,a=v::r/\t v σ H λb c=>u r b c Q
theorem kT:Wy X [] Tv:=by
 intro a s σ H b us Q I r h;obtain⟨e,h⟩:=h;subst e;cases r;exact assignInOrder_nil ⟨σ,H,I,h⟩
theorem cH{t:TG}{u:OM}(h1:PG X e t)(h2:Wy X es u)(hs:(acH (e::es) X.env).map (·.2)=aeP e X.env::(acH es X.env).map (·.2):=by rfl):Wy X (e::es) (Ht t u):=by
 intro a s σ H k us Q I r h;obtain⟨v,l,b,h⟩:=h;subst b;cases r with
 |cons r rr=>
  rw[hs];refine assignInOrder_cons (cL (h1 a s σ H _ _ _ I r h) λ_ c d=>?_);obtain⟨f,g,i,j⟩:=d;exact h2 a c f g _ _ Q i rr j
def QW(K:Yc)(n:Nat)(t:OM):TG:=λv σ H Q=>∃a b,v=.ref a/\bJ K H a b/\b.length=n/\t b σ H Q
theorem S9{t:OM}(g:X.calm=true)(h:Wy X es t)(hn:(acH es X.env).length=n:=by rfl)(c:(acH es X.env).findIdx? (·.1)=none:=by rfl):PG X (.Tuple es k pos) (QW X.K n t):=by
 intro d s σ H v u Q I r hw;obtain⟨a,i,j,l,hl,hw⟩:=hw;subst j;cases r;obtain⟨m,f,p,y⟩:=I.tuple l;refine assign_Tuple_tuple (I.ok.hd g) p (by simp[hn,←hl,f.length]) c λq w=>?_;have x:aO X d σ H {s with heap:=q}:=I.kept (t':=s.toks) λb o e=>w b o (YN (Yz e)) e;exact h d _ σ H i _ Q x (by simpa using f) hw
def Md(a:TE)(g:TG):TS:=λD σ H=>a σ H λx b=>g x σ b D.nx
theorem Se(b:PE X e te)(c:PG X tg g)(hs:swapsWithSole [tg] e pos.line X.env=pure false:=by rfl)(hw:swappedStores [tg] e X.env=pure none:=by rfl)(h1:(acH [tg] X.env).map (·.2)=[aeP tg X.env]:=by rfl):PS X (.Assign [tg] e pos) (Md te g):=by
 intro a s σ H D I h;refine wpAny_Assign_stores (cL (b a s σ H _ I h) λv d f=>?_) hs hw;obtain⟨x,i,j,k,l⟩:=f;rw[h1];exact cL (c a d σ i x v _ j k l) λ_ m q=>q
theorem bc(a:X.N.Nodup)(b:X.N[i]?=Ya x)(c:WY X.env.scope x)(d:PE X e te)(hs:adz e (Ya (.Name x Zq)) pos.line X.env=pure false:=by rfl)(f:X.fn x=true∨X.env.scope.names.lookup x=Ya .local:=by first|exact .inl rfl|exact .inr rfl|assumption):
  PS X (.Assign [.Name x Zq] e pos) (Md te (yt i)):=by
 intro g s σ H D I h;refine wpAny_Assign_Name (cL (d g s σ H _ I h) λv p j=>?_) hs;obtain⟨y,k,l,m,n⟩:=j;exact FI l a b c m (λq o=>⟨_,k,o,n⟩) f
end
section
def GZ(c:TT)(tb:TS):TS:=λD σ H=>∃W:Nat->St->Hp->Prop,(∃m,W m σ H)/\∀m σ H,W m σ H->
 c σ H λb a=>if b=true then∃N:St->Hp->Prop,(∀d e,N d e->∃f,f<m/\W f d e)/\tb {D with nx:=N,ct:=N,bk:=D.nx} σ a else D.nx σ a
theorem ze(hp:PassesOwn (Yv X.prog X.w) X.A X.env X.xe)(w:PT X c tc)(x:CS X Zr tb):PS X (.While c Zr [] pos) (GZ tc tb):=by
 intro j s σ H D I h;obtain⟨W,⟨y,z⟩,turn⟩:=h;refine wpAny_While (codeAny_whileLoop (λn s'=>∃o p,aO X j o p s'/\W n o p) ?_ y ⟨σ,H,I,z⟩);rintro n A ⟨e,q,B,C⟩;refine abP hp (cL (w j A e q _ B (turn n e q C)) λb E F=>?_);obtain⟨r,t,g⟩:=F;cases b with
 |true=>
  obtain⟨N,u,g⟩:=g;rw[if_pos rfl];refine abP hp (cL (x j E e r _ t g) λf G i=>?_);cases f with
  |next=>
   obtain⟨a,d,k,n3⟩:=i;obtain⟨l,hm,m⟩:=u a d n3;exact⟨l,hm,a,d,k,m⟩
  |cont=>
   obtain⟨a,d,k,n3⟩:=i;obtain⟨l,hm,m⟩:=u a d n3;exact⟨l,hm,a,d,k,m⟩
  |brk=>exact i
  |ret v=>exact i
 |false=>
  rw[if_neg YZ];exact acU ⟨e,r,t,g⟩
end
structure It where
 go:Nat->Hp->Prop
 yld:Nat->Hp->V->Hp->Prop
 stop:Nat->Hp->Prop
def t8(X:Cx)(a:List (Ye×pe))(H:Hp)(b:Ye):Prop:=
 H b=Yb/\b≠X.env.locals/\b∉X.fs/\(b∈X.ex∨X.s₀.heap.objs.size<=b)/\(∀x c,X.env.cells.lookup x=Ya c->c≠b)/\∀p∈X.pn++a,p.1≠b
theorem aO.fpOk(I:aO X Za σ H s)(a:s.heap.objs.size<=b)(hn:H' b=Yb):t8 X Za H' b:=by
 refine⟨hn,abJ (Y5 I.lt a),I.nofs a,.inr (ir I.sz a),λx c e z=>?_,λp hp z=>?_⟩
 ·obtain⟨v,q⟩:=I.cell x c e;exact absurd (Y5 q.lt (by rw[z];exact a)) (Y9 _)
 ·exact absurd (Y5 (Yz (I.pin p hp).1) (by rw[z];exact a)) (Y9 _)
structure Turn(P:Y0)(w:Y7)(K:Yc)(tg:cb)(J:It)(fp:List Ye)(it:Ye)(tn:Nat->YV->Prop):Prop where
 mem:it∈fp
 obj:∀i h,tn i h->∀b∈fp,∃o,h.get? b=Ya o/\∀v,o.data≠.cell v
 keep:∀i h h',tn i h->(∀b∈fp,∀o,h.get? b=Ya o->h'.get? b=Ya o)->tn i h'
 item:∀(X:Cx),X.prog=P->X.w=w->X.K=K->X.calm=true->∀(i:Nat) (Za:List (Ye×pe)) (s:Yn) (σ:St) (H:Hp) (E:Yd->Yn->Prop),aO X Za σ H s->(∀b∈fp,t8 X Za H b)->tn i s.heap->J.go i H->
  Ys (Yv P w) X.A (aaA (.ref it)) (λr s1=>∃u,r=Ya u/\
   Ys (Yv P w) X.A (adI tg (.ref it) u) (λ_ s2=>∃x H',aO X Za σ H' s2/\RelV x u/\J.yld i H x H'/\tn (i+ 1) s2.heap/\∀b∈fp,H' b=Yb) E s1) E s
 done:∀(X:Cx),X.prog=P->X.w=w->X.K=K->X.calm=true->∀(i:Nat) (Za:List (Ye×pe)) (s:Yn) (σ:St) (H:Hp) (E:Yd->Yn->Prop),aO X Za σ H s->(∀b∈fp,t8 X Za H b)->tn i s.heap->J.stop i H->
  Ys (Yv P w) X.A (aaA (.ref it)) (λr s1=>r=Yb/\aO X Za σ H s1) E s
 self:∀(A:uc) (i:Nat) (s:Yn) (Q:Yd->Yn->Prop) (E:Yd->Yn->Prop),tn i s.heap->Q (.ref it) s->Ys (Yv P w) A (adm (.ref it)) Q E s
abbrev TI:=St->Hp->(It->Hp->Prop)->Prop
def X8(X:Cx)(d:List (Ye×pe))(σ:St)(h:cb)(R:It->Hp->Prop)(a:Yd)(e:Yn):Prop:=
 ∃(f:Ye) (g:List Ye) (tn:Nat->YV->Prop) (J:It) (c:Hp),a=.ref f/\aO X d σ c e/\Turn X.prog X.w X.K h J g f tn/\tn 0 e.heap/\(∀b∈g,t8 X d c b)/\R J c
def PI(X:Cx)(b iter:cb)(c:TI):Prop:=
 ∀(a:List (Ye×pe)) (s:Yn) (σ:St) (H:Hp) (R:It->Hp->Prop),aO X a σ H s->c σ H R->
  Ys (Yv X.prog X.w) X.A (lr iter X.env) (λv d=>Ys (Yv X.prog X.w) X.A (adm v) (X8 X a σ b R) X.xe d) X.xe s
theorem EJ{o:pe}{n:String}{vs:Array Yd}{Q:Unit->Yn->Prop}(ho:s.heap.get? it=Ya o)(b:o.cls=.type n)(hd:o.data=.fields vs)(hn:["enumerate","zip","dict_itemiterator","dict_reverseitemiterator","odict_iterator","itertools.zip_longest","itertools.pairwise"].contains n=false)(a:Q () s):Ys M A (adI tg (.ref it) u) Q E s:=by
 unfold adI;cases tg<;>first
  |exact Yt a
  |(cases u<;>first
    |exact Yt a
    |(refine Yg (wpAny_load ho ?_)
      rw[b,hd];show Ys M A (if(["enumerate","zip","dict_itemiterator","dict_reverseitemiterator","odict_iterator","itertools.zip_longest","itertools.pairwise"].contains n&&vs[0]?==Ya (aaY _))=true then _ else _) Q E s;rw[if_neg (by intro h;rw[hn,abV]at h;cases h)];exact Yt a))
noncomputable def LC(K:Yc)(a:Ye):It:=
 ⟨λi H=>∃b x,a9 K H a b/\b[i]?=Ya x,λi H x c=>c=H/\∀b,a9 K H a b->b[i]?=Ya x,λi H=>∃b,a9 K H a b/\b.length<=i⟩
noncomputable def MK(K:Yc)(a:Ye):It:=
 ⟨λi H=>∃b x,bJ K H a b/\b[i]?=Ya x,λi H x c=>c=H/\∀b,bJ K H a b->b[i]?=Ya x,λi H=>∃b,bJ K H a b/\b.length<=i⟩
noncomputable def KU(lo:Int)(n:Nat):It:=⟨λi _=>i<n,λi H x a=>a=H/\x=.int (lo+ i),λi _=>n<=i⟩
theorem AD{K:Yc}(a it:Ye):Turn P w K tg (LC K a) [it] it (λi h=>h.IsListIter it a i) where
 mem:=by simp
 obj:=λi h st b f=>by
  have e:b=it:=by simpa using f
  subst e;obtain⟨o,e,c,d⟩:=st;exact⟨o,e,λv z=>by rw[d]at z;cases z⟩
 keep:=λi h j st k=>st.at λo e=>k it (by simp) o e
 item:=by
  intro X n hw q J i L s σ H E I l st r;subst n hw q;obtain⟨M,x,m,t⟩:=r;obtain⟨y,A,p,N⟩:=I.list m;obtain⟨u,hu,O⟩:=A.get t;obtain⟨B,C,Q,D,F,G⟩:=l it (by simp);refine wpAny_pyNext_list_item st p.isList (x:=u) (by simpa using hu) λj g R=>?_;have S:aO X L σ H {s with heap:=j}:=I.turned (t':=s.toks) (λb o f e=>(R.2 b f).trans e) B C D F G;obtain⟨o,e,c,d⟩:=id g;exact⟨u,rfl,EJ (s:={s with heap:=j}) e c d (by decide) ⟨x,H,S,O,⟨rfl,λV T=>by rw[I.list_inj T m];exact t⟩,g,λb f=>(l b f).1⟩⟩
 done:=by
  intro X n hw q J i L s σ H E I l st r;subst n hw q;obtain⟨M,m,t⟩:=r;obtain⟨y,A,p,N⟩:=I.list m;obtain⟨B,C,Q,D,F,G⟩:=l it (by simp);have hl:=A.length;exact wpAny_pyNext_list_end (I.ok.hd J) st p.isList (by simp;omega) λj U=>⟨rfl,I.turned (t':=s.toks) (λb o f e=>U b o f e) B C D F G⟩
 self:=λ_ _ _ _ _ st h=>wpAny_pyIter_listiter st h
theorem zQ{K:Yc}(a it:Ye):Turn P w K tg (MK K a) [it] it (λi h=>h.IsTupleIter it a i) where
 mem:=by simp
 obj:=λi h st b f=>by
  have e:b=it:=by simpa using f
  subst e;obtain⟨o,e,c,d⟩:=st;exact⟨o,e,λv z=>by rw[d]at z;cases z⟩
 keep:=λi h l st k=>st.at λo e=>k it (by simp) o e
 item:=by
  intro X q hw r J i L s σ H E I m st t;subst q hw r;obtain⟨M,x,n,y⟩:=t;obtain⟨g,A,p,N⟩:=I.tuple n;obtain⟨u,hu,O⟩:=A.get y;obtain⟨B,C,Q,D,F,G⟩:=m it (by simp);refine wpAny_pyNext_tuple_item st (show s.heap.IsTuple a g.toArray from p) (x:=u) (by simpa using hu) λl j R=>?_;have S:aO X L σ H {s with heap:=l}:=I.turned (t':=s.toks) (λb o f e=>(R.2 b f).trans e) B C D F G;obtain⟨o,e,c,d⟩:=id j;exact⟨u,rfl,EJ (s:={s with heap:=l}) e c d (by decide) ⟨x,H,S,O,⟨rfl,λV T=>by rw[I.tuple_inj T n];exact y⟩,j,λb f=>(m b f).1⟩⟩
 done:=by
  intro X q hw r J i L s σ H E I m st t;subst q hw r;obtain⟨M,n,y⟩:=t;obtain⟨g,A,p,N⟩:=I.tuple n;obtain⟨B,C,Q,D,F,G⟩:=m it (by simp);have hl:=A.length;exact wpAny_pyNext_tuple_end (I.ok.hd J) st (show s.heap.IsTuple a g.toArray from p) (by simp;omega) λl U=>⟨rfl,I.turned (t':=s.toks) (λb o f e=>U b o f e) B C D F G⟩
 self:=λ_ _ _ _ _ st h=>wpAny_pyIter_tupleiter st h
theorem G2{K:Yc}(it:Ye)(lo:Int)(n:Nat):Turn P w K tg (KU lo n) [it] it (λi h=>IsRangeIter h it (lo+ (i:Nat)*1) ((n:Int)-(i:Nat)) 1) where
 mem:=by simp
 obj:=λi h st b a=>by
  have e:b=it:=by simpa using a
  subst e;exact⟨_,st,λv z=>by
   have A:Data.fields _=Data.cell v:=z;cases A⟩
 keep:=λi h d st k=>k it (by simp) _ st
 item:=by
  intro X g hw j l i y s σ H E I f st m;subst g hw j;obtain⟨p,q,B,r,u,x⟩:=f it (by simp);have W:=Walks.range (prog:=X.prog) (w:=X.w) (I.ok.hd l) it lo 1 n;refine W.item i s _ _ m st λv d tk C c D=>?_;obtain⟨t,rfl⟩:=C;have F:aO X y σ H {s with heap:=d,toks:=tk}:=I.turned (λb o a e=>D b o (by simpa using a) e) p q r u x;refine⟨_,rfl,EJ (s:={s with heap:=d,toks:=tk}) (n:="range_iterator") c rfl rfl (by decide) ⟨.int (lo+ i),H,F,⟨t,?_⟩,⟨rfl,rfl⟩,c,λb a=>(f b a).1⟩⟩;rw[Int.mul_one]
 done:=by
  intro X g hw j l i y s σ H E I f st m;subst g hw j;obtain⟨p,q,B,r,u,x⟩:=f it (by simp);exact wpAny_pyNext_range_end (I.ok.hd l) st (by have:n<=i:=m;omega) λd G=>⟨rfl,I.turned (t':=s.toks) (λb o a e=>G b o a e) p q r u x⟩
 self:=λ_ _ _ _ _ st h=>wpAny_pyIter_rangeiter st h
section
def KZ(K:Yc)(tl:TE):TI:=λσ H R=>tl σ H λx b=>∃a,x=.ref a/\(∃c,a9 K b a c)/\R (LC K a) b
def UG(K:Yc)(tl:TE):TI:=λσ H R=>tl σ H λx b=>∃a,x=.ref a/\(∃c,bJ K b a c)/\R (MK K a) b
theorem Pm(hl:PE X l tl):PI X tg l (KZ X.K tl):=by
 intro f s σ H R I h;refine cL (hl f s σ H _ I h) λv c g=>?_;obtain⟨x,i,d,j,k⟩:=g;obtain⟨a,e,⟨t,m⟩,q⟩:=k;subst e;cases j;obtain⟨n,u,p,w⟩:=d.list m;refine aa2 p.isList ?_;refine⟨c.heap.objs.size,[c.heap.objs.size],_,_,i,rfl,d.kept (t':=c.toks) λb o e=>Yj _ e,AD a _,⟨_,Yx _ rfl,rfl,rfl⟩,λb r=>?_,q⟩;have e:b=c.heap.objs.size:=by simpa using r
 subst e;exact d.fpOk (Yl _) (d.hok.fresh (Yl _))
theorem TR(hl:PE X l tl):PI X tg l (UG X.K tl):=by
 intro g s σ H R I h;refine cL (hl g s σ H _ I h) λv c i=>?_;obtain⟨x,j,d,k,m⟩:=i;obtain⟨a,e,⟨t,n⟩,q⟩:=m;subst e;cases k;obtain⟨f,u,p,w⟩:=d.tuple n;refine agr (show c.heap.IsTuple a f.toArray from p) ?_;refine⟨c.heap.objs.size,[c.heap.objs.size],_,_,j,rfl,d.kept (t':=c.toks) λb o e=>Yj _ e,zQ a _,⟨_,Yx _ rfl,rfl,rfl⟩,λb r=>?_,q⟩;have e:b=c.heap.objs.size:=by simpa using r
 subst e;exact d.fpOk (Yl _) (d.hok.fresh (Yl _))
theorem EC{R:It->Hp->Prop}{lo a:Int}{t u v:acT}{tk:Nat}(I:aO X Za σ H s)(h1:-(2^62)<=lo)(h2:lo<2^62)(h3:-(2^62)<=a)(h4:a<2^62)(q:R (KU lo (a-lo).toNat) H):Ys (Yv X.prog X.w) X.A (adm (.ref s.heap.objs.size)) (X8 X Za σ tg R) E {s with heap:=s.heap.push {cls:=.type "range",data:=.fields #[.int lo t,.int a u,.int 1 v]},toks:=tk}:=by
 refine wpAny_pyIter_range (IsRange.new ..) (small_one h1 h2 h3 h4) ?_;have c:aO X Za σ H {s with heap:=s.heap.push {cls:=.type "range",data:=.fields #[.int lo t,.int a u,.int 1 v]},toks:=tk}:=I.kept λb o e=>Yj _ e;refine⟨(s.heap.push {cls:=.type "range",data:=.fields #[.int lo t,.int a u,.int 1 v]}).objs.size,[(s.heap.push {cls:=.type "range",data:=.fields #[.int lo t,.int a u,.int 1 v]}).objs.size],_,_,H,rfl,
  c.kept (t':=tk) λb o e=>Yj _ e,G2 _ lo (a-lo).toNat,?_,λb d=>?_,q⟩
 ·have f:lo+ ((0:Nat):Int)*1=lo:=by simp
  have g:(((a-lo).toNat:Nat):Int)-((0:Nat):Int)=Builtin.Range.rangeSize lo a 1:=by rw[rangeSize_one];split<;>omega
  show IsRangeIter _ _ (lo+ ((0:Nat):Int)*1) ((((a-lo).toNat:Nat):Int)-((0:Nat):Int)) 1;rw[f,g];exact Yx _ rfl
 ·have e:b=(s.heap.push {cls:=.type "range",data:=.fields #[.int lo t,.int a u,.int 1 v]}).objs.size:=by simpa using d
  subst e;exact c.fpOk (Yl _) (c.hok.fresh (Yl _))
def RQ(ta:TA):TI:=λσ H R=>ta σ H λa b=>∃j:Int,a=[.int j]/\-(2^62)<=j/\j<2^62/\R (KU 0 j.toNat) b
def RY(ta:TA):TI:=λσ H R=>ta σ H λa b=>∃i j:Int,a=[.int i,.int j]/\(-(2^62)<=i/\i<2^62/\-(2^62)<=j/\j<2^62)/\R (KU i (j-i).toNat) b
theorem qX{a:cb}{ta:TA}(c:Gl X "range")(hm:X.mg "range"=Yb)(ha:PA X [a] ta)(hs:YW [a] X.env=[(false,lr a X.env)]:=by rfl):PI X tg (.Call (.Name "range" p) [a] [] pos) (RQ ta):=by
 intro d s σ H R I h;refine Call_ (qe I c hm boot_range (acD (cL (ha pos d s σ H _ I h) λus l f=>?_) hs rfl));obtain⟨m,n,g,i,b⟩:=f;obtain⟨j,e,b,k,q⟩:=b;subst e;cases i with
 |cons r rr=>
  cases rr;obtain⟨t,rfl⟩:=r;exact call_range_1 (EC g (by omega) (by omega) b k (by simpa using q))
theorem J2{a b:cb}{ta:TA}(f:Gl X "range")(hm:X.mg "range"=Yb)(ha:PA X [a,b] ta)(hs:YW [a,b] X.env=[(false,lr a X.env),(false,lr b X.env)]:=by rfl)(c:YW [b] X.env=[(false,lr b X.env)]:=by rfl):
  PI X tg (.Call (.Name "range" p) [a,b] [] pos) (RY ta):=by
 intro g s σ H R I h;refine Call_ (qe I f hm boot_range (acD (cL (ha pos g s σ H _ I h) λus u ⟨v,w,k,l,d⟩=>?_) (by rw[hs,c]) (by rw[c];rfl)));obtain⟨i,j,e,⟨d,m,n,o⟩,q⟩:=d;subst e;cases l with
 |cons r rr=>
  cases rr with
  |cons r' rr=>
   cases rr;obtain⟨t,rfl⟩:=r;obtain⟨x,rfl⟩:=r';exact call_range_2 (EC k d m n o q)
def Py(d:TI)(g:TG)(tb:TS):TS:=λD σ H=>d σ H λJ e=>∃W:Nat->Nat->St->Hp->Prop,(∃m,W 0 m σ e)/\∀i m σ H,W i m σ H->
 (J.stop i H/\D.nx σ H)∨(J.go i H/\∃N:St->Hp->Prop,(∀b a,N b a->∃c,c<m/\W (i+ 1) c b a)/\∀x a,J.yld i H x a->g x σ a λf h=>tb {D with nx:=N,ct:=N,bk:=D.nx} f h)
noncomputable def vZ(fp:List Ye)(h:YV):List (Ye×pe):=fp.filterMap λb=>(h.get? b).map λo=>(b,o)
theorem hX{o:pe}(a:b∈fp)(e:h.get? b=Ya o):(b,o)∈vZ fp h:=ac0.mpr ⟨b,a,by rw[e];rfl⟩
theorem Jl{p:Ye×pe}(hp:p∈vZ fp h):p.1∈fp/\h.get? p.1=Ya p.2:=by
 obtain⟨b,a,e⟩:=ac0.mp hp;cases q:h.get? b with
 |none=>rw[q]at e;cases e
 |some o=>
  rw[q]at e;have c:(b,o)=p:=YF e;subst c;exact⟨a,q⟩
theorem aO.pinned(I:aO X Za σ H s)(f:∀b∈fp,t8 X Za H b)(ho:∀b∈fp,∃o,s.heap.get? b=Ya o/\∀v,o.data≠.cell v):aO X (Za++vZ fp s.heap) σ H s:=
 I.pins_of λp hp=>(YD.mp hp).elim (λz=>I.pin p (YK _ z)) λz=>by
  obtain⟨a,e⟩:=Jl z;obtain⟨g,h,i,_⟩:=f p.1 a;obtain⟨o,c,d⟩:=ho p.1 a;rw[e]at c;cases c;exact⟨e,g,h,i,d⟩
theorem aO.unpinned{pl:List (Ye×pe)}(I:aO X (Za++pl) σ H s):aO X Za σ H s:=I.pins_of λp hp=>I.pin p (YK _ (YY _ hp))
theorem lU{iter:cb}{P:TI}(hp:PassesOwn (Yv X.prog X.w) X.A X.env X.xe)(Q:X.calm=true)(Z:PI X tg iter P)(hg:PG X tg g)(a:CS X Zr tb)(hs:∀x,aez iter X.env x=pure x:=by intro _;rfl):PS X (.For tg iter Zr [] pos) (Py P g tb):=by
 intro t s σ H D I h;refine wpAny_For (cL (Z t s σ H _ I h) λv s1 h1=>cL h1 λab s2 h2=>?_) hs;obtain⟨it,z,tn,J,H2,e,I2,T,G,R,W,⟨m0,w0⟩,turn⟩:=h2;subst e
 -- what stays true of the iterator's objects through the loop
 have c:∀{p:Hp},(∀b∈z,p b=Yb)->∀b∈z,t8 X t p b:=λhn b a=>⟨hn b a,(R b a).2⟩;refine codeAny_forLoop_any (λn s'=>∃i A p,aO X t A p s'/\tn i s'.heap/\(∀b∈z,p b=Yb)/\W i n A p) ?_ m0 ⟨0,σ,H2,I2,G,λb a=>(R b a).1,w0⟩;rintro n S ⟨i,B,F,U,C,E,w3⟩;rcases turn i n B F w3 with⟨stop,qn⟩|⟨go,N,hN,step⟩
 ·refine abP hp (cL (T.done X rfl rfl rfl Q i t S B F X.xe U (c E) C stop) λr s4 w=>?_);obtain⟨K,I4⟩:=w;subst K;exact acU ⟨B,F,I4,qn⟩
 ·refine abP hp (cL (T.item X rfl rfl rfl Q i t S B F X.xe U (c E) C go) λr s4 w=>?_);obtain⟨u,K,h4⟩:=w;subst K;refine abP hp (cL h4 λ_ V w=>?_);obtain⟨x,Y,I5,r5,y5,y,L⟩:=w;have M:=I5.pinned (c L) (T.obj _ _ y);refine abP hp (cL (hg _ V B Y x u _ M r5 (step x Y y5)) λ_ s6 w=>?_);obtain⟨σ6,H6,I6,q6⟩:=w;refine abP hp (cL (a _ s6 σ6 H6 _ I6 q6) λf O q=>?_);have again:∀{j:St} {k:Hp},aO X (t++vZ z V.heap) j k O->N j k->∃m,m<n/\∃i A p,aO X t A p O/\tn i O.heap/\(∀b∈z,p b=Yb)/\W i m A p:=fun{j k} l n7=>by
   obtain⟨m',hm,w7⟩:=hN j k n7;refine⟨m',hm,i+ 1,j,k,l.unpinned,T.keep _ _ _ y λb a o e=>(l.pin (b,o) (YK _ (YK _ (hX a e)))).1,λb a=>?_,w7⟩;obtain⟨o,e,d⟩:=T.obj _ _ y b a;exact(l.pin (b,o) (YK _ (YK _ (hX a e)))).2.1
  cases f with
  |next=>obtain⟨j,k,l,n7⟩:=q;exact again l n7
  |cont=>obtain⟨j,k,l,n7⟩:=q;exact again l n7
  |brk=>obtain⟨j,k,l,q⟩:=q;exact⟨j,k,l.unpinned,q⟩
  |ret v=>obtain⟨x7,j,k,l,r7,q⟩:=q;exact⟨x7,j,k,l.unpinned,r7,q⟩
end
theorem mG{K:Yc}{xs:List V}(b:Nat->St->Hp->Prop)(h0:b 0 σ H)(hl:∀i σ H,i<=xs.length->b i σ H->a9 K H a xs)(hs:∀i x σ H,xs[i]?=Ya x->b i σ H->g x σ H λd f=>tb {D with nx:=b (i+ 1),ct:=b (i+ 1),bk:=D.nx} d f)(hd:∀σ H,b xs.length σ H->D.nx σ H):
  ∃W:Nat->Nat->St->Hp->Prop,(∃m,W 0 m σ H)/\∀i m σ H,W i m σ H->
   ((LC K a).stop i H/\D.nx σ H)∨((LC K a).go i H/\∃N:St->Hp->Prop,(∀h H',N h H'->∃j,j<m/\W (i+ 1) j h H')/\∀x H',(LC K a).yld i H x H'->g x σ H' λd f=>tb {D with nx:=N,ct:=N,bk:=D.nx} d f):=by
 refine⟨λi m σ H=>m=xs.length-i/\i<=xs.length/\b i σ H,⟨xs.length,by simp,cT _,h0⟩,?_⟩;rintro i m σ H ⟨rfl,k,p⟩;have q:=hl i σ H k p;by_cases c:i<xs.length
 ·refine .inr ⟨⟨xs,xs[i],q,by simp[c]⟩,b (i+ 1),λh H' l=>⟨xs.length-(i+ 1),by omega,rfl,c,l⟩,λx H' y=>?_⟩;obtain⟨e,y⟩:=y;subst e;exact hs i x σ _ (y xs q) p
 ·have e:i=xs.length:=by omega
  subst e;exact .inl ⟨⟨xs,q,Yl _⟩,hd σ H p⟩
theorem CB{K:Yc}{xs:List V}(b:Nat->St->Hp->Prop)(h0:b 0 σ H)(hl:∀i σ H,i<=xs.length->b i σ H->bJ K H a xs)(hs:∀i x σ H,xs[i]?=Ya x->b i σ H->g x σ H λd f=>tb {D with nx:=b (i+ 1),ct:=b (i+ 1),bk:=D.nx} d f)(hd:∀σ H,b xs.length σ H->D.nx σ H):
  ∃W:Nat->Nat->St->Hp->Prop,(∃m,W 0 m σ H)/\∀i m σ H,W i m σ H->
   ((MK K a).stop i H/\D.nx σ H)∨((MK K a).go i H/\∃N:St->Hp->Prop,(∀h H',N h H'->∃j,j<m/\W (i+ 1) j h H')/\∀x H',(MK K a).yld i H x H'->g x σ H' λd f=>tb {D with nx:=N,ct:=N,bk:=D.nx} d f):=by
 refine⟨λi m σ H=>m=xs.length-i/\i<=xs.length/\b i σ H,⟨xs.length,by simp,cT _,h0⟩,?_⟩;rintro i m σ H ⟨rfl,k,p⟩;have q:=hl i σ H k p;by_cases c:i<xs.length
 ·refine .inr ⟨⟨xs,xs[i],q,by simp[c]⟩,b (i+ 1),λh H' l=>⟨xs.length-(i+ 1),by omega,rfl,c,l⟩,λx H' y=>?_⟩;obtain⟨e,y⟩:=y;subst e;exact hs i x σ _ (y xs q) p
 ·have e:i=xs.length:=by omega
  subst e;exact .inl ⟨⟨xs,q,Yl _⟩,hd σ H p⟩
theorem AR{lo:Int}(a:Nat->St->Hp->Prop)(h0:a 0 σ H)(hs:∀i σ H,i<n->a i σ H->g (.int (lo+ i)) σ H λc d=>tb {D with nx:=a (i+ 1),ct:=a (i+ 1),bk:=D.nx} c d)(hd:∀σ H,a n σ H->D.nx σ H):
  ∃W:Nat->Nat->St->Hp->Prop,(∃m,W 0 m σ H)/\∀i m σ H,W i m σ H->
   ((KU lo n).stop i H/\D.nx σ H)∨((KU lo n).go i H/\∃N:St->Hp->Prop,(∀f H',N f H'->∃h,h<m/\W (i+ 1) h f H')/\∀x H',(KU lo n).yld i H x H'->g x σ H' λc d=>tb {D with nx:=N,ct:=N,bk:=D.nx} c d):=by
 refine⟨λi m σ H=>m=n-i/\i<=n/\a i σ H,⟨n,by simp,cT _,h0⟩,?_⟩;rintro i m σ H ⟨rfl,k,p⟩;by_cases b:i<n
 ·refine .inr ⟨b,a (i+ 1),λf H' j=>⟨n-(i+ 1),by omega,rfl,b,j⟩,λx H' y=>?_⟩;obtain⟨e,y⟩:=y;subst e y;exact hs i σ _ b p
 ·have e:i=n:=by omega
  subst e;exact .inl ⟨Yl _,hd σ H p⟩
abbrev R2:=V->V->Hp->VK->Prop
variable{r:R2}
def tH(X:Cx)(f:Yd->Yd->aex Yd)(r:R2):Prop:=
 ∀(a:List (Ye×pe)) (s:Yn) (σ:St) (H:Hp) (x y:V) (v u:Yd) (Q:VK),aO X a σ H s->RelV x v->RelV y u->r x y H Q->
  Ys (Yv X.prog X.w) X.A (f v u) (EP X a σ Q) X.xe s
def dO(X:Cx)(f:Yd)(r:List V->Hp->VK->Prop):Prop:=
 ∀(a:List (Ye×pe)) (s:Yn) (σ:St) (H:Hp) (b:List V) (us:List Yd) (Q:VK),aO X a σ H s->Vals b us->r b H Q->
  Ys (Yv X.prog X.w) X.A (call f us) (EP X a σ Q) X.xe s
def XI(X:Cx)(r:V->Hp->(Bool->Hp->Prop)->Prop):Prop:=
 ∀(a:List (Ye×pe)) (s:Yn) (σ:St) (H:Hp) (x:V) (v:Yd) (Q:Bool->Hp->Prop),aO X a σ H s->RelV x v->r x H Q->
  Ys (Yv X.prog X.w) X.A (truthy v) (TP X a σ Q) X.xe s
def Vc(r:R2)(ta tb:TE):TE:=λσ H Q=>ta σ H λx a=>tb σ a λy b=>r x y b Q
def rI(C:Int->Int->Prop)(g:Int->Int->V):R2:=λx y H Q=>∃i j,x=.int i/\y=.int j/\C i j/\Q (g i j) H
def Nx(g:Int->Int->V):R2:=λx y H Q=>∃i j,x=.int i/\y=.int j/\Q (g i j) H
section
variable{a b:cb}{tb tc:TE}
theorem Tu(ha:PE X a ta)(i:PE X b tb)(I:aO X Za σ H s)(h:ta σ H λx e=>tb σ e λy c=>R x y c)(j:∀v u d x y c,aO X Za σ c d->RelV x v->RelV y u->R x y c->Ys (Yv X.prog X.w) X.A (f v u) Q X.xe d):
  Ys (Yv X.prog X.w) X.A (lr a X.env) (λv k=>Ys (Yv X.prog X.w) X.A (lr b X.env) (λu l=>Ys (Yv X.prog X.w) X.A (f v u) Q X.xe l) X.xe k) X.xe s:=by
 refine cL (ha Za s σ H _ I h) λv m g=>?_;obtain⟨x,e,n,o,p⟩:=g;refine cL (i Za m σ e _ n p) λu d g=>?_;obtain⟨y,c,q,r,t⟩:=g;exact j v u d x y c q o r t
theorem a8{op:Operator}(ho:tH X (acI op) r)(ha:PE X a ta)(c:PE X b tb):PE X (.BinOp a op b pos) (Vc r ta tb):=by
 intro d s σ H Q I h;exact wpAny_BinOp (Tu ha c I h λv u e x y f g i j q=>ho d e σ f x y v u Q g i j q)
theorem W3{C:Int->Int->Prop}{g:Int->Int->Int}(rule:∀(i j:Int) (t u:acT) (s:Yn) (Q:Yd->Yn->Prop) (E:Yd->Yn->Prop),C i j->Q (.int (g i j) s.toks) {s with toks:=s.toks+ 1}->Ys (Yv X.prog X.w) X.A (f (.int i t) (.int j u)) Q E s):
  tH X f (rI C λi j=>.int (g i j)):=by
 intro e s σ H x y v u Q I a b h;obtain⟨i,j,rfl,rfl,c,q⟩:=h;obtain⟨t,rfl⟩:=a;obtain⟨d,rfl⟩:=b;exact rule i j t d s _ _ c ⟨.int (g i j),H,I.tok _,⟨_,rfl⟩,q⟩
theorem Us{g:Int->Int->Int}(rule:∀(i j:Int) (t u:acT) (s:Yn) (Q:Yd->Yn->Prop) (E:Yd->Yn->Prop),Q (.int (g i j) s.toks) {s with toks:=s.toks+ 1}->Ys (Yv X.prog X.w) X.A (f (.int i t) (.int j u)) Q E s):
  tH X f (Nx λi j=>.int (g i j)):=by
 intro d s σ H x y v u Q I a b h;obtain⟨i,j,rfl,rfl,q⟩:=h;obtain⟨t,rfl⟩:=a;obtain⟨c,rfl⟩:=b;exact rule i j t c s _ _ ⟨.int (g i j),H,I.tok _,⟨_,rfl⟩,q⟩
theorem PZ{g:Int->Int->Bool}(rule:∀(i j:Int) (t u:acT) (s:Yn) (Q:Yd->Yn->Prop) (E:Yd->Yn->Prop),Q (.bool (g i j)) s->Ys (Yv X.prog X.w) X.A (f (.int i t) (.int j u)) Q E s):
  tH X f (Nx λi j=>.bl (g i j)):=by
 intro d s σ H x y v u Q I a b h;obtain⟨i,j,rfl,rfl,q⟩:=h;obtain⟨t,rfl⟩:=a;obtain⟨c,rfl⟩:=b;exact rule i j t c s _ _ ⟨.bl (g i j),H,I,rfl,q⟩
def XJ(i j:Int):Prop:=0<j/\j<1073741824
def Nt(i j:Int):Prop:=0<=j/\j<=1000000/\i.natAbs<2^64
def CC(i j:Int):Prop:=(-(2^64)<i/\i<2^64)∨(-(2^64)<j/\j<2^64)
theorem CC.ok{i j:Int}(h:CC i j):IntMulOk i j:=by
 rcases h with⟨h1,h2⟩|⟨h1,h2⟩
 ·exact .of_left (aif h1 h2)
 ·exact .of_right (aif h1 h2)
theorem Ge(k:Nat):(0:Int)<=2^k:=by
 rw[two_pow_cast];exact ac1 _
theorem eQ:tH X (acI .Add) (Nx λi j=>.int (i+ j)):=Us λ_ _ _ _ _ _ _ q=>add_int q
theorem zN:tH X (acI .Sub) (Nx λi j=>.int (i-j)):=Us λ_ _ _ _ _ _ _ q=>sub_int q
theorem vX:tH X (acI .Mult) (rI CC λi j=>.int (i*j)):=W3 λ_ _ _ _ _ _ _ a q=>mul_int q a.ok
theorem hG:tH X (acI .FloorDiv) (rI XJ λi j=>.int (i / j)):=W3 λi j _ _ _ _ _ a q=>by
 have h1:(0:Int)<j:=a.1;have h2:j<1073741824:=a.2;exact floordiv_int (by omega) (by rw[Int.fdiv_eq_ediv_of_nonneg i (by omega)];exact q) (.inl (PyProof.noPylong_small (by omega)))
theorem df:tH X (acI .Mod) (rI (λ_ j=>0<j) λi j=>.int (i%j)):=W3 λi j _ _ _ _ _ a q=>by
 have h1:(0:Int)<j:=a;exact mod_int' (by omega) (by rw[Int.fmod_eq_emod_of_nonneg i (by omega)];exact q)
theorem Ct:tH X (acI .Pow) (rI Nt λi j=>.int (i^j.toNat)):=W3 λ_ _ _ _ _ _ _ a q=>pow_int_small a.1 a.2.1 a.2.2 q
theorem Ox:tH X (acI .LShift) (rI Nt λi j=>.int (i*2^j.toNat)):=W3 λ_ _ _ _ _ _ _ a q=>lshift_int_small a.1 a.2.1 a.2.2 q
theorem UB:tH X (acI .BitAnd) (Nx λi j=>.int (Builtin.bitAnd i j)):=Us λ_ _ _ _ _ _ _ q=>and_int q
end
noncomputable def Wt:V->V->Bool
 | .non,.non=>true| .non,.int _=>true| .int _,.non=>true| .non,.bl _=>true| .bl _,.non=>true| .non,.str _=>true| .str _,.non=>true
 | .int _,.int _=>true| .bl _,.bl _=>true| .str _,.str _=>true| .byt _,.byt _=>true
 | .int _,.str _=>true| .str _,.int _=>true| .bl _,.str _=>true| .str _,.bl _=>true
 |_,_=>false
def XA:R2:=λx y H Q=>Wt x y=true/\Q (.bl (decide (x=y))) H
def XM:R2:=λx y H Q=>Wt x y=true/\Q (.bl (!decide (x=y))) H
theorem Ho{i j:Int}:decide (V.int i=V.int j)=(i==j):=by
 rw[abQ];simp
theorem MR{i j:Bool}:decide (V.bl i=V.bl j)=(i==j):=by
 rw[abQ];simp
theorem Hv{i j:Yp}:decide (V.str i=V.str j)=(i==j):=by
 rw[abQ];simp
theorem HM{i j:Array UInt8}:decide (V.byt i=V.byt j)=(i.toList==j.toList):=by
 rw[abQ];cases i;cases j;simp
section
variable{a b:cb}{tb tc:TE}
theorem bW{Q:VK}{k a:Bool}(I:aO X Za σ H s)(q:Q (.bl k) H)(e:k=a):EP X Za σ Q (.bool a) s:=by
 subst e;exact⟨.bl k,H,I,rfl,q⟩
theorem oP:tH X (aai .Eq) XA:=by
 intro d s σ H x y v u Q I c a h;obtain⟨hs,q⟩:=h;cases x with
 |non=>
  cases c;cases y with
  |non=>cases a;exact PySem.EqNone.eq_none_none (bW I q (by simp))
  |bl j=>cases a;exact PySem.EqNone.eq_none_bool (bW I q (by simp))
  |int j=>obtain⟨b,rfl⟩:=a;exact PySem.EqNone.eq_none_int (bW I q (by simp))
  |str j=>obtain⟨b,rfl⟩:=a;exact PySem.EqNone.eq_none_str (bW I q (by simp))
  |_=>exact absurd (show false=true from hs) YZ
 |bl i=>
  cases c;cases y with
  |non=>cases a;exact PySem.EqNone.eq_bool_none (bW I q (by simp))
  |bl j=>cases a;exact eq_bool (bW I q MR)
  |str j=>obtain⟨b,rfl⟩:=a;exact PySem.EqMixed.eq_bool_str (bW I q (by simp))
  |_=>exact absurd (show false=true from hs) YZ
 |int i=>
  obtain⟨t,rfl⟩:=c;cases y with
  |non=>cases a;exact PySem.EqNone.eq_int_none (bW I q (by simp))
  |int j=>obtain⟨b,rfl⟩:=a;exact eq_int (bW I q Ho)
  |str j=>obtain⟨b,rfl⟩:=a;exact PySem.EqMixed.eq_int_str (bW I q (by simp))
  |_=>exact absurd (show false=true from hs) YZ
 |str i=>
  obtain⟨t,rfl⟩:=c;cases y with
  |non=>cases a;exact PySem.EqNone.eq_str_none (bW I q (by simp))
  |bl j=>cases a;exact PySem.EqMixed.eq_str_bool (bW I q (by simp))
  |int j=>obtain⟨b,rfl⟩:=a;exact PySem.EqMixed.eq_str_int (bW I q (by simp))
  |str j=>obtain⟨b,rfl⟩:=a;exact eq_str (bW I q Hv)
  |_=>exact absurd (show false=true from hs) YZ
 |byt i=>
  obtain⟨t,rfl⟩:=c;cases y with
  |byt j=>obtain⟨b,rfl⟩:=a;exact PySem.W.eq_bytes (bW I q HM)
  |_=>exact absurd (show false=true from hs) YZ
 |_=>cases y<;>exact absurd (show false=true from hs) YZ
theorem EW:tH X (aai .NotEq) XM:=by
 intro d s σ H x y v u Q I c a h;obtain⟨hs,q⟩:=h;cases x with
 |non=>
  cases c;cases y with
  |non=>cases a;exact PySem.EqNone.ne_none_none (bW I q (by simp))
  |bl j=>cases a;exact PySem.EqNone.ne_none_bool (bW I q (by simp))
  |int j=>obtain⟨b,rfl⟩:=a;exact PySem.EqNone.ne_none_int (bW I q (by simp))
  |str j=>obtain⟨b,rfl⟩:=a;exact PySem.EqNone.ne_none_str (bW I q (by simp))
  |_=>exact absurd (show false=true from hs) YZ
 |bl i=>
  cases c;cases y with
  |non=>cases a;exact PySem.EqNone.ne_bool_none (bW I q (by simp))
  |bl j=>cases a;exact ne_bool (bW I q (congrArg not MR))
  |str j=>obtain⟨b,rfl⟩:=a;exact PySem.EqMixed.ne_bool_str (bW I q (by simp))
  |_=>exact absurd (show false=true from hs) YZ
 |int i=>
  obtain⟨t,rfl⟩:=c;cases y with
  |non=>cases a;exact PySem.EqNone.ne_int_none (bW I q (by simp))
  |int j=>obtain⟨b,rfl⟩:=a;exact ne_int (bW I q (congrArg not Ho))
  |str j=>obtain⟨b,rfl⟩:=a;exact PySem.EqMixed.ne_int_str (bW I q (by simp))
  |_=>exact absurd (show false=true from hs) YZ
 |str i=>
  obtain⟨t,rfl⟩:=c;cases y with
  |non=>cases a;exact PySem.EqNone.ne_str_none (bW I q (by simp))
  |bl j=>cases a;exact PySem.EqMixed.ne_str_bool (bW I q (by simp))
  |int j=>obtain⟨b,rfl⟩:=a;exact PySem.EqMixed.ne_str_int (bW I q (by simp))
  |str j=>obtain⟨b,rfl⟩:=a;exact ne_str (bW I q (congrArg not Hv))
  |_=>exact absurd (show false=true from hs) YZ
 |byt i=>
  obtain⟨t,rfl⟩:=c;cases y with
  |byt j=>obtain⟨b,rfl⟩:=a;exact PySem.W.ne_bytes (bW I q (congrArg not HM))
  |_=>exact absurd (show false=true from hs) YZ
 |_=>cases y<;>exact absurd (show false=true from hs) YZ
theorem Ay:tH X (aai .Lt) (Nx λi j=>.bl (decide (i<j))):=PZ λ_ _ _ _ _ _ _ q=>ahr q
theorem WX:tH X (aai .LtE) (Nx λi j=>.bl (decide (i<=j))):=PZ λ_ _ _ _ _ _ _ q=>le_int q
theorem Nf:tH X (aai .Gt) (Nx λi j=>.bl (decide (j<i))):=PZ λ_ _ _ _ _ _ _ q=>gt_int q
theorem Dd:tH X (aai .GtE) (Nx λi j=>.bl (decide (j<=i))):=PZ λ_ _ _ _ _ _ _ q=>ge_int q
theorem yc:tH X (aai .IsNot) (λx y H Q=>y=.non/\Q (.bl (!decide (x=.non))) H):=by
 intro c s σ H x y v u Q I a b h;obtain⟨rfl,q⟩:=h;cases b;refine isnot_none_gen (bW I q ?_);cases x<;>first
  |(cases a;rfl)
  |(obtain⟨t,rfl⟩:=a;rfl)
theorem bC(b:cb)(h:op≠.In:=by decide)(h2:op≠.NotIn:=by decide):adt op b=false:=by
 have a:(op==CmpOp.In)=false:=by cases op<;>first|rfl|exact absurd rfl h
 have c:(op==CmpOp.NotIn)=false:=by cases op<;>first|rfl|exact absurd rfl h2
 cases b<;>simp[adt,a,c]
theorem qT(ho:tH X (aai op) r)(ha:PE X a ta)(c:PE X b tb)(hm:adt op b=false):PE X (.Compare a [op] [b] pos) (Vc r ta tb):=by
 intro d s σ H Q I h;exact wpAny_Compare1 (Tu ha c I h λv u e x y f g i j q=>ho d e σ f x y v u Q g i j q) hm
def MX(t:TE):TT:=λσ H Q=>t σ H λx a=>∃k,x=.bl k/\Q k a
theorem br(ho:tH X (aai op) r)(ha:PE X a ta)(g:PE X b tb)(hm:adt op b=false):PT X (.Compare a [op] [b] pos) (MX (Vc r ta tb)):=by
 intro f s σ H Q I h;refine afB (cL (ha f s σ H _ I h) λv i d=>?_) hm;obtain⟨x,j,l,m,n⟩:=d;refine cL (g f i σ j _ l n) λu o d=>?_;obtain⟨y,p,q,t,w⟩:=d;refine cL (ho f o σ p x y v u _ q m t w) λc E d=>?_;obtain⟨z,A,B,C,k,e,D⟩:=d;subst e;cases C;exact abu ⟨A,B,D⟩
def Nr(K:Yc)(x:V)(H:Hp)(k:Bool):Prop:=
 match x with
 | .non=>k=false
 | .bl b=>k=b
 | .int i=>k=(i !=0)
 | .str y=>y.length<=YB/\k=((y.length:Int) !=0)
 | .byt y=>y.size<=YB/\k=((y.size:Int) !=0)
 | .ref p=>(∃a,a9 K H p a/\k=!a.isEmpty)∨(∃a,bJ K H p a/\k=!a.isEmpty)∨∃c,H p=Ya (.dK c)/\k=!c.isEmpty
 |_=>False
theorem F5{κ:Type}{kvs:List (κ×V)}{vs:List (κ×Yd)}(r:KV kvs vs):(!vs.isEmpty)=!kvs.isEmpty:=by
 cases r<;>rfl
theorem yU{xs:List V}{its:List Yd}(r:Vals xs its):(!its.toArray.isEmpty)=!xs.isEmpty:=by
 cases r<;>simp
theorem zP:(YB:Nat)<2^63:=by rw[aaB];decide
theorem Uh:XI X (λx H Q=>∃k,Nr X.K x H k/\Q k H):=by
 intro z s σ H x v Q I g h;obtain⟨k,e,q⟩:=h;have hl:=zP;have hs:YB=16777216:=aaB;cases x with
 |non=>
  cases g;have a:k=false:=e;subst a;exact truthy_none ⟨H,I,q⟩
 |bl b=>
  cases g;have a:k=b:=e;subst a;exact abu ⟨H,I,q⟩
 |int i=>
  obtain⟨t,rfl⟩:=g;have a:k=(i !=0):=e;subst a;exact PySem.P.truthy_int ⟨H,I,q⟩
 |str y=>
  obtain⟨t,rfl⟩:=g;obtain⟨u,a⟩:y.length<=YB/\k=((y.length:Int) !=0):=e;subst a;exact PySem.P.truthy_str (by omega) ⟨H,I.tok _,q⟩
 |byt y=>
  obtain⟨t,rfl⟩:=g;obtain⟨u,a⟩:y.size<=YB/\k=((y.size:Int) !=0):=e;subst a;exact PySem.W.truthy_bytes (by omega) ⟨H,I.tok _,q⟩
 |ref p=>
  cases g;have a:(∃f,a9 X.K H p f/\k=!f.isEmpty)∨(∃f,bJ X.K H p f/\k=!f.isEmpty)∨∃c,H p=Ya (.dK c)/\k=!c.isEmpty:=e;rcases a with⟨f,j,a⟩|⟨f,j,a⟩|⟨c,j,a⟩
  ·subst a;obtain⟨l,r,n,o⟩:=I.list j;have d:=r.length;exact wpAny_truthy_list n.isList (by simp only[YC];omega) ⟨H,I.tok _,by rw[yU r];exact q⟩
  ·subst a;obtain⟨l,r,n,o⟩:=I.tuple j;have d:=r.length;exact truthy_tuple n (by simp only[YC];omega) ⟨H,I.tok _,by rw[yU r];exact q⟩
  ·subst a;obtain⟨o,w,vs,r,m⟩:c.length<=YB/\(p==aag)=false/\∃vs,KV c vs/\s.heap.DictOf (bf X.prog X.w) p vs:=I.hok p _ j;have d:c.length=vs.length:=Y2 r;exact wpAny_truthy_dict w m (by omega) ⟨H,I.tok _,by rw[F5 r];exact q⟩
 |_=>exact(show False from e).elim
theorem Di(ha:PE X a ta)(d:∀b,ahw a X.env b=(do let v←b;adA a.pos;acu [v] (truthy v))):
  PT X a (λσ H Q=>ta σ H λx H'=>∃k,Nr X.K x H' k/\Q k H'):=by
 intro c s σ H Q I h;exact isTrue_plain (cL (ha c s σ H _ I h) λv e ⟨x,f,g,i,j⟩=>Uh c e σ f x v Q g i j) (d _)
theorem fG{x:V}(r:Vals [x] us):∃u,us=[u]/\RelV x u:=by
 cases r with
 |cons r1 r2=>cases r2;exact⟨_,rfl,r1⟩
theorem Aw{x:V}(r:Vals [x,y] us):∃u w',us=[u,w']/\RelV x u/\RelV y w':=by
 cases r with
 |cons r1 r2=>
  cases r2 with
  |cons r3 r4=>cases r4;exact⟨_,_,rfl,r1,r3⟩
theorem MY:dO X (.builtin "abs") (λxs H Q=>∃i,xs=[.int i]/\Q (.int (if i<0 then-i else i)) H):=by
 intro a s σ H xs us Q I r h;obtain⟨i,rfl,q⟩:=h;obtain⟨u,rfl,t,rfl⟩:=fG r;exact call_abs_int λu tk=>⟨.int (if i<0 then-i else i),H,I.tok _,⟨_,rfl⟩,q⟩
theorem KC(b:X.calm=true):dO X (.builtin "max") (λxs H Q=>∃i j,xs=[.int i,.int j]/\Q (.int (if j>i then j else i)) H):=by
 intro c s σ H xs us Q I r h;obtain⟨i,j,rfl,q⟩:=h;obtain⟨u,d,rfl,⟨t,rfl⟩,⟨e,rfl⟩⟩:=Aw r;refine max_two_ints (I.ok.hd b) λf tk k=>⟨_,H,I.kept k,?_,q⟩;by_cases a:j>i
 ·rw[if_pos a,if_pos a];exact⟨_,rfl⟩
 ·rw[if_neg a,if_neg a];exact⟨_,rfl⟩
theorem JM(b:X.calm=true):dO X (.builtin "min") (λxs H Q=>∃i j,xs=[.int i,.int j]/\Q (.int (if j<i then j else i)) H):=by
 intro c s σ H xs us Q I r h;obtain⟨i,j,rfl,q⟩:=h;obtain⟨u,d,rfl,⟨t,rfl⟩,⟨e,rfl⟩⟩:=Aw r;refine min_two_ints (I.ok.hd b) λf tk k=>⟨_,H,I.kept k,?_,q⟩;by_cases a:j<i
 ·rw[if_pos a,if_pos a];exact⟨_,rfl⟩
 ·rw[if_neg a,if_neg a];exact⟨_,rfl⟩
end
structure GF(h:YV)(x dx C:Ye)(mA:Yp->Option Yd):Prop where
 obj:h.get? x=Ya (abj C dx)
 ns:h.Ns1 dx mA
 ne:dx≠x
theorem Kc(n:h.Ns1 dx mA):∃od,h.get? dx=Ya od/\∀name,ad2 name od=Ya (mA name):=by
 obtain⟨o,c,i,ho,hd,d,_,hm⟩:=n;refine⟨o,ho,λname=>?_⟩;have e:=hm name;unfold nsFind findBy at e;rw[←Array.find?_toList]at e;unfold ad2;rw[hd];dsimp only;split
 ·rename_i y q;rw[q]at e;exact congrArg Ya e
 ·rename_i q;rw[q]at e;have a:c.toList.any (·.refKey)=false:=by
   rw[aeA];intro y f;obtain⟨z,t,b⟩:=d y (Array.mem_toList_iff.mp f);simp[DictEntry.refKey,b]
  have g:¬ c.toList.any (·.refKey)=true:=by rw[a];exact YZ
  rw[if_neg g];exact congrArg Ya e
theorem GF.look{x:Ye}(I:GF h x dx C mA):∃od,PySem.W.InstAt h x (abj C dx) C (Ya od)/\∀name,ad2 name od=Ya (mA name):=
 let ⟨od,ho,hl⟩:=Kc I.ns
 ⟨od,⟨I.obj,rfl,rfl,ho⟩,hl⟩
section
variable{K:Yc}{x f:Ye}{v:Yd}
theorem Pt{a:Bool}(X:K.In s.heap)(I:GF s.heap x dx C mA)(c:adx K C name=true)(d:aeB K C=true)(ha:gf K (.ref C) name=Ya Yb)(e:mA name=Ya v)(b:aeQ v=true)(h:Q v {s with toks:=s.toks+ 1}):
  Ys (Yv prog w) A (aiO (.ref x) name a) Q E s:=by
 obtain⟨od,J,hl⟩:=I.look;exact PySem.W.get_value X J (adW c).1 (PySem.W.findObj_own d ha rfl (by rw[hl,e])) b h
theorem L6{Q:Yd×List Yd->Yn->Prop}(X:K.In s.heap)(I:GF s.heap x dx C mA)(a:adx K C name=true)(b:gf K (.ref C) name=Ya (Ya (.ref f)))(c:ags K (.ref f)=true)(d:mA name=Yb)(h:Q (.ref f,[.ref x]) s):
  Ys (Yv prog w) A (ac2 (.ref x) name pl) Q E s:=by
 obtain⟨od,J,hl⟩:=I.look;exact PySem.W.method_fn X J (adW a).1 (adW a).2 b (beq_iff_eq.mp c) (by show(ad2 name od).map (·.isSome)=Ya false;rw[hl,d];rfl) h
theorem QJ{ns:List Yp}{Q:Unit->Yn->Prop}(X:K.In s.heap)(I:GF s.heap x dx C mA)
  (hs:gf K (.ref C) "__setattr__"=Ya (Ya (.builtin "object.__setattr__"))) (hp:agL K C=true) (j:afg K C name=Ya Yb) (k:aeB K C=true)
  (hw:aeh mA ns) (hsz:ns.length<=YB)
  (h:∀h',GF h' x dx C (λy=>if y=name then Ya v else mA y)->aan dx s.heap h'->Q () {s with heap:=h',toks:=s.toks+ 2}):
  Ys (Yv prog w) A (afC (.ref x) name v) Q E s:=by
 obtain⟨od,J,hl⟩:=I.look;refine aeC X J hs (PySem.W.osa_open (s:={s with toks:=s.toks+ 1}) (r:=Yb) X J hp j λb=>?_);obtain⟨p,l,e⟩:=PySem.W.any_some k;have m:s.heap.get? x=Ya ⟨.ref C,Ya dx,.plain,#[]⟩:=I.obj;refine Yg (Yt (Yg (Yg (afD m (Yg (aei (s:={s with toks:=s.toks+ 1}) (adX X l) ?_))))));rw[e];refine Yt (a:=Ya dx) (Yg (Yt (Yg ?_)));refine air (s:={s with toks:=s.toks+ 1}) I.ns λh' c d=>?_;obtain⟨q,n,o,f,g,i⟩:=c.count (PySem.Within.cons name v hw);refine Yg (ag4 f (by rw[g];exact ag5 (ir i (by rw[gm];omega))) ?_);exact Yt (h _ ⟨(d.2 _ (Ne.symm I.ne)).trans I.obj,c,I.ne⟩ d)
theorem Nc{R:acv->Yn->Prop}{vs:List Yd}(X:K.In s.heap)(hm:ahy K C=true)(a:gf K (.ref C) "__init__"=Ya (Ya (.ref f)))(b:ahT K (.ref f)=Ya (.type "function"))(h:Gr (Yv prog w) (A.under (.builtin "type.__call__" ⟨.ref C::vs,kw⟩)) (.call (.ref f) ⟨.ref (s.heap.objs.size+ 1)::vs,kw⟩) (ag6 (s.heap.objs.size+ 1) R)
   {s with heap:=(s.heap.push aaP).push (abj C s.heap.objs.size)}):
  Gr (Yv prog w) A (.call (.ref C) ⟨vs,kw⟩) R s:=by
 obtain⟨c,g,d,t,os⟩:=s;exact PySem.W.make_core (PySem.W.makes_of X hm) (PySem.W.looks_findIn X a) (λself=>PySem.W.bind_fn X self b) (.inl rfl) h
end
noncomputable def dQ(f:Yp)(v:V):List (Yp×V)->List (Yp×V)
 |[]=>[(f,v)]
 |(g,x)::r=>if g=f then(g,v)::r else(g,x)::dQ f v r
theorem pM(f g:Yp)(v:V):∀fs:List (Yp×V),(dQ f v fs).lookup g=if g=f then Ya v else fs.lookup g
 |[]=>by
  show abU g [(f,v)]=_;by_cases h:g=f
  ·have a:(g==f)=true:=beq_iff_eq.mpr h;simp only[abU,a,if_pos h]
  ·have a:(g==f)=false:=beq_eq_false_iff_ne.mpr h;simp only[abU,a,if_neg h]
 |(k,x)::r=>by
  have c:=pM f g v r;rw[show dQ f v ((k,x)::r)=(if k=f then(k,v)::r else(k,x)::dQ f v r)from rfl];by_cases b:k=f
  ·rw[if_pos b];by_cases h:g=k
   ·have a:(g==k)=true:=beq_iff_eq.mpr h;simp only[abU,a,if_pos (h.trans b)]
   ·have a:(g==k)=false:=beq_eq_false_iff_ne.mpr h;simp only[abU,a,if_neg (λe:g=f=>h (e.trans b.symm))]
  ·rw[if_neg b];by_cases h:g=k
   ·have a:(g==k)=true:=beq_iff_eq.mpr h;simp only[abU,a,if_neg (λe:g=f=>b (h.symm.trans e))]
   ·have a:(g==k)=false:=beq_eq_false_iff_ne.mpr h;simp only[abU,a];exact c
theorem mR(f:Yp)(v:V):∀fs:List (Yp×V),f∈(dQ f v fs).map (·.1)/\∀g,g∈fs.map (·.1)->g∈(dQ f v fs).map (·.1)
 |[]=>⟨by simp[dQ],λg h=>by simp at h⟩
 |(k,x)::r=>by
  obtain⟨b,c⟩:=mR f v r;rw[show dQ f v ((k,x)::r)=(if k=f then(k,v)::r else(k,x)::dQ f v r)from rfl];by_cases a:k=f
  ·rw[if_pos a];subst a;exact⟨by simp,λg h=>by simpa using h⟩
  ·rw[if_neg a];refine⟨?_,λg h=>?_⟩
   ·rw[YG];exact Yo _ b
   ·rw[YG]at h⊢;rcases Ym.mp h with e|e
    ·exact Ym.mpr (.inl e)
    ·exact Yo _ (c g e)
theorem wV(f:Yp)(v:V):∀fs:List (Yp×V),(dQ f v fs).length<=fs.length+ 1
 |[]=>by simp[dQ]
 |(k,x)::r=>by
  have b:=wV f v r;rw[show dQ f v ((k,x)::r)=(if k=f then(k,v)::r else(k,x)::dQ f v r)from rfl];by_cases a:k=f
  ·rw[if_pos a,gm,gm];omega
  ·rw[if_neg a,gm,gm];omega
theorem lX.some_of{o:Option Yd}(r:lX (Ya v) o):∃u,o=Ya u/\RelV v u:=by
 cases o with
 |none=>exact(show False from r).elim
 |some u=>exact⟨u,rfl,r⟩
theorem lX.none_of{o:Option Yd}(r:lX Yb o):o=none:=by
 cases o with
 |none=>rfl
 |some u=>exact(show False from r).elim
theorem J8(r:RelV v u):aeQ u=true:=by
 cases v with
 |non=>cases (show u=aaf from r);rfl
 |bl b=>cases (show u=acG b from r);rfl
 |int i=>obtain⟨t,e⟩:=(show∃t,u=abe i t from r);cases e;rfl
 |str x=>obtain⟨t,e⟩:=(show∃t,u=aff x t from r);cases e;rfl
 |byt b=>obtain⟨t,e⟩:=(show∃t,u=aiH b t from r);cases e;rfl
 |flt b=>obtain⟨t,e⟩:=(show∃t,u=ag0 b t from r);cases e;rfl
 |ref a=>cases (show u=YH a from r);rfl
 |ty n=>cases (show u=aaG n from r);rfl
section
variable{fs':List (Yp×V)}
theorem yg(hok:mS P w H h)(e:H a=Ya (.ins C dx fs)):∃mA,GF h a dx C mA/\(∀f,lX (fs.lookup f) (mA f))/\aeh mA (fs.map (·.1))/\fs.length<=1000/\H dx=Ya (.own a):=by
 obtain⟨d,z,ne,ob,mA,n,r,q⟩:=(show cD P w H h a (.ins C dx fs)from hok a _ e);exact⟨mA,⟨ob,n,ne⟩,r,q,z,d⟩
end
structure A0(K:Yc)(C:Ye):Prop where
 pg:adx K C Str.empty=true
 hd:aeB K C=true
 po:agL K C=true
 sa:gf K (.ref C) "__setattr__"=Ya (Ya (.builtin "object.__setattr__"))
theorem A0.get{K:Yc}(c:A0 K C)(f:Yp):adx K C f=true:=c.pg
def cJ(K:Yc)(C:Ye)(f:Yp):Prop:=gf K (.ref C) f=Ya Yb
theorem cJ.taker{K:Yc}{f:Yp}(n:cJ K C f):afg K C f=Ya none:=by
 unfold afg;rw[show gf K (.ref C) f=Ya Yb from n];rfl
structure bE(K:Yc)(C:Ye)(m:Yp)(f:Ye):Prop where
 at_:gf K (.ref C) m=Ya (Ya (.ref f))
 fn:ags K (.ref f)=true
 kp:abE K (.ref f)=true
section
variable{f:Yp}
theorem G1{b:Bool}(I:aO X Za σ H s)(e:H a=Ya (.ins C dx fs))(c:A0 X.K C)(n:cJ X.K C f)(l:fs.lookup f=Ya v)(h:∀u s',aO X Za σ H s'->RelV v u->Q u s'):Ys (Yv X.prog X.w) A (aiO (.ref a) f b) Q E s:=by
 obtain⟨g,O,r,_,_,_⟩:=yg I.hok e;obtain⟨u,hu,d⟩:=lX.some_of (v:=v) (o:=g f) (by rw[←l];exact r f);exact Pt I.kIn O (c.get f) c.hd n hu (J8 d) (h u _ (I.tok _) d)
theorem jM{g:Ye}{Q:Yd×List Yd->Yn->Prop}(I:aO X Za σ H s)(e:H a=Ya (.ins C dx fs))(c:A0 X.K C)(k:bE X.K C m g)(l:fs.lookup m=Yb)(h:Q (.ref g,[.ref a]) s):Ys (Yv X.prog X.w) A (ac2 (.ref a) m pl) Q E s:=by
 obtain⟨b,O,r,_,_,_⟩:=yg I.hok e;have hn:b m=none:=lX.none_of (by rw[←l];exact r m);exact L6 I.kIn O (c.get m) k.at_ k.fn hn h
theorem GK{Q:Unit->Yn->Prop}(I:aO X Za σ H s)(e:H a=Ya (.ins C dx fs))(c:A0 X.K C)(n:cJ X.K C f)(hl:fs.length<1000)(k:RelV y u)(h:∀s',aO X Za σ (upd H a (.ins C dx (dQ f y fs))) s'->Q () s'):Ys (Yv X.prog X.w) A (afC (.ref a) f u) Q E s:=by
 obtain⟨i,O,r,j,_,ho⟩:=yg I.hok e;have l:(fs.map (·.1)).length<=YB:=by rw[Yf,aaB];omega
 refine QJ I.kIn O c.sa c.po n.taker c.hd j l λm d p=>h _ ?_;have hd:∃o,m.get? dx=Ya o:=let ⟨o,_,_,e',_⟩:=d.ns;⟨o,e'⟩;refine I.write (x:=a) (e:=dx) (by rw[e];exact aba) (.inr ho) (λb q t z=>(p.2 b t).trans z) hd ?_;refine⟨by rw[ak O.ne];exact ho,?_,O.ne,d.obj,_,d.ns,λg=>?_,λg v=>?_⟩
 ·have:=wV f y fs;omega
 ·show lX ((dQ f y fs).lookup g) (if g=f then Ya u else i g);rw[pM];by_cases q:g=f
  ·rw[if_pos q,if_pos q];exact k
  ·rw[if_neg q,if_neg q];exact r g
 ·by_cases q:g=f
  ·rw[q];exact(mR f y fs).1
  ·refine(mR f y fs).2 g (j g λz=>v ?_);show(if g=f then Ya u else i g)=Yb;rw[if_neg q];exact z
theorem aO.made(I:aO X Za σ H s):aO X Za σ (upd (upd H s.heap.objs.size (.own (s.heap.objs.size+ 1))) (s.heap.objs.size+ 1) (.ins C s.heap.objs.size []))
  {s with heap:=(s.heap.push aaP).push (abj C s.heap.objs.size)}:=by
 have c:(s.heap.push aaP).get? s.heap.objs.size=Ya aaP:=Yx s.heap rfl;have d:((s.heap.push aaP).push (abj C s.heap.objs.size)).get? (s.heap.objs.size+ 1)=Ya (abj C s.heap.objs.size):=by
  have:=Yx (s.heap.push aaP) (o:=abj C s.heap.objs.size) rfl;rwa [aaV]at this
 have f:(s.heap.push aaP).Ns s.heap.objs.size (λ_=>Yb):=⟨aaP,#[],_,c,rfl,(λe g=>absurd g (by simp)),λ_=>rfl⟩;have h:=I.laid (a:=s.heap.objs.size) (o:=.own (s.heap.objs.size+ 1)) (h':=s.heap.push aaP) (t':=s.toks) (λb u q=>Yj _ q) (Yl _) ⟨_,c⟩;refine h.laid (a:=s.heap.objs.size+ 1) (o:=.ins C s.heap.objs.size []) (t':=s.toks) (λb u q=>Yj _ q) (adJ (aaV _ _)) ?_;have ne:s.heap.objs.size≠s.heap.objs.size+ 1:=YN (abF _);refine⟨by rw[ak ne,af],cT _,ne,d,λ_=>Yb,(Heap.Ns1.of_empty f).at λo q=>Yj _ q,λ_=>aba,λy i=>absurd rfl i⟩
theorem OP{f:Yp}(a:abb e f env (lr e env)=lr e env)(h:Ys (Yv prog w) A (lr e env) (λo b=>Ys (Yv prog w) A (aiO o f true) Q E b) E s):Ys (Yv prog w) A (lr (.Attribute e f pos) env) Q E s:=
 Attribute_any_ h (by rw[arm_eval_Attribute,a])
end
def SX(K:Yc)(ta:TE)(f:Yp):TE:=λσ H Q=>ta σ H λx b=>∃a C c fs v,x=.ref a/\b a=Ya (.ins C c fs)/\A0 K C/\cJ K C f/\fs.lookup f=Ya v/\Q v b
def Lw(K:Yc)(ta tv:TE)(f:Yp):TS:=λD σ H=>tv σ H λy d=>ta σ d λx b=>∃a C c fs,x=.ref a/\b a=Ya (.ins C c fs)/\A0 K C/\cJ K C f/\fs.length<1000/\
 D.nx σ (upd b a (.ins C c (dQ f y fs)))
section
variable{o:cb}{f:Yp}
theorem UK(b:PE X e ta)(d:abb e f X.env (lr e X.env)=lr e X.env):PE X (.Attribute e f pos) (SX X.K ta f):=by
 intro g s σ H Q I h;refine OP d (cL (b g s σ H _ I h) λu t i=>?_);obtain⟨x,j,k,m,a,C,w,fs,v,ex,o,c,n,l,q⟩:=i;subst ex;obtain rfl:u=YH a:=m;exact G1 k o c n l λy z p r=>⟨v,j,p,r,q⟩
theorem Uu(ha:PE X o ta)(e:PE X Zg tv)(hs:adz Zg (Ya (.Attribute o f Zq)) pos.line X.env=pure false):PS X (.Assign [.Attribute o f Zq] Zg pos) (Lw X.K ta tv f):=by
 intro d s σ H D I h;refine adG (cL (e d s σ H _ I h) λu g b=>?_) hs;obtain⟨y,i,j,k,q⟩:=b;refine cL (ha d g σ i _ j q) λm z b=>?_;obtain⟨x,A,p,r,a,C,B,fs,ex,t,c,n,l,v⟩:=b;subst ex;obtain rfl:m=YH a:=r;exact GK p t c n l k λE w=>⟨σ,_,w,v⟩
theorem R8{b:List cb}(n:PE X e te)(I:aO X Za σ H s)(h:te σ H λx i=>∃a C dx fs g,x=.ref a/\i a=Ya (.ins C dx fs)/\A0 X.K C/\bE X.K C m g/\fs.lookup m=Yb/\
   ∀d,aO X Za σ i d->Ys (Yv X.prog X.w) X.A (ad3 pos (.ref g) [.ref a] (aad pos (YW b X.env)) (abl pos (aaC [] X.env))) Q X.xe d) (o:lr (.Call (.Attribute e m Ze) b [] pos) X.env=(do
   let ov←lr e X.env
   adA Ze.atName
   let (f,first)←acu [ov] (ac2 ov m pl)
   ad3 pos f first (aad pos (YW b X.env)) (abl pos (aaC [] X.env)))):
  Ys (Yv X.prog X.w) X.A (lr (.Call (.Attribute e m Ze) b [] pos) X.env) Q X.xe s:=by
 refine abg (pl:=pl) (cL (n Za s σ H _ I h) λu d p=>?_) o;obtain⟨x,i,j,r,a,C,dx,fs,g,ex,t,c,k,l,q⟩:=p;subst ex;obtain rfl:u=YH a:=r;exact jM j t c k l (q d j)
end
section
variable{c:Yd}{b:Bool}
inductive ur (K:Yc) (H:Hp):V->Yd->Prop where
 |non:ur K H .non (.type "NoneType")
 |bl (x:Bool):ur K H (.bl x) (.type "bool")
 |int (i:Int):ur K H (.int i) (.type "int")
 |str (x:Yp):ur K H (.str x) (.type "str")
 |flt (x:UInt64):ur K H (.flt x) (.type "float")
 |lst {a:Ye} {xs:List V} (e:H a=Ya (.lst xs)):ur K H (.ref a) (.type "list")
 |frz {a:Ye} {o:pe} {xs:List V} (e:H a=Ya (.frz o (.lst xs))):ur K H (.ref a) (.type "list")
 |tup {a:Ye} {xs:List V} (e:H a=Ya (.tup xs)):ur K H (.ref a) (.type "tuple")
 |dK {a:Ye} {kvs:List (bR×V)} (e:H a=Ya (.dK kvs)):ur K H (.ref a) (.type "dict")
 |dT {a:Ye} {kvs:List (List bR×V)} (e:H a=Ya (.dT kvs)):ur K H (.ref a) (.type "dict")
 |ins {a C dx:Ye} {fs:List (Yp×V)} (e:H a=Ya (.ins C dx fs)) (cl:A0 K C) (ha:gf K (.ref C) "__class__"=Ya (Ya (.builtin "object.__class__")))
   (hn:agM K (.builtin "object.__class__") "__get__"=Ya (Ya (.builtin "getset_descriptor.__get__"))) (htk:PySem.W.takesIn K (.builtin "object.__class__")=Ya true)
   (hm:agd K C (.type "object")=Ya true):ur K H (.ref a) (.ref C)
theorem KD{x:V}{t:Yd}(I:aO X Za σ H s)(d:RelV x u)(ty:ur X.K H x t)(e:afE X.K t c=Ya b)(h:∀tk,Q (.bool b) {s with toks:=tk}):
  Ys (Yv X.prog X.w) A (call (.builtin "isinstance") [u,c]) Q E s:=by
 cases ty with
 |non=>cases (show u=aaf from d);exact aaD PySem.W.kitx_none I.kIn aba e (λz=>nomatch z) h
 |bl y=>cases (show u=acG y from d);exact aaD PySem.W.kitx_bool I.kIn aba e (λz=>nomatch z) h
 |int i=>obtain⟨t,q⟩:=(show∃t,u=abe i t from d);cases q;exact aaD PySem.W.kitx_int I.kIn aba e (λz=>nomatch z) h
 |str y=>obtain⟨t,q⟩:=(show∃t,u=aff y t from d);cases q;exact aaD PySem.W.kitx_str I.kIn aba e (λz=>nomatch z) h
 |flt y=>obtain⟨t,q⟩:=(show∃t,u=ag0 y t from d);cases q;exact aaD PySem.W.kitx_float I.kIn aba e (λz=>nomatch z) h
 |@lst a xs ea=>
  cases (show u=YH a from d);obtain⟨_,_,n,_,h1⟩:=(show cD X.prog X.w H s.heap a (.lst xs)from I.hok a _ ea);exact aaD agN I.kIn ⟨_,h1,rfl⟩ e (λz=>nomatch z) h
 |@frz a ob xs ea=>
  cases (show u=YH a from d);obtain⟨_,_,_,n,_,h1⟩:=(show cD X.prog X.w H s.heap a (.frz ob (.lst xs))from I.hok a _ ea);exact aaD agN I.kIn ⟨_,h1,rfl⟩ e (λz=>nomatch z) h
 |@tup a xs ea=>
  cases (show u=YH a from d);obtain⟨_,_,_,p⟩:=(show cD X.prog X.w H s.heap a (.tup xs)from I.hok a _ ea);obtain⟨o,h1,h2,_⟩:=p;exact aaD PySem.W.kitx_tuple I.kIn ⟨o,h1,h2⟩ e (λz=>nomatch z) h
 |@dK a kvs ea=>
  cases (show u=YH a from d);obtain⟨_,_,j,_,p⟩:=(show cD X.prog X.w H s.heap a (.dK kvs)from I.hok a _ ea);obtain⟨o,f,g,h1,h2,_⟩:=p;exact aaD agO I.kIn ⟨o,h1,h2.1⟩ e (λz=>nomatch z) h
 |@dT a kvs ea=>
  cases (show u=YH a from d);obtain⟨_,_,xs,_,o,f,g,h1,h2,_⟩:=(show cD X.prog X.w H s.heap a (.dT kvs)from I.hok a _ ea);exact aaD agO I.kIn ⟨o,h1,h2.1⟩ e (λz=>nomatch z) h
 |@ins a C dx fs ea cl ha hn htk hm=>
  cases (show u=YH a from d);obtain⟨k,O,_⟩:=yg I.hok ea;obtain⟨od,J,_⟩:=O.look;exact aaD (PySem.W.kitx_own (cl.get _) cl.hd ha hn htk hm) I.kIn J e (λz=>nomatch z) h
end
structure cZ(k:Nat)(A:uc):Prop where
 hd:A.handled=Yb
 dp:A.depth+ 3*k+ 5<ad4
 un:A.units+ 16*k+ 200<aax
theorem cZ.mono(r:cZ k A)(h:j<=k):cZ j A:=⟨r.hd,by have:=r.dp;omega,by have:=r.un;omega⟩
theorem cZ.deeper(r:cZ (k+ 1) A)(env:ack):cZ k (A.deeper env):=
 ⟨r.hd,by have:=r.dp;show A.depth+ 1+ 3*k+ 5<_;omega,by have:=r.un;show A.units+ 3+ 16*k+ 200<_;omega⟩
theorem G6:(A.under (.builtin "type.__call__" ⟨.ref C::us,kw⟩)).depth=A.depth+ 1:=by
 first|rfl|simp[Around.under,Code.weight,Code.isCreation,Code.isGuard,Code.isCaller,aiI,agt,guardIds]
theorem GL:(A.under (.builtin "type.__call__" ⟨.ref C::us,kw⟩)).units=A.units+ 1:=by
 first|rfl|simp[Around.under,Code.cUnits,aiI,agt]
theorem cZ.make(r:cZ (k+ 1) A)(C:Ye)(us:List Yd)(a:List (Yp×Yd)):cZ k (A.under (.builtin "type.__call__" ⟨.ref C::us,a⟩)):=
 ⟨r.hd,by have:=r.dp;rw[G6];omega,by have:=r.un;rw[GL];omega⟩
theorem cZ.depth(r:cZ k A):A.depth<ad4:=by have:=r.dp;omega
theorem cZ.units(r:cZ k A):A.units+ 64<aax:=by have:=r.un;omega
theorem cZ.units0(r:cZ k A):A.units<aax:=by have:=r.un;omega
def CQ:TA:=λ_ H Q=>Q [] H
def zu(ta:TE)(tr:TA):TA:=λσ H Q=>ta σ H λx a=>tr σ a λb c=>Q (x::b) c
section
variable{t:TA}
theorem ai:PA X [] CQ:=λ_ _ _ _ H Q I h=>aeD ⟨[],H,I,.nil,h⟩
theorem aa(ha:PE X e te)(b:PA X es t)(hs:YW (e::es) X.env=(false,lr e X.env)::YW es X.env:=by rfl):PA X (e::es) (zu te t):=by
 intro pos a s σ H Q I h;rw[hs];show Ys _ _ (spliced ((false,lr e X.env)::aad pos (YW es X.env))) _ _ s;refine ac3 (cL (ha a s σ H _ I h) λu c d=>?_);obtain⟨x,f,g,i,j⟩:=d;exact cL (b pos a c σ f _ g j) λus p ⟨k,l,m,n,o⟩=>⟨x::k,l,m,.cons i n,o⟩
def UW(t:TA):TE:=λσ H Q=>t σ H λa b=>a.length<=YB/\∀p,b p=Yb->Q (.ref p) (upd b p (.tup a))
def WA(t:TA):TE:=λσ H Q=>t σ H λa b=>a.length<=YB/\∀p,b p=Yb->Q (.ref p) (upd b p (.lst a))
theorem cF{f}(h:PA X es t):PE X (.Tuple es f pos) (UW t):=by
 intro g s σ H Q I i;refine wpAny_Tuple_spliced (cL (h pos g s σ H _ I i) λus a ⟨j,c,d,r,z,q⟩=>⟨by rw[←r.length];exact z,?_⟩);have k:c a.heap.objs.size=none:=d.hok.fresh (Yl _);refine⟨.ref a.heap.objs.size,upd c a.heap.objs.size (.tup j),d.laid (t':=a.toks) (λb u e=>Yj _ e) (Yl _) ?_,rfl,q _ k⟩;exact⟨z,us,r,mO.new _ _⟩
theorem d5(h:PA X es t):PE X (.List es pos) (WA t):=by
 intro f s σ H Q I g;refine wpAny_List_spliced (cL (h pos f s σ H _ I g) λus a ⟨i,c,d,r,z,q⟩=>⟨by rw[←r.length];exact z,?_⟩);have j:c a.heap.objs.size=none:=d.hok.fresh (Yl _);refine⟨.ref a.heap.objs.size,upd c a.heap.objs.size (.lst i),d.laid (t':=a.toks) (λb u e=>Yj _ e) (Yl _) ?_,rfl,q _ j⟩;exact⟨z,us,0,r,Yx _ rfl⟩
end
abbrev Sp:=List V->Hp->VK->XK->Prop
variable{sp:Sp}
abbrev MN:=List ack->Hp->Yn->XK->Yd->Yn->Prop
variable{CX:MN}
structure GQ(P:Y0)(w:Y7)(K:Yc)(mg:Yp->Option Yd)(base:YV)(A:uc)(outer:List ack)(s:Yn)(H:Hp):Prop where
 frames:A.frames=Ya outer
 mod:Mod K mg base
 bs:∀b o,base.get? b=Ya o->s.heap.get? b=Ya o/\H b=Yb
 bsz:base.objs.size<=s.heap.objs.size
 funs:s.heap.FunFrames base outer
 frf:∀b∈mT outer,H b=Yb
 hok:mS P w H s.heap
 bare:acN s.gens
def CE(outer:List ack)(P:Y0)(w:Y7)(H:Hp)(s:Yn)(Q:VK)(u:Yd)(s':Yn):Prop:=
 ∃v a,s'.os=s.os/\acN s'.gens/\Un (mT outer) [] H a s.heap s'.heap/\mS P w a s'.heap/\RelV v u/\Q v a
def CR(CX:MN)(outer:List ack)(P:Y0)(w:Y7)(H:Hp)(s:Yn)(Q:VK)(E:XK)(r:acv)(s':Yn):Prop:=
 match r with
 | .ok (.ret u)=>CE outer P w H s Q u s'
 | .ok _=>False
 | .error e=>CX outer H s E e s'
structure aH(P:Y0)(w:Y7)(K:Yc)(mg:Yp->Option Yd)(base:YV)(CX:MN)(k:Nat)(f:Ye)(fd:YE)(ps:List Yp)(sp:Sp):Prop where
 len:∀vs H Q E,sp vs H Q E->vs.length=ps.length
 run:∀(A:uc) (outer:List ack) (s:Yn) (H:Hp) (args:Args) (us:List Yd) (vs:List V) (Q:VK) (E:XK),cZ k A->GQ P w K mg base A outer s H->afF s fd args (ps.zip us)->Vals vs us->sp vs H Q E->
  Gr (Yv P w) A (.call (.ref f) args) (CR CX outer P w H s Q E) s
theorem aH.mono{K:Yc}{base:YV}{f:Ye}(F:aH P w K mg base CX j f fd ps sp)(h:j<=k):
  aH P w K mg base CX k f fd ps sp:=⟨F.len,λA outer s H a us b Q E c=>F.run A outer s H a us b Q E (c.mono h)⟩
theorem GQ.make{K:Yc}{base:YV}(e:GQ P w K mg base A outer s H)(C:Ye)(us:List Yd)(a:List (Yp×Yd)):
  GQ P w K mg base (A.under (.builtin "type.__call__" ⟨.ref C::us,a⟩)) outer s H:=⟨by first|exact e.frames|(simpa [Around.under,Code.envs,agt,pushEnvs]using e.frames),e.mod,e.bs,e.bsz,e.funs,e.frf,e.hok,e.bare⟩
section
theorem aO.env0(I:aO X Za σ H s):GQ X.prog X.w X.K X.mg X.base X.A X.stack s H:=
 ⟨I.ok.frames,I.ok.mod,I.bs,ir I.ok.bsz I.sz,I.stack,I.stkFree,I.hok,I.bare⟩
theorem aO.after{Q:VK}(I:aO X Za σ H s)(h:CE X.stack X.prog X.w H s Q u s'):EP X Za σ Q u s':=by
 obtain⟨v,c,os,bare,un,hok,r,q⟩:=h;obtain⟨e,g,d,t,a⟩:=s';obtain rfl:a=s.os:=os;exact⟨v,c,I.call (h':=e) (g':=g) (d':=d) (t':=t) (ch:=[]) un hok bare (λb z=>absurd z (by simp)),r,q⟩
end
def IC(sp:Sp)(a:List V)(E:XK)(t:TA):TE:=λσ H Q=>t σ H λb c=>sp (b++a) c Q E
def RD(C:Ye)(m:Yp)(sp:Sp)(c:List V)(E:XK)(ta:TE)(t:TA):TE:=λσ H Q=>ta σ H λx b=>∃a d fs,x=.ref a/\b a=Ya (.ins C d fs)/\fs.lookup m=Yb/\
 t σ b λe f=>sp (x::(e++c)) f Q E
def Sb(C:Ye)(sp:Sp)(c:List V)(E:XK)(t:TA):TE:=λσ H Q=>t σ H λd b=>∀x a,b x=Yb->b a=Yb->a≠x->
 sp (.ref x::(d++c)) (upd (upd b a (.own x)) x (.ins C a [])) (λv e=>v=.non/\Q (.ref x) e) E
def Binds(K:Yc)(fd:YE)(ps:List Yp)(ds:List Yd):Prop:=
 ∀(s:Yn) (us:List Yd),K.In s.heap->(us++ds).length=ps.length->afF s fd ⟨us,[]⟩ (ps.zip (us++ds))
theorem Binds.all{K:Yc}(h:∀us:List Yd,us.length=ps.length->afX fd ⟨us,[]⟩=pure (ps.zip us)):Binds K fd ps []:=λs us _ hl=>by
 rw[Y1]at hl⊢;exact .of_eq (h us hl)
def sJ(CX:MN)(X:Cx)(E:XK):Prop:=∀(a:List (Ye×pe)) (σ:St) (H:Hp) (s:Yn) (e:Yd) (s':Yn),aO X a σ H s->CX X.stack H s E e s'->X.xe e s'
section
variable{f:Ye}{Zl:List V}{ds:List Yd}{E:XK}{o:cb}{t:TA}
theorem sW{Q:VK}(F:aH X.prog X.w X.K X.mg X.base CX k f fd ps sp)(c:cZ k X.A)(d:Binds X.K fd ps ds)(hd:Vals Zl ds)(g:sJ CX X E)(I:aO X Za σ H s)(r:Vals vs us)(h:sp (vs++Zl) H Q E):Ys (Yv X.prog X.w) X.A (call (.ref f) us) (EP X Za σ Q) X.xe s:=by
 have b:Vals (vs++Zl) (us++ds):=r.append hd;have hl:(us++ds).length=ps.length:=by rw[←b.length];exact F.len _ _ _ _ h
 refine adK (codeAny_mono (F.run X.A X.stack s H ⟨us,[]⟩ (us++ds) (vs++Zl) Q E c I.env0 (d s us I.kIn hl) b h) λr s' a=>?_);cases r with
 |error e=>exact g Za σ H s e s' I a
 |ok fl=>
  cases fl with
  |ret u=>exact I.after a
  |next=>exact aao a
  |brk=>exact aao a
  |cont=>exact aao a
theorem Qp(F:aH X.prog X.w X.K X.mg X.base CX k f fd ps sp)(d:cZ k X.A)(g:Gl X x)(hm:X.mg x=Ya (.ref f))(hk:abE X.K (.ref f)=true)(i:Binds X.K fd ps ds)(hd:Vals Zl ds)(j:sJ CX X E)
  (ha:PA X (e::es) t) (a:(x==("__debug__":Yp))=false:=by decide) (l:YW (e::es) X.env=(false,lr e X.env)::YW es X.env:=by rfl) (b:(aad pos (YW es X.env)).any (·.1)=false:=by rfl):
  PE X (.Call (.Name x p) (e::es) [] pos) (IC sp Zl E t):=by
 intro m s σ H Q I h;refine aaR (nP I g hm ?_ a);refine abK (h₀:=X.base) I.ok.mod.kin hk (cL (ha pos m s σ H _ I h) λus n ⟨o,u,c,r,q⟩=>⟨c.kIn,?_⟩) l b;exact sW F d i hd j c r q
theorem zt(d:PE X o ta)(c:A0 X.K C)(hm:bE X.K C m f)(F:aH X.prog X.w X.K X.mg X.base CX k f fd ps sp)(e:cZ k X.A)(g:Binds X.K fd ps ds)(hd:Vals Zl ds)(i:sJ CX X E)(j:lr (.Call (.Attribute o m Ze) [] [] pos) X.env=(do
   let ov←lr o X.env
   adA Ze.atName
   let (f,first)←acu [ov] (ac2 ov m pl)
   ad3 pos f first (aad pos (YW [] X.env)) (abl pos (aaC [] X.env))):=by rfl):
  PE X (.Call (.Attribute o m Ze) [] [] pos) (RD C m sp Zl E ta CQ):=by
 intro n s σ H Q I h;refine abg (pl:=pl) (cL (d n s σ H _ I h) λu v p=>?_) j;obtain⟨x,w,b,r,a,y,fs,ex,t,l,q⟩:=p;subst ex;obtain rfl:u=YH a:=r;refine jM b t c hm l ?_;exact agk (first:=[.ref a]) b.kIn hm.kp (sW (us:=[.ref a]) (vs:=[.ref a]) F e g hd i b (.cons rfl .nil) q)
structure Mk(K:Yc)(C f:Ye):Prop where
 makes:ahy K C=true
 init:gf K (.ref C) "__init__"=Ya (Ya (.ref f))
 fn:ags K (.ref f)=true
 kp:abE K (.ref C)=true
theorem LJ{Q:VK}(M:Mk X.K C f)(F:aH X.prog X.w X.K X.mg X.base CX k f fd ps sp)(g:cZ (k+ 1) X.A)(i:Binds X.K fd ps ds)(hd:Vals Zl ds)(j:sJ CX X E)(I:aO X Za σ H s)(r:Vals vs us)(h:∀x dx,H x=Yb->H dx=Yb->dx≠x->sp (.ref x::(vs++Zl)) (upd (upd H dx (.own x)) x (.ins C dx [])) (λv l=>v=.non/\Q (.ref x) l) E):
  Ys (Yv X.prog X.w) X.A (call (.ref C) us) (EP X Za σ Q) X.xe s:=by
 have c:=h (s.heap.objs.size+ 1) s.heap.objs.size (I.hok.fresh (aaU _)) (I.hok.fresh (Yl _)) (YN (abF _));have b:=aO.made (C:=C) I;have d:Vals (V.ref (s.heap.objs.size+ 1)::(vs++Zl)) (YH (s.heap.objs.size+ 1)::(us++ds)):=.cons rfl (r.append hd);have hl:(YH (s.heap.objs.size+ 1)::us++ds).length=ps.length:=by
  have e:=d.length;rw[F.len _ _ _ _ c]at e;exact e.symm
 refine adK (Nc (f:=f) I.kIn M.makes M.init (beq_iff_eq.mp M.fn) (codeAny_mono (F.run _ X.stack _ _ ⟨YH (s.heap.objs.size+ 1)::us,[]⟩ (YH (s.heap.objs.size+ 1)::(us++ds)) _ _ E (g.make C us [])
  (b.env0.make C us []) (i _ (YH (s.heap.objs.size+ 1)::us) b.kIn hl) d c) λr s' a=>?_))
 cases r with
 |error e=>exact j Za σ _ _ e s' b a
 |ok fl=>
  cases fl with
  |ret u=>
   obtain⟨v,m,n,o,p,q⟩:=b.after a;subst p;exact⟨o,⟨V.ref (s.heap.objs.size+ 1),m,n,rfl,q⟩⟩
  |next=>exact aao a
  |brk=>exact aao a
  |cont=>exact aao a
theorem ri(M:Mk X.K C f)(F:aH X.prog X.w X.K X.mg X.base CX k f fd ps sp)(d:cZ (k+ 1) X.A)(g:Gl X x)(hm:X.mg x=Ya (.ref C))(i:Binds X.K fd ps ds)(hd:Vals Zl ds)(j:sJ CX X E)
  (ha:PA X (e::es) t) (a:(x==("__debug__":Yp))=false:=by decide) (l:YW (e::es) X.env=(false,lr e X.env)::YW es X.env:=by rfl) (b:(aad pos (YW es X.env)).any (·.1)=false:=by rfl):
  PE X (.Call (.Name x p) (e::es) [] pos) (Sb C sp Zl E t):=by
 intro m s σ H Q I h;refine aaR (nP I g hm ?_ a);refine abK (h₀:=X.base) I.ok.mod.kin M.kp (cL (ha pos m s σ H _ I h) λus n ⟨o,u,c,r,q⟩=>⟨c.kIn,?_⟩) l b;exact LJ M F d i hd j c r q
end
def PK(X:Cx)(b:List adB)(t:TA):Prop:=
 ∀(pos:abz) (a:List (Ye×pe)) (s:Yn) (σ:St) (H:Hp) (Q:List V->Hp->Prop),aO X a σ H s->t σ H Q->Ys (Yv X.prog X.w) X.A (evalAll ((abl pos (aaC b X.env)).map (·.2))) (AP X a σ Q) X.xe s
section
variable{f:Ye}{ks:List Yp}{E:XK}{kpos:abz}{o:cb}{Zo:List adB}{t tk:TA}{nm:Option Yp}
theorem Th:PK X [] CQ:=λ_ _ _ _ H Q I h=>wpAny_evalAll_nil ⟨[],H,I,.nil,h⟩
theorem Qk(ha:PE X e te)(b:PK X Zo t):PK X (⟨nm,e,kpos⟩::Zo) (zu te t):=by
 intro pos a s σ H Q I h;show Ys _ _ (evalAll ((do let v←lr e X.env;adA pos;pure v)::(abl pos (aaC Zo X.env)).map (·.2))) _ _ s;refine wpAny_evalAll_cons (Yg (cL (ha a s σ H _ I h) λu c d=>?_));obtain⟨x,f,g,i,j⟩:=d;refine Yg (adu (Yt ?_));exact cL (b pos a c σ f _ g j) λus p ⟨k,l,m,n,o⟩=>⟨x::k,l,m,.cons i n,o⟩
variable{g:List Yd->List Yd->List Yd}{gV:List V->List V->List V}
end
structure aG(N P:List Yp)(sc:acb):Prop where
 kind:sc.kind=.function
 co:sc.isCoroutine=false
 gen:sc.isGenerator=false
 nd:N.Nodup
 pre:N.take P.length=P
 par:∀x∈P,sc.names.lookup x=Ya .local∨sc.names.lookup x=Ya .cell
 nofree:∀y∈sc.names,y.2≠.free
theorem Bm{kindOf:Yp->Option ady}{x:Yp}:∀{binds:List (Yp×Yd)} {m:Yp->Option Yd},(∀v,(x,v)∉binds)->afY kindOf binds m x=m x
 |[],_,_=>rfl
 |(n,v)::r,m,h=>by
  unfold afY;rw[Bm λw hw=>h w (Yo _ hw)];split
  ·have:x≠n:=by rintro rfl;exact h v Yu
   simp[this]
  ·rfl
theorem Bb{kindOf:Yp->Option ady}{x:Yp}:∀{binds:List (Yp×Yd)} {m:Yp->Option Yd},(∀v,(x,v)∉binds)->afZ kindOf binds m x=m x
 |[],_,_=>rfl
 |(n,v)::r,m,h=>by
  unfold afZ;rw[Bb λw hw=>h w (Yo _ hw)];split
  ·rfl
  ·have:x≠n:=by rintro rfl;exact h v Yu
   simp[this]
theorem Au{kindOf:Yp->Option ady}{x:Yp}{v:Yd}:∀{P:List Yp} {vs:List Yd} {i:Nat} {m:Yp->Option Yd},P.Nodup->P[i]?=Ya x->vs[i]?=Ya v->kindOf x=Ya .local->
  afY kindOf (P.zip vs) m x=Ya v
 |[],_,_,_,_,h,_,_=>by simp at h
 |_::_,[],_,_,_,_,h,_=>by simp at h
 |p::P,w::vs,0,m,nd,h1,h2,hk=>by
  simp at h1 h2;subst h1;subst h2;show afY kindOf ((p,w)::P.zip vs) m p=_;unfold afY;rw[Bm λv a=>(vc.mp nd).1 (abm a).1,if_pos hk];simp
 |p::P,w::vs,i+ 1,m,nd,h1,h2,hk=>by
  show afY kindOf ((p,w)::P.zip vs) m x=_;unfold afY;exact Au (i:=i) (vc.mp nd).2 (by simpa using h1) (by simpa using h2) hk
theorem AM{kindOf:Yp->Option ady}{x:Yp}{v:Yd}:∀{P:List Yp} {vs:List Yd} {i:Nat} {m:Yp->Option Yd},P.Nodup->P[i]?=Ya x->vs[i]?=Ya v->kindOf x≠Ya .local->
  afZ kindOf (P.zip vs) m x=Ya v
 |[],_,_,_,_,h,_,_=>by simp at h
 |_::_,[],_,_,_,_,h,_=>by simp at h
 |p::P,w::vs,0,m,nd,h1,h2,hk=>by
  simp at h1 h2;subst h1;subst h2;show afZ kindOf ((p,w)::P.zip vs) m p=_;unfold afZ;rw[Bb λv a=>(vc.mp nd).1 (abm a).1,if_neg hk];simp
 |p::P,w::vs,i+ 1,m,nd,h1,h2,hk=>by
  show afZ kindOf ((p,w)::P.zip vs) m x=_;unfold afZ;exact AM (i:=i) (vc.mp nd).2 (by simpa using h1) (by simpa using h2) hk
noncomputable def start(N:List Yp)(vs:List V):St:=vs.map Ya++ad5 (N.length-vs.length) Yb
noncomputable def oZ(CX:MN)(P:Y0)(w:Y7)(K:Yc)(mg:Yp->Option Yd)(base:YV)(N:List Yp)(c:Yp)(a:acb)(f:Ye)(d:Yd)(A:uc)(outer:List ack)(s:Yn)(H:Hp)(E:XK):Cx where
 prog:=P
 w:=w
 K:=K
 mg:=mg
 base:=base
 A:=A.deeper (acd c a s.heap.objs.size f d)
 N:=N
 s₀:=s
 H₀:=H
 env:=acd c a s.heap.objs.size f d
 outer:=outer
 stack:=acd c a s.heap.objs.size f d::outer
 ex:=[]
 calm:=true
 fn:=λ_=>true
 pn:=[]
 xe:=λe s'=>Ys (Yv P w) (A.deeper (acd c a s.heap.objs.size f d)) (leaving (acd c a s.heap.objs.size f d) e) (λ_ b=>CX outer H s E e b) (λg b=>CX outer H s E g b) s'
theorem Ed{sc:acb}(h:sc.names.lookup x=Ya .cell):∃c,(ah9 n sc.names []).lookup x=Ya c:=by
 have q:=afs sc.names n [] (.inl h);exact ac4.mp q
theorem Kq{K:Yc}{base:YV}{f:Ye}{m:Yd}{t:Yn}{E:XK}(S:aG N ps scope)(hd:A.handled=Yb)(d:GQ P w K mg base A outer s H)(hl:vs.length=ps.length)(r:Vals vs us)(x:InCallC s s.heap.objs.size (afY (acd Zb scope s.heap.objs.size f m).kindOf (ps.zip us) λ_=>Yb) (ah9 (s.heap.objs.size+ 1) scope.names []) (afZ (acd Zb scope s.heap.objs.size f m).kindOf (ps.zip us) λ_=>Yb) t):
  aO (oZ CX P w K mg base N Zb scope f m A outer s H E) [] (start N vs) H t:=by
 have C:ps.length<=N.length:=by have:=congrArg adn S.pre;rw[mr]at this;omega
 obtain⟨h1,tk,rfl,B⟩:=x.done;have g:∀b:Ye,b∉(oZ CX P w K mg base N Zb scope f m A outer s H E).ex:=λb z=>absurd (show b∈([]:List Ye)from z) (by simp);refine⟨⟨d.mod,S.kind,rfl,rfl,Yl _,λy z c h1 h2=>?_,λy j=>?_,λy c _ h=>?_,λ_=>hd,Around.frames_deeper d.frames,.inr ⟨rfl,rfl⟩,λb z=>absurd z (g b),d.bs,d.bsz,λb _ _=>g b,λb z=>absurd z (g b),d.funs,d.frf⟩,
  rfl,d.bare,Un.kept B,⟨_,x.toInCall.ns,λi y v h1 h2 h3=>?_⟩,λy c h=>⟨_,x.cell y c h⟩,d.hok.fresh (Yl _),λy c h=>?_,λp hp=>absurd (show p∈([]:List (Ye×pe))from hp) (by simp),d.hok.kept B,?_⟩
 ·exact name_of_addr x.apart (aaQ h1) (aaQ h2)
 ·have j:scope.names.lookup y=Ya .cell∨scope.names.lookup y=Ya .free:=j;rcases j with j|j
  ·exact Ed j
  ·exact absurd rfl (S.nofree _ (aaQ j))
 ·exact xl (x.above y c (aaQ h))
 ·have o:i<vs.length:=by
   unfold start at h2;by_cases o:i<vs.length
   ·exact o
   ·rw[aaH (by simpa using o)]at h2;rw[List.getElem?_replicate]at h2;split at h2<;>cases h2
  have ha:vs[i]?=Ya v:=by
   unfold start at h2;rw[aah (by simpa using o),Yy]at h2;cases e:vs[i]? with
   |none=>rw[e]at h2;cases h2
   |some a=>rw[e]at h2;cases h2;rfl
  obtain⟨u,hu,D⟩:=r.get ha;have hp:ps[i]?=Ya y:=by
   rw[←S.pre,List.getElem?_take_of_lt (by omega)];exact h1
  have l:ps.Nodup:=by rw[←S.pre];exact S.nd.sublist (aco _ _)
  refine⟨u,D,?_⟩;rcases S.par y (Yw hp)with k|k
  ·exact .inl ⟨k,Au l hp hu k⟩
  ·obtain⟨c,e⟩:=Ed (n:=s.heap.objs.size+ 1) k;refine .inr ⟨.inl k,c,e,?_⟩;have q:=x.cell y c e;rw[AM l hp hu (by show scope.names.lookup y≠_;rw[k];decide)]at q;exact q
 ·exact d.hok.fresh (xl (x.above y c (aaQ h)))
 ·unfold start;show _=N.length;rw[Yq,Yf,adC];omega
theorem L9{K:Yc}{base:YV}{f:Ye}{c:Arguments}{D kV h F a ct R:Yd}{G od:Option Ye}{m:Array (Option Yd)}(lk:K.lookup f=Ya ⟨R,od,.func (aaS name Zb c Zr scope D kV h F G a ct),m⟩)(p:ade K a Zb=true)(S:aG N ps scope)(len:∀vs H Q E,sp vs H Q E->vs.length=ps.length)(d:∀(A:uc) (outer:List ack) (s:Yn) (H:Hp) (vs:List V) (Q:VK) (E:XK),cZ k (A.deeper (acd Zb scope s.heap.objs.size f a))->sp vs H Q E->
   ∃t,CS (oZ CX P w K mg base N Zb scope f a A outer s H E) Zr t/\t {nx:=λ_ H'=>Q .non H',rt:=Q} (start N vs) H):
  aH P w K mg base CX (k+ 1) f (aaS name Zb c Zr scope D kV h F G a ct) ps sp:=by
 refine⟨len,λA outer s H L us vs Q E z i T r j=>?_⟩;have hl:=len _ _ _ _ j;have M:K.In s.heap:=i.mod.kin.keeps λb o e=>(i.bs b o e).1;have B:s.heap.NoLimit:=i.mod.nolimit.keeps λb o e=>(i.bs b o e).1;have g:∀y∈ps.zip us,scope.names.lookup y.1=Ya .local∨(scope.names.lookup y.1=Ya .cell/\((ah9 (s.heap.objs.size+ 1) scope.names []).lookup y.1).isSome=true):=fun⟨n,v⟩ U=>by
  rcases S.par n (abm U).1 with q|q
  ·exact .inl q
  ·exact .inr ⟨q,afs _ _ _ (.inl q)⟩
 refine codeAny_call_function z.depth (M _ _ lk) rfl S.co S.gen rfl (PySem.W.codeRec_of M p) (T _ _ _ _ ?_);refine wpAny_newFunctionEnv_cells S.kind g λenv W O x=>?_;subst W;refine⟨B.keeps x.toInCall.keep,codeAny_func ?_⟩;obtain⟨t,X,Y⟩:=d A outer s H vs Q E (z.deeper _) j;have I:aO (oZ CX P w K mg base N Zb scope f a A outer s H E) [] (start N vs) H O:=Kq S z.hd i hl r x;refine oh (X [] O (start N vs) H _ I Y) (λZ s' hs=>?_) λe s' hs=>hs;have fin:∀{l:St} {H':Hp} {v:V} {u:Yd},aO (oZ CX P w K mg base N Zb scope f a A outer s H E) [] l H' s'->RelV v u->Q v H'->CE outer P w H s Q u s':=
  fun{l H' v u} J C q=>⟨v,H',J.os,J.bare,J.base,J.hok,C,q⟩
 cases Z with
 |ret u=>
  obtain⟨v,l,H',J,C,q⟩:=hs;exact fin J C q
 |next=>
  obtain⟨l,H',J,q⟩:=hs;exact fin (v:=V.non) (u:=aaf) J rfl q
 |brk=>
  obtain⟨_,_,_,q⟩:=hs;exact aao q
 |cont=>
  obtain⟨_,_,_,q⟩:=hs;exact aao q
section
variable{t:TA}{id:String}{r:List V->Hp->VK->Prop}
def Xq(r:List V->Hp->VK->Prop)(t:TA):TE:=λσ H Q=>t σ H λa b=>r a b Q
theorem bH(d:dO X (.builtin id) r)(f:Gl X x)(hm:X.mg x=Yb)(g:abk x=Ya (.builtin id))(ha:PA X (e::es) t)(hn:x≠"__name__":=by decide)(a:(x==("__debug__":Yp))=false:=by decide)
  (i:YW (e::es) X.env=(false,lr e X.env)::YW es X.env:=by rfl) (b:(aad pos (YW es X.env)).any (·.1)=false:=by rfl):PE X (.Call (.Name x p) (e::es) [] pos) (Xq r t):=by
 intro c s σ H Q I h;refine aaR (qe I f hm g ?_ hn a);exact ahz (cL (ha pos c s σ H _ I h) λus j ⟨k,l,m,n,o⟩=>d c j σ l k us Q m n o) i b
theorem bZ(d:dO X (.type T) r)(f:Gl X x)(hm:X.mg x=Yb)(g:abk x=Ya (.type T))(ha:PA X (e::es) t)(hn:x≠"__name__":=by decide)(a:(x==("__debug__":Yp))=false:=by decide)
  (i:YW (e::es) X.env=(false,lr e X.env)::YW es X.env:=by rfl) (b:(aad pos (YW es X.env)).any (·.1)=false:=by rfl):PE X (.Call (.Name x p) (e::es) [] pos) (Xq r t):=by
 intro c s σ H Q I h;refine aaR (qe I f hm g ?_ hn a);exact acD (cL (ha pos c s σ H _ I h) λus j ⟨k,l,m,n,o⟩=>d c j σ l k us Q m n o) i b
end
section
variable{κ:Type}[DecidableEq κ]
noncomputable def eK(kvs:List (κ×V))(k:κ):Option V:=(kvs.find? λa=>decide (a.1=k)).map (·.2)
noncomputable def hJ(kvs:List (κ×V))(k:κ)(v:V):List (κ×V):=
 if(kvs.any λa=>decide (a.1=k))=true then kvs.map (λa=>if a.1=k then(a.1,v)else a)else kvs++[(k,v)]
theorem dM{p:κ×V}{r:List (κ×V)}{k:κ}(e:p.1=k):eK (p::r) k=Ya p.2:=by simp[eK,abR,e]
theorem dE{p:κ×V}{r:List (κ×V)}{k:κ}(e:¬ p.1=k):eK (p::r) k=eK r k:=by simp[eK,abR,e]
theorem qE(k:κ):∀kvs:List (κ×V),(kvs.any λa=>decide (a.1=k))=(eK kvs k).isSome
 |[]=>rfl
 |p::r=>by
  rw[aca];by_cases e:p.1=k
  ·simp only[dM e,decide_eq_true e,Bool.true_or,Option.isSome_some]
  ·rw[dE e,decide_eq_false e,aeo];exact qE k r
theorem DX(k j:κ)(y:V):∀kvs:List (κ×V),eK (kvs.map λa=>if a.1=k then(a.1,y)else a) j=(eK kvs j).map λx=>if j=k then y else x
 |[]=>rfl
 |p::r=>by
  have b:=DX k j y r;rw[YG];by_cases h:p.1=k
  ·rw[if_pos h];by_cases e:p.1=j
   ·rw[dM (p:=(p.1,y)) e,dM e,abS,if_pos (e.symm.trans h)]
   ·rw[dE (p:=(p.1,y)) e,dE e,b]
  ·rw[if_neg h];by_cases e:p.1=j
   ·rw[dM (p:=p) e,dM e,abS,if_neg (λz=>h (e.trans z))]
   ·rw[dE (p:=p) e,dE e,b]
theorem Bw(k j:κ)(y:V):∀kvs:List (κ×V),eK kvs k=Yb->eK (kvs++[(k,y)]) j=if j=k then Ya y else eK kvs j
 |[],_=>by
  by_cases e:k=j
  ·rw[if_pos e.symm];exact dM (p:=(k,y)) e
  ·rw[if_neg (λz=>e z.symm)];exact dE (p:=(k,y)) e
 |p::r,hn=>by
  rw[List.cons_append];have a:¬ p.1=k:=λz=>by rw[dM z]at hn;cases hn
  rw[dE a]at hn;have b:=Bw k j y r hn;by_cases e:p.1=j
  ·rw[dM e,dM e,if_neg (λz=>a (e.trans z))]
  ·rw[dE e,dE e,b]
theorem LO(kvs:List (κ×V))(k j:κ)(y:V):eK (hJ kvs k y) j=if j=k then Ya y else eK kvs j:=by
 unfold hJ;by_cases a:(kvs.any λb=>decide (b.1=k))=true
 ·rw[if_pos a,DX];rw[qE]at a;by_cases e:j=k
  ·obtain⟨x,c⟩:=ac4.mp a;rw[if_pos e,e,c,abS,if_pos rfl]
  ·rw[if_neg e];cases eK kvs j with
   |none=>rfl
   |some x=>rw[abS,if_neg e]
 ·rw[if_neg a];refine Bw k j y kvs ?_;rw[qE]at a;cases q:eK kvs k with
  |none=>rfl
  |some x=>rw[q]at a;exact(a rfl).elim
theorem qR(kvs:List (κ×V))(k:κ)(v:V):(hJ kvs k v).length<=kvs.length+ 1:=by
 unfold hJ;split
 ·rw[Yf];omega
 ·rw[Yq,gm,aa4];omega
theorem lX.isSome_eq{o:Option V}{u:Option Yd}(r:lX o u):o.isSome=u.isSome:=by
 cases o with
 |none=>cases u with
  |none=>rfl
  |some _=>exact(show False from r).elim
 |some _=>cases u with
  |none=>exact(show False from r).elim
  |some _=>rfl
theorem lX.getD{o:Option V}{u:Option Yd}{d':Yd}(r:lX o u)(rd:RelV d d'):RelV (o.getD d) (u.getD d'):=by
 cases o with
 |none=>cases u with
  |none=>exact rd
  |some _=>exact(show False from r).elim
 |some _=>cases u with
  |none=>exact(show False from r).elim
  |some _=>exact r
theorem KV.val{kvs:List (κ×V)}{vs:List (κ×Yd)}(r:KV kvs vs)(k:κ):lX (eK kvs k) (aeM vs k):=by
 unfold KV at r
 induction r with
 |nil=>exact aba
 |@cons p q ps qs h t ih=>
  obtain⟨h1,h2⟩:=h;by_cases e:p.1=k
  ·have a:q.1=k:=h1.symm.trans e;have b:aeM (q::qs) k=Ya q.2:=by simp[aeM,abR,a]
   rw[dM e,b];exact h2
  ·have a:¬ q.1=k:=λz=>e (h1.trans z);have b:aeM (q::qs) k=aeM qs k:=by simp[aeM,abR,a]
   rw[dE e,b];exact ih
theorem KV.any{kvs:List (κ×V)}{vs:List (κ×Yd)}(r:KV kvs vs)(k:κ):(kvs.any λa=>decide (a.1=k))=vs.any λa=>decide (a.1=k):=by
 unfold KV at r
 induction r with
 |nil=>rfl
 |cons h t ih=>rw[aca,aca,ih,h.1]
theorem KV.repl{kvs:List (κ×V)}{vs:List (κ×Yd)}(r:KV kvs vs)(k:κ)(b:RelV y u):
  KV (kvs.map λa=>if a.1=k then(a.1,y)else a) (vs.map λa=>if a.1=k then(a.1,u)else a):=by
 unfold KV at r⊢
 induction r with
 |nil=>exact .nil
 |@cons p q ps qs h t ih=>
  rw[YG,YG];refine .cons ?_ ih;obtain⟨h1,h2⟩:=h;by_cases e:p.1=k
  ·rw[if_pos e,if_pos (h1.symm.trans e)];exact⟨h1,b⟩
  ·rw[if_neg e,if_neg (λz=>e (h1.trans z))];exact⟨h1,h2⟩
theorem KV.put{kvs:List (κ×V)}{vs:List (κ×Yd)}(r:KV kvs vs)(k:κ)(a:RelV y u):KV (hJ kvs k y) (stored vs k u):=by
 unfold hJ stored;rw[r.any k];by_cases e:(vs.any λb=>decide (b.1=k))=true
 ·rw[if_pos e,if_pos e];exact r.repl k a
 ·rw[if_neg e,if_neg e];exact aiJ r ⟨rfl,a⟩
theorem KV.length{kvs:List (κ×V)}{vs:List (κ×Yd)}(r:KV kvs vs):kvs.length=vs.length:=Y2 r
end
theorem zT{k:bR}(r:RelV (kV k) u):(bf P w).is k u=true:=by
 cases k with
 |inl i=>obtain⟨t,e⟩:=(show∃t,u=abe i t from r);subst e;exact ph P w i t
 |inr x=>obtain⟨t,e⟩:=(show∃t,u=aff x t from r);subst e;exact EL P w x t
theorem AS{P:Y0}{w:Y7}:∀{ks:List bR} {us:List Yd},Vals (ks.map kV) us->ItemsAre (bf P w) ks us
 |[],_,r=>by rw[acw]at r;cases r;exact .nil
 |k::ks,_,r=>by
  rw[YG]at r;cases r with
  |cons h t=>exact .cons (zT h) (AS t)
abbrev KT(H:Hp):List (List bR×V)->List (List bR×Ye×Yd)->Prop:=YX λp q=>p.1=q.1/\H q.2.1=Ya (.tup (p.1.map kV))/\RelV p.2 q.2.2
theorem KT.val(r:KT H kvs xs)(k:List bR):lX (eK kvs k) ((aeH xs k).map (·.2)):=by
 induction r with
 |nil=>exact aba
 |@cons p q ps qs h t ih=>
  obtain⟨h1,_,h2⟩:=h;by_cases e:p.1=k
  ·have a:q.1=k:=h1.symm.trans e;have b:aeH (q::qs) k=Ya q.2:=by simp[aeH,abR,a]
   rw[dM e,b];exact h2
  ·have a:¬ q.1=k:=λz=>e (h1.trans z);have b:aeH (q::qs) k=aeH qs k:=by simp[aeH,abR,a]
   rw[dE e,b];exact ih
theorem KT.repl(r:KT H kvs xs)(k:List bR)(b:RelV y u):
  KT H (kvs.map λa=>if a.1=k then(a.1,y)else a) (xs.map (putAt k u)):=by
 induction r with
 |nil=>exact .nil
 |@cons p q ps qs h t ih=>
  rw[YG,YG];refine .cons ?_ ih;obtain⟨h1,h2,h3⟩:=h;unfold putAt;by_cases e:p.1=k
  ·rw[if_pos e,if_pos (h1.symm.trans e)];exact⟨h1,h2,b⟩
  ·rw[if_neg e,if_neg (λz=>e (h1.trans z))];exact⟨h1,h2,h3⟩
theorem KT.put(r:KT H kvs xs)(k:List bR)(c:H b=Ya (.tup (k.map kV)))(a:RelV y u):
  KT H (hJ kvs k y) (acx xs k b u):=by
 have e:(kvs.any λd=>decide (d.1=k))=(aeH xs k).isSome:=by
  rw[qE,(r.val k).isSome_eq,aeE]
 unfold hJ acx;rw[e];by_cases q:(aeH xs k).isSome=true
 ·rw[if_pos q,if_pos q];exact r.repl k a
 ·rw[if_neg q,if_neg q];exact aiJ r ⟨rfl,c,a⟩
theorem KT.keeps(r:KT H kvs xs)(a:∀b ys,H b=Ya (.tup ys)->H' b=Ya (.tup ys)):KT H' kvs xs:=
 YX.mapP r λ_ _ z=>⟨z.1,a _ _ z.2.1,z.2.2⟩
section
theorem RP{u:HO}(ok:mS P w H h)(e:Rd H a u):cD P w H h a u:=e.ok ok
theorem kR{kvs:List (bR×V)}(ok:mS P w H h)(e:Rd H a (.dK kvs)):kvs.length<=YB/\(a==aag)=false/\∃vs,KV kvs vs/\h.DictOf (bf P w) a vs:=
 show cD P w H h a (.dK kvs)from RP ok e
theorem HN{kvs:List (bR×V)}(ok:mS P w H h)(e:H a=Ya (.dK kvs)):kvs.length<=YB/\(a==aag)=false/\∃vs,KV kvs vs/\h.DictOf (bf P w) a vs:=kR ok (.inl e)
theorem key_of{ks:List bR}(ok:mS P w H h)(e:H a=Ya (.tup (ks.map kV))):(abf (bf P w)).is h ks a:=by
 obtain⟨_,b,r,o,h1,h2,n,h3⟩:=(show cD P w H h a (.tup (ks.map kV))from ok a _ e);exact⟨o,b.toArray,n,h1,h2,h3.1,by simpa using AS r⟩
theorem sr(ok:mS P w H h)(e:Rd H a (.dT kvs)):kvs.length<=YB/\(a==aag)=false/\
  ∃xs,KT H kvs xs/\h.DictOfH (abf (bf P w)) a xs:=by
 obtain⟨z,y,xs,r,o,c,d,h1,h2,h3,h4,h5⟩:=(show cD P w H h a (.dT kvs)from RP ok e);refine⟨z,y,xs,r,o,c,d,h1,h2,h3,h4,λx b=>?_,h5⟩;have all:∀{l:List (List bR×V)} {m:List (List bR×Ye×Yd)},KT H l m->∀x∈m,(abf (bf P w)).is h x.1 x.2.1:=by
  intro l m q
  induction q with
  |nil=>intro x b;exact nomatch b
  |@cons p q ps qs hq t ih=>
   intro x b;rcases Ym.mp b with e|b
   ·subst e;exact key_of ok (by rw[←hq.1];exact hq.2.1)
   ·exact ih x b
 exact all r x b
theorem Vm(ok:mS P w H h)(e:H a=Ya (.dT kvs)):kvs.length<=YB/\(a==aag)=false/\
  ∃xs,KT H kvs xs/\h.DictOfH (abf (bf P w)) a xs:=sr ok (.inl e)
end
def jc(H:Hp)(a:Ye)(y:V)(r:Option V):Prop:=
 (∃c k,Rd H a (.dK c)/\y=kV k/\r=eK c k)∨∃c k b,Rd H a (.dT c)/\y=.ref b/\H b=Ya (.tup (k.map kV))/\r=eK c k
def Ab(H:Hp)(a:Ye)(y v:V)(d:Hp):Prop:=
 (∃c k,H a=Ya (.dK c)/\y=kV k/\c.length<YB/\d=upd H a (.dK (hJ c k v)))∨
 ∃c k b,H a=Ya (.dT c)/\y=.ref b/\H b=Ya (.tup (k.map kV))/\c.length<YB/\d=upd H a (.dT (hJ c k v))
theorem jc.t{k:List bR}(e:H a=Ya (.dT kvs))(c:H b=Ya (.tup (k.map kV))):jc H a (.ref b) (eK kvs k):=.inr ⟨kvs,k,b,.inl e,rfl,c,rfl⟩
theorem Ab.t{k:List bR}(e:H a=Ya (.dT kvs))(c:H b=Ya (.tup (k.map kV)))(hl:kvs.length<YB):
  Ab H a (.ref b) v (upd H a (.dT (hJ kvs k v))):=.inr ⟨kvs,k,b,e,rfl,c,hl,rfl⟩
section
variable{r:Yd}{o:Option V}
theorem aO.big(I:aO X Za σ H s):aag<s.heap.objs.size:=by
 have h:cw<s.heap.objs.size:=(I.mod.glob.keeps I.bk).lt;exact aeR (by decide) h
theorem JR(hu:A.units+ 1<aax)(I:aO X Za σ H s)(g:jc H a y (Ya v))(m:RelV y u)(h:∀w' s',aO X Za σ H s'->RelV v w'->Q w' s'):
  Ys (Yv X.prog X.w) A (ad6 (.ref a) u) Q E s:=by
 rcases g with⟨f,k,e,i,l⟩|⟨f,k,b,e,i,n,l⟩
 ·subst i;obtain⟨z,hd,q,c,dd⟩:=kR I.hok e;obtain⟨w',hw,d⟩:=lX.some_of (v:=v) (o:=aeM q k) (by rw[l];exact c.val k);exact wpAny_getItem_of (zT m) dd.mapOf hw (h w' _ (I.tok _) d)
 ·subst i;cases (show u=YH b from m);obtain⟨z,hd,r,c,dd⟩:=sr I.hok e;obtain⟨w',hw,d⟩:=lX.some_of (v:=v) (o:=(aeH r k).map (·.2)) (by rw[l];exact c.val k);obtain⟨p,hp,j⟩:=aa7.mp hw;refine wpAny_getItem_heap (abL hu) (key_of I.hok n) dd hp ?_;rw[j];exact h w' _ (I.tok _) d
theorem Xt(hu:A.units+ 1<aax)(I:aO X Za σ H s)(g:jc H a y o)(i:RelV y u)(h:∀s',aO X Za σ H s'->Q (.bool o.isSome) s'):
  Ys (Yv X.prog X.w) A (aai .In u (.ref a)) Q E s:=by
 rcases g with⟨d,k,e,f,l⟩|⟨d,k,b,e,f,j,l⟩
 ·subst f;obtain⟨z,hd,m,c,dd⟩:=kR I.hok e;refine wpAny_in_of (zT i) hd dd.mapOf ?_;rw[←(c.val k).isSome_eq,←l];exact h _ (I.tok _)
 ·subst f;cases (show u=YH b from i);obtain⟨z,hd,n,c,dd⟩:=sr I.hok e;refine wpAny_in_heap (abL hu) (key_of I.hok j) hd dd ?_;have q:=(c.val k).isSome_eq;rw[aeE]at q;rw[←q,←l];exact h _ (I.tok _)
theorem Qm(hu:A.units+ 1<aax)(I:aO X Za σ H s)(g:jc H a y o)(i:RelV y u)(h:∀s',aO X Za σ H s'->Q (.bool (!o.isSome)) s'):
  Ys (Yv X.prog X.w) A (aai .NotIn u (.ref a)) Q E s:=by
 rcases g with⟨d,k,e,f,l⟩|⟨d,k,b,e,f,j,l⟩
 ·subst f;obtain⟨z,hd,m,c,dd⟩:=kR I.hok e;refine wpAny_notIn_of (zT i) hd dd.mapOf ?_;rw[←(c.val k).isSome_eq,←l];exact h _ (I.tok _)
 ·subst f;cases (show u=YH b from i);obtain⟨z,hd,n,c,dd⟩:=sr I.hok e;refine wpAny_notIn_heap (abL hu) (key_of I.hok j) hd dd ?_;have q:=(c.val k).isSome_eq;rw[aeE]at q;rw[←q,←l];exact h _ (I.tok _)
theorem IQ{ob:HO}(I:aO X Za σ H s)(mu:WW (H a))(hs:aan a s.heap h')(c:∃q,h'.get? a=Ya q)(new:cD X.prog X.w (upd H a ob) h' a ob):
  aO X Za σ (upd H a ob) {s with heap:=h',toks:=t'}:=
 I.write (x:=a) (e:=a) mu (.inl rfl) (λb q d z=>(hs.2 b d).trans z) c new
theorem Gn{kvs:List (bR×V)}{vs:List (bR×Yd)}(z:kvs.length<=YB)(hd:(a==aag)=false)(b:KV kvs vs)(dd:h'.DictOf (bf P w) a vs):
  cD P w H' h' a (.dK kvs):=⟨z,hd,vs,b,dd⟩
theorem JE{Q:Unit->Yn->Prop}(hu:A.units+ 1<aax)(I:aO X Za σ H s)(g:Ab H a y v H')(p:RelV y u)(t:RelV v r)(h:∀s',aO X Za σ H' s'->Q () s'):
  Ys (Yv X.prog X.w) A (setItem (.ref a) u r) Q E s:=by
 rcases g with⟨d,k,e,m,l,n⟩|⟨d,k,b,e,m,w,l,n⟩
 ·subst m n;obtain⟨z,hd,C,f,dd⟩:=HN I.hok e;have o:C.length<=YB:=by rw[←f.length];exact z
  have hl:(hJ d k v).length<=YB:=by have:=qR d k v;omega
  refine wpAny_setItem_pairs (hsz:=o) (zT p) dd λx i hs=>h _ ?_;have D:∃q,x.get? a=Ya q:=let ⟨q,_,_,j,_⟩:=i;⟨q,j⟩;exact IQ I (by rw[e];exact aba) hs D (Gn hl hd (f.put k t) i)
 ·subst m n;cases (show u=YH b from p);obtain⟨z,hd,F,f,dd⟩:=Vm I.hok e;have o:F.length<=YB:=by rw[←Y2 f];exact z
  have hl:(hJ d k v).length<=YB:=by have:=qR d k v;omega
  refine wpAny_setItem_heap (hsz:=o) (abL hu) (key_of I.hok w) dd λx i hs=>h _ ?_;obtain⟨q,G,J,j,h2,h3,h4,_,h5⟩:=i;refine IQ I (by rw[e];exact aba) hs ⟨q,j⟩ ⟨hl,hd,_,(f.put k w t).keeps λc K B=>?_,q,G,J,j,h2,h3,h4,h5⟩;rw[ak (bM B e (λz=>nomatch z))];exact B
end
section
variable{kvs:List (bR×V)}{k:bR}
theorem WC(I:aO X Za σ H s)(e:Rd H a (.dK kvs))(h:∀t s',aO X Za σ H s'->Q (.int kvs.length t) s'):Ys (Yv X.prog X.w) A (call (.builtin "len") [.ref a]) Q E s:=by
 obtain⟨z,hd,c,b,dd⟩:=kR I.hok e;refine call_len_dict hd dd (by rw[←b.length];rw[aaB]at z;omega) ?_;rw[←b.length];exact h _ _ (I.tok _)
end
def Wu(i:cb):Prop:=∀a b,aft i false a b=aiP [a,b] (ad6 a b)
theorem Rl{a:cb}{id:String}(hl:af0 (.type T) "__getitem__"=pure (Ya (.builtin id)))(hs:Wu a)(h:Ys (Yv prog w) A (lr Zg env) (λo d=>Ys (Yv prog w) A (lr a env) (λi b=>b.TypeIs o T/\Ys (Yv prog w) A (ad6 o i) Q E b) E d) E s):
  Ys (Yv prog w) A (lr (.Subscript Zg a pos) env) Q E s:=by
 refine ahA (oh h (λo d g=>oh g (λi b c=>?_) λ_ _ x=>x) λ_ _ x=>x);obtain⟨e,c⟩:=c;unfold age;refine Yg ?_;rw[getitemInPython_of_ne e.not_modules];refine Yg (ahB e hl ?_);have fin:Ys (Yv prog w) A (aft a false o i) (λr f=>Ys (Yv prog w) A (letTemporaryGo Zg o r >>= λ_=>pure r) Q E f) E b:=by
  rw[hs o i];exact wpAny_operating (oh c (λr f j=>Yg (wpAny_letTemporaryGo (Yt j))) λ_ _ x=>x)
 first
  |exact Yt (Yg fin)
  |exact Yg (Yt (Yg fin))
  |exact Yg fin
theorem EG{o:Option V}(I:aO X Za σ H s)(g:jc H a y o):s.TypeIs (.ref a) "dict":=by
 rcases g with⟨c,k,e,_,_⟩|⟨c,k,b,e,_,_,_⟩
 ·obtain⟨_,_,d,_,dd⟩:=kR I.hok e;exact dd.typeIs
 ·obtain⟨_,_,f,_,dd⟩:=sr I.hok e;exact dd.typeIs
def Rv(td ty:TE):TE:=λσ H Q=>td σ H λx c=>ty σ c λy b=>∃a v,x=.ref a/\jc b a y (Ya v)/\Q v b
def Xb(ty td:TE):TE:=λσ H Q=>ty σ H λy c=>td σ c λx b=>∃a o,x=.ref a/\jc b a y o/\Q (.bl o.isSome) b
def IK(ty td:TE):TE:=λσ H Q=>ty σ H λy c=>td σ c λx b=>∃a o,x=.ref a/\jc b a y o/\Q (.bl (!o.isSome)) b
def ID(td ty tv:TE):TS:=λD σ H=>tv σ H λv c=>td σ c λx d=>ty σ d λy e=>∃a b,x=.ref a/\Ab e a y v b/\D.nx σ b
section
variable{o i:cb}
theorem uV(hu:X.A.units+ 1<aax)(ho:PE X o td)(f:PE X i ty)(hs:Wu i):PE X (.Subscript o i pos) (Rv td ty):=by
 intro d s σ H Q I h;refine Rl PySem.F.slot_dict_getitem.lookup hs (cL (ho d s σ H _ I h) λu j b=>?_);obtain⟨x,k,l,m,n⟩:=b;refine cL (f d j σ k _ l n) λw z b=>?_;obtain⟨y,p,e,q,a,v,ex,g,r⟩:=b;subst ex;obtain rfl:u=YH a:=m;exact⟨EG e g,JR hu e g q λA B t c=>⟨v,p,t,c,r⟩⟩
theorem Lf(hu:X.A.units+ 1<aax)(d:PE X i ty)(ho:PE X o td):PC X .In i o (Xb ty td):=by
 intro c s σ H Q I h;refine cL (d c s σ H _ I h) λv e b=>?_;obtain⟨y,f,j,k,l⟩:=b;refine cL (ho c e σ f _ j l) λu w b=>?_;obtain⟨x,m,n,p,a,q,ex,g,r⟩:=b;subst ex;obtain rfl:u=YH a:=p;exact Xt hu n g k λz t=>⟨.bl q.isSome,m,t,rfl,r⟩
theorem JK(hu:X.A.units+ 1<aax)(d:PE X i ty)(ho:PE X o td):PC X .NotIn i o (IK ty td):=by
 intro c s σ H Q I h;refine cL (d c s σ H _ I h) λv e b=>?_;obtain⟨y,f,j,k,l⟩:=b;refine cL (ho c e σ f _ j l) λu w b=>?_;obtain⟨x,m,n,p,a,q,ex,g,r⟩:=b;subst ex;obtain rfl:u=YH a:=p;exact Qm hu n g k λz t=>⟨.bl (!q.isSome),m,t,rfl,r⟩
theorem q5(hu:X.A.units+ 1<aax)(ho:PE X o td)(d:PE X i ty)(e:PE X Zg tv)(hs:adz Zg (Ya (.Subscript o i Zq)) pos.line X.env=pure false):
  PS X (.Assign [.Subscript o i Zq] Zg pos) (ID td ty tv):=by
 intro c s σ H D I h;refine wpAny_Assign_Subscript (cL (e c s σ H _ I h) λr f b=>?_) hs;obtain⟨v,j,k,l,m⟩:=b;refine cL (ho c f σ j _ k m) λu n b=>?_;obtain⟨x,p,q,t,w⟩:=b;refine cL (d c n σ p _ q w) λF G b=>?_;obtain⟨y,J,z,A,a,B,ex,g,C⟩:=b;subst ex;obtain rfl:u=YH a:=t;exact JE hu z g A l λK E=>⟨σ,B,E,C⟩
end
theorem N0(h:YV)(a:aag<h.objs.size):cD P w H (h.push {cls:=.type "dict",data:=.dict #[]}) h.objs.size (.dK []):=
 ⟨cT _,beq_eq_false_iff_ne.mpr (Ne.symm (YN a)),[],.nil,Heap.DictOf.new h⟩
theorem Ow(h:YV)(a:aag<h.objs.size):cD P w H (h.push {cls:=.type "dict",data:=.dict #[]}) h.objs.size (.dT []):=
 ⟨cT _,beq_eq_false_iff_ne.mpr (Ne.symm (YN a)),[],.nil,_,#[],0,Yx _ rfl,⟨rfl,rfl,rfl⟩,rfl,rfl,ad7⟩
def LI:TE:=λ_ H Q=>∀p,H p=Yb->Q (.ref p) (upd H p (.dK []))
def UU:TE:=λ_ H Q=>∀p,H p=Yb->Q (.ref p) (upd H p (.dT []))
section
theorem qP:PE X (.Dict [] [] pos) LI:=λb s σ H Q I h=>
 ag7 ⟨.ref s.heap.objs.size,_,I.laid (a:=s.heap.objs.size) (o:=.dK []) (t':=s.toks) (λ_ _ q=>Yj _ q) (Yl _) (N0 s.heap I.big),rfl,h _ (I.hok.fresh (Yl _))⟩
theorem E6:PE X (.Dict [] [] pos) UU:=λb s σ H Q I h=>
 ag7 ⟨.ref s.heap.objs.size,_,I.laid (a:=s.heap.objs.size) (o:=.dT []) (t':=s.toks) (λ_ _ q=>Yj _ q) (Yl _) (Ow s.heap I.big),rfl,h _ (I.hok.fresh (Yl _))⟩
end
noncomputable def vB(kvs more:List (bR×V)):List (bR×V):=more.foldl (λa b=>hJ a b.1 b.2) kvs
theorem KV.merge:∀{more:List (bR×V)} {rs:List (bR×Yd)} {kvs:List (bR×V)} {vs:List (bR×Yd)},KV more rs->KV kvs vs->KV (vB kvs more) (aeS vs rs):=by
 intro more rs kvs vs r;unfold KV at r
 induction r generalizing kvs vs with
 |nil=>intro q;exact q
 |@cons p q ps qs h t ih=>
  intro a;have e:KV (hJ kvs p.1 p.2) (stored vs q.1 q.2):=by
   have:=a.put p.1 h.2;rw[←h.1];exact this
  exact ih e
structure M1(X:Cx)(o:cb)(m:Yp)(Ze:abz)(e:cb)(Zh:abz):Prop where
 base:abb o m X.env (lr o X.env)=lr o X.env
 few:((aad Zh (YW [e] X.env)).all (λx=>!x.1)&&(abl Zh (aaC [] X.env)).all (λx=>x.1.isSome)
  &&decide (([e]:List cb).length+ ([]:List adB).length+ (if([]:List adB).isEmpty then 0 else 1)<30))=true
 line:(Ze.endLine==Zh.line)=true
 trees:aad Zh (YW [e] X.env)=[(false,lr e X.env)]
structure M2(X:Cx)(o:cb)(m:Yp)(Ze:abz)(e f:cb)(Zh:abz):Prop where
 base:abb o m X.env (lr o X.env)=lr o X.env
 few:((aad Zh (YW [e,f] X.env)).all (λx=>!x.1)&&(abl Zh (aaC [] X.env)).all (λx=>x.1.isSome)
  &&decide (([e,f]:List cb).length+ ([]:List adB).length+ (if([]:List adB).isEmpty then 0 else 1)<30))=true
 line:(Ze.endLine==Zh.line)=true
 trees:aad Zh (YW [e,f] X.env)=[(false,lr e X.env),(false,lr f X.env)]
def Xn(H:Hp)(a:Ye):Prop:=(∃b,Rd H a (.dK b))∨∃b,Rd H a (.dT b)
theorem MV(I:aO X Za σ H s)(d:Xn H a):
  s.TypeIs (.ref a) "dict"/\(∀b,YH a=.ref b->∃ob,s.heap.get? b=Ya ob/\ob.dict=Yb)/\(a==aag)=false:=by
 rcases d with⟨c,e⟩|⟨c,e⟩
 ·obtain⟨_,hd,f,_,dd⟩:=kR I.hok e;refine⟨dd.typeIs,λb q=>?_,hd⟩;cases q;obtain⟨ob,_,_,h1,h2,_⟩:=dd;exact⟨ob,h1,h2.2.1⟩
 ·obtain⟨_,hd,g,_,dd⟩:=sr I.hok e;refine⟨dd.typeIs,λb q=>?_,hd⟩;cases q;obtain⟨ob,_,_,h1,h2,_⟩:=dd;exact⟨ob,h1,h2.2.1⟩
section
variable{r:Yd}{o:Option V}
theorem Ur(hu:A.units+ 1<aax)(I:aO X Za σ H s)(g:jc H a y o)(i:RelV y u)(h:∀w' s',aO X Za σ H s'->RelV (o.getD .non) w'->Q w' s'):
  Ys (Yv X.prog X.w) A (call (.builtin "dict.get") [.ref a,u]) Q E s:=by
 rcases g with⟨d,k,e,f,l⟩|⟨d,k,b,e,f,j,l⟩
 ·subst f;obtain⟨z,hd,n,c,dd⟩:=kR I.hok e;refine acy abh dd.typeIs acf (afa _ _) (meets_dict_get (bf X.prog X.w) a (zT i) hd) ⟨_,dd.mapOf,h _ _ (I.tok _) ?_⟩;rw[l];exact(c.val k).getD rfl
 ·subst f;cases (show u=YH b from i);obtain⟨z,hd,m,c,dd⟩:=sr I.hok e;refine acy abh dd.typeIs acf (afa _ _) (meetsH_dict_get (abf (bf X.prog X.w)) a b hd) ⟨abL hu,k,m,key_of I.hok j,dd,h _ _ (I.tok _) ?_⟩;rw[l];exact(c.val k).getD rfl
theorem TX(hu:A.units+ 1<aax)(I:aO X Za σ H s)(g:jc H a y o)(j:RelV y u)(rd:RelV d r)(h:∀w' s',aO X Za σ H s'->RelV (o.getD d) w'->Q w' s'):
  Ys (Yv X.prog X.w) A (call (.builtin "dict.get") [.ref a,u,r]) Q E s:=by
 rcases g with⟨f,k,e,i,l⟩|⟨f,k,b,e,i,m,l⟩
 ·subst i;obtain⟨z,hd,p,c,dd⟩:=kR I.hok e;refine acy abh dd.typeIs acf (afb _ _ _) (meets_dict_get_default (bf X.prog X.w) a (zT j) hd r) ⟨_,dd.mapOf,h _ _ (I.tok _) ?_⟩;rw[l];exact(c.val k).getD rd
 ·subst i;cases (show u=YH b from j);obtain⟨z,hd,n,c,dd⟩:=sr I.hok e;refine acy abh dd.typeIs acf (afb _ _ _) (meetsH_dict_get_default (abf (bf X.prog X.w)) a b hd r) ⟨abL hu,k,n,key_of I.hok m,dd,h _ _ (I.tok _) ?_⟩;rw[l];exact(c.val k).getD rd
end
def NQ(td ty:TE):TE:=λσ H Q=>td σ H λx b=>∃a,x=.ref a/\Xn b a/\ty σ b λy c=>∃o,jc c a y o/\Q (o.getD .non) c
def Um(td ty d:TE):TE:=λσ H Q=>td σ H λx b=>∃a,x=.ref a/\Xn b a/\ty σ b λy e=>d σ e λz c=>∃o,jc c a y o/\Q (o.getD z) c
section
variable{o f:cb}{Zh:abz}{tx:TE}
theorem Lz(hu:X.A.units+ 1<aax)(ho:PE X o td)(j:PE X e ty)(m:M1 X o "get" Ze e Zh):PE X (.Call (.Attribute o "get" Ze) [e] [] Zh) (NQ td ty):=by
 intro f s σ H Q I h;refine agP m.base m.few m.line aaE abh afG (cL (ho f s σ H _ I h) λu k b=>?_);obtain⟨x,l,i,n,a,ex,d,p⟩:=b;subst ex;obtain rfl:u=YH a:=n;obtain⟨q,r,_⟩:=MV i d;refine⟨q,r,?_⟩;rw[m.trees];refine aaM rfl (adL (ac3 (cL (j f k σ l _ i p) λB C b=>?_)));obtain⟨y,t,v,w,D,g,z⟩:=b;refine aeD ?_;exact Ur hu v g w λE F A c=>⟨_,t,A,c,z⟩
theorem Nv(hu:X.A.units+ 1<aax)(ho:PE X o td)(k:PE X e ty)(l:PE X f tx)(m:M2 X o "get" Ze e f Zh):PE X (.Call (.Attribute o "get" Ze) [e,f] [] Zh) (Um td ty tx):=by
 intro c s σ H Q I h;refine agP m.base m.few m.line aaE abh afG (cL (ho c s σ H _ I h) λu n b=>?_);obtain⟨x,p,j,q,a,ex,d,r⟩:=b;subst ex;obtain rfl:u=YH a:=q;obtain⟨t,v,_⟩:=MV j d;refine⟨t,v,?_⟩;rw[m.trees];refine aaM rfl (adL (ac3 (cL (k c n σ p _ j r) λL w b=>?_)));obtain⟨y,A,B,C,D⟩:=b;refine ac3 (cL (l c w σ A _ B D) λM N b=>?_);obtain⟨z,E,F,G,O,g,J⟩:=b;refine aeD ?_;exact TX hu F g C G λP R K i=>⟨_,E,K,i,J⟩
end
section
variable{kvs:List (bR×V)}
end
section
end
end L2
namespace HT
open PySem PyProof.Rows
variable{items:Array Yd}{Q:Yd->Yn->Prop}{sl:Ye}{vl vu:Yd}{hi:Option Int}
noncomputable def eJ:List Int->List Int->Bool
 |[],[]=>false
 |[],_::_=>true
 |_::_,[]=>false
 |x::xs,y::ys=>if x=y then eJ xs ys else decide (x<y)
theorem nr(x y:Int)(xs ys:List Int):eJ (x::xs) (y::ys)=if x=y then eJ xs ys else decide (x<y):=rfl
theorem Ad:eJ [] []=false:=rfl
theorem yA(y:Int)(ys:List Int):eJ [] (y::ys)=true:=rfl
theorem yY(x:Int)(xs:List Int):eJ (x::xs) []=false:=rfl
theorem MF(A:uc)(s:Yn)(a:Int)(t:acT)(c:Int)(u:acT):∃e,SeqAt.EqAt A s (.int a t) (.int c u) e/\(e=true↔a=c):=
 ⟨(a==c),SeqAt.EqAt.int_int a t c u,by simp⟩
theorem Ma(A:uc)(s:Yn)(a:Int)(t:acT)(c:Int)(u:acT)(prog:Y0)(w:Y7)(E:Yd->Yn->Prop)(Q:Yd->Yn->Prop)(h:Q (.bool (decide (a<c))) s):
  Ys (Yv prog w) A (afu .Lt (.int a t) (.int c u)) Q E s:=
 (ahr h:Ys (Yv prog w) A (aai .Lt (.int a t) (.int c u)) Q E s)
section
open PySem.SeqAt
open PySem.AutoSeq1 (wpAny_loadPart')
open PySem.MeetsSeq PySem.MeetsSeq2 PySem.MeetsSeq3
theorem Aa(l b:Ye)(items f:Array Yd)(n n2:Nat)(dd E:Option Ye)(L F:Array (Option Yd))(ns B:List Int)(H:xy items.toList ns)(I:xy f.toList B):
  acp (GV.«tuple.__lt__» ⟨[.ref l,.ref b],[]⟩)
   (λ_ R s=>s.heap.get? l=Ya {cls:=.type "tuple",dict:=dd,data:=.seq items n,slots:=L}/\s.heap.get? b=Ya {cls:=.type "tuple",dict:=E,data:=.seq f n2,slots:=F}/\
    R (.ok (.ret (.bool (eJ ns B)))) s):=
 .of_wp λprog w A R s h=>by
  obtain⟨hp,g,d,tk,os⟩:=s;obtain⟨hl,M,h⟩:=h;have O:=AutoSeq1.sub_tuple_tuple;have P:items.size=ns.length:=by rw[←H.length];simp
  have Q:f.size=B.length:=by rw[←I.length];simp
  wp_walk using ahC hl,ahC M,wpAny_forIn_list _ (λJ b s'=>b.1=Yb/\s'=⟨hp,g,d,tk,os⟩/\∃(C D:List Yd) (z j:List Int),J=C.zip D/\
   xy C z/\xy D j/\z.length+ f.size=j.length+ items.size/\R (.ok (.ret (.bool (eJ z j)))) ⟨hp,g,d,tk,os⟩) _
  case turn=>
   rintro⟨y,x⟩ J b s' ⟨r,rfl,C,D,z,j,k,v,m,i,o⟩;cases v with
   |nil=>rw[List.zip_nil_left]at k;cases k
   |cons a t hvi'=>
    cases m with
    |nil=>rw[List.zip_nil_right]at k;cases k
    |cons c u hwi'=>
     rw[aej]at k;injection k with hyx hrest;injection hyx with hy hx;subst hy hx;rw[nr]at o;simp only[gm]at i;obtain⟨e,N,p⟩:=MF A.in1 ⟨hp,g,d,tk,os⟩ a t c u;refine Yg (N prog w _ _ ?_);cases e with
     |true=>
      rw[if_pos (p.mp rfl)]at o
      wp_walk
      exact⟨rfl,rfl,_,_,_,_,hrest,hvi',hwi',by omega,o⟩
     |false=>
      rw[if_neg (λq=>absurd (p.mpr q) YZ)]at o;have G:=Ma A.in1 ⟨hp,g,d,tk,os⟩ a t c u prog w
      wp_walk using G
      exact⟨_,rfl,by simpa using o⟩
  case fin=>
   rintro⟨S,T⟩ s' ⟨r,rfl,C,D,z,j,k,v,m,i,o⟩;simp only at r;subst r;have K:eJ z j=decide (items.size<f.size):=by
    cases v with
    |nil=>
     cases m with
     |nil=>
      simp only[aa4]at i;rw[Ad];exact(decide_eq_false (by omega)).symm
     |cons c u hw=>
      simp only[aa4,gm]at i;rw[yA];exact(decide_eq_true (by omega)).symm
    |cons a t K=>
     cases m with
     |nil=>
      simp only[aa4,gm]at i;rw[yY];exact(decide_eq_false (by omega)).symm
     |cons c u hw=>
      rw[aej]at k;cases k
   rw[K]at o
   wp_walk
   exact⟨_,rfl,by simpa [ahs]using o⟩
  case h=>
   exact⟨rfl,rfl,items.toList,f.toList,ns,B,rfl,H,I,by omega,h⟩
end
section
variable{prog:Y0}{w:Y7}{A:uc}{E:Yd->Yn->Prop}{s:Yn}
theorem Gs{l b:Ye}{a:Array Yd}{ns c:List Int}(hl:ain s.heap l items)(o:ain s.heap b a)(p:xy items.toList ns)(q:xy a.toList c)(hu:A.units<aax)(h:Q (.bool (eJ ns c)) s):Ys (Yv prog w) A (aai .Lt (.ref l) (.ref b)) Q E s:=by
 obtain⟨⟨r,dd,j,t⟩,ho,k,n,hd⟩:=id hl;obtain⟨⟨m,g,data2,i⟩,d,e,n2,f⟩:=id o;simp only at k hd e f;subst k hd e f;exact richCompare_meets_room (op:=.Lt) ⟨_,ho,rfl⟩ ⟨_,d,rfl⟩ PySem.F.slot_tuple_lt PySem.F.entry_tuple_lt (PySem.F.args_tuple_lt_2 _ _) (Aa l b items a n n2 dd g t i ns c p q)
  ⟨ho,d,show acG (eJ ns c)≠Value.notImplemented/\Q (.bool (eJ ns c)) s from⟨(λx=>nomatch x),h⟩⟩ hu
noncomputable def f6(n d:Nat):Option Int->Nat
 |none=>d
 |some v=>if v<0 then(v+ (n:Int)).toNat else min v.toNat n
theorem SU(n d:Nat)(hd:d<=n)(o:Option Int):f6 n d o<=n:=by
 cases o with
 |none=>exact hd
 |some v=>
  show(if v<0 then(v+ (n:Int)).toNat else min v.toNat n)<=n;by_cases a:v<0
  ·rw[if_pos a];omega
  ·rw[if_neg a];exact Nat.min_le_right _ _
theorem Ik(v:Int)(n d:Nat):(if v<0 then max (v+ (n:Int)) 0 else min v (n:Int))=((f6 n d (Ya v):Nat):Int):=by
 show(if v<0 then max (v+ (n:Int)) 0 else min v (n:Int))=(((if v<0 then(v+ (n:Int)).toNat else min v.toNat n):Nat):Int);by_cases a:v<0
 ·simp only[if_pos a];omega
 ·simp only[if_neg a];omega
theorem G4(lo a:Option Int)(n:Nat):acV lo a 1 (n:Int)=(((f6 n 0 lo:Nat):Int),((f6 n n a:Nat):Int)):=by
 have h1:¬ ((1:Int)<0):=by omega
 unfold acV;simp only[h1,if_false];refine Prod.ext ?_ ?_
 ·cases lo with
  |none=>rfl
  |some v=>exact Ik v n 0
 ·cases a with
  |none=>rfl
  |some v=>exact Ik v n n
theorem G7(i j:Nat):abT (i:Int) (j:Int) 1=j-i:=by
 unfold abT;have h1:(1:Int)>0:=by omega
 simp only[h1,if_true,Int.ediv_one];split<;>omega
theorem yL{v:Yd}{o:Option Int}{Q:Option Int->Yn->Prop}(p:aeT v o)(h:Q o s):Ys (Yv prog w) A (ahU v) Q E s:=by
 cases p with
 |none=>exact ahV h
 |int i t=>exact slicePart_int h
theorem vC{lo:Option Int}{n:Nat}{Q:Int×Int×Nat->Yn->Prop}(hs:s.heap.IsSliceOf sl vl vu .none)(pl:aeT vl lo)(c:aeT vu hi)(h:Q (((f6 n 0 lo:Nat):Int),1,f6 n n hi-f6 n 0 lo) s):Ys (Yv prog w) A (aep (.ref sl) (pure (n:Int))) Q E s:=by
 obtain⟨os,a,d,b⟩:=id hs;unfold aep aio;refine Yg (Yg (ado a b (x:=vl) rfl (Yg (ado a b (x:=vu) rfl (Yg (ado a b (x:=.none) rfl (Yt ?_)))))));refine Yg (ahV ?_);show Ys _ _ (if((1:Int)==0)=true then _ else _) _ _ s;rw[if_neg (by decide)];refine Yg (yL pl (Yg (yL c (Yg (Yt ?_)))));show Ys _ _ (match acV lo hi 1 (n:Int)with|(lo,hi)=>pure (lo,(1:Int),abT lo hi 1)) _ _ s;rw[G4 lo hi n];show Ys _ _ (pure (((f6 n 0 lo:Nat):Int),(1:Int),abT ((f6 n 0 lo:Nat):Int) ((f6 n n hi:Nat):Int) 1)) _ _ s;rw[G7];exact Yt h
theorem Of(xs:Array Yd)(i k:Nat):((Y8 k).filterMap fun(m:Nat)=>xs[((i:Int)+ (m:Int)*1).toNat]?).toArray=((xs.toList.drop i).take k).toArray:=by
 have e:(fun(m:Nat)=>xs[((i:Int)+ (m:Int)*1).toNat]?)=λm=>xs[i+ m]?:=by
  funext m;have:((i:Int)+ (m:Int)*1).toNat=i+ m:=by omega
  rw[this]
 rw[e];have:=pick_run xs i k;rw[List.filterMap_map]at this;have a:((λx=>xs[x]?)∘λx=>i+ x)=λm=>xs[i+ m]?:=rfl;rw[a]at this;rw[this]
theorem tV{t:Ye}{lo:Option Int}(b:ain s.heap t items)(hs:s.heap.IsSliceOf sl vl vu .none)(pl:aeT vl lo)(g:aeT vu hi)(hw:¬ (f6 items.size 0 lo=0/\f6 items.size items.size hi=items.size))(h:Q (.ref s.heap.objs.size) {s with heap:=s.heap.push {cls:=.type "tuple",data:=.seq ((items.toList.drop (f6 items.size 0 lo)).take (f6 items.size items.size hi-f6 items.size 0 lo)).toArray}})(hsz:items.size<=YB):Ys (Yv prog w) A (ad6 (.ref t) (.ref sl)) Q E s:=by
 have a:sizeOk (.seq ((items.toList.drop (f6 items.size 0 lo)).take (f6 items.size items.size hi-f6 items.size 0 lo)).toArray):=by
  show((items.toList.drop (f6 items.size 0 lo)).take (f6 items.size items.size hi-f6 items.size 0 lo)).toArray.size<=YB;rw[YC,mr,abG,pk];omega
 have j:f6 items.size items.size hi<=items.size:=SU _ _ (Yl _) hi;obtain⟨os,c,d,i⟩:=id hs;have e:s.TypeIs (.ref sl) "slice":=⟨os,c,d⟩;unfold ad6
 try with_reducible refine aaI ?_
 first|refine Yg (Yt ?_)|skip
 refine Yg (wpAny_sequenceKey b.typeIs (by decide) ?_);refine Yg (abB (name:=aaa "__getitem__") b.typeIs abH
  (abd abH b.typeIs entry_tuple_getitem ?_ (args_tuple_getitem _ _)))
 show Ys _ _ (aih (.ref t) >>= _) _ _ s;refine Yg (tupleItemsOf_ b ?_);refine Yg (agu e ?_);rw[if_pos (by decide)];refine Yg (vC hs pl g ?_);have f:¬ ((((f6 items.size 0 lo:Nat):Int)==0&&(1:Int)==1&&(f6 items.size items.size hi-f6 items.size 0 lo)==items.size)=true):=by
  intro q;rw[aas,aas]at q;have k:((f6 items.size 0 lo:Nat):Int)=0:=eq_of_beq q.1.1;have l:f6 items.size items.size hi-f6 items.size 0 lo=items.size:=eq_of_beq q.2;exact hw ⟨by omega,by omega⟩
 show Ys _ _ (if(((f6 items.size 0 lo:Nat):Int)==0&&(1:Int)==1&&(f6 items.size items.size hi-f6 items.size 0 lo)==items.size)=true then _ else _) _ _ s;rw[if_neg f,Of]
 first
  |exact Yg (m:=abW _) (aay (Yt ⟨_,rfl,Yt h⟩) a)
  |exact Yg (m:=abW _) (aay (Yg (Yt (Yt ⟨_,rfl,Yt h⟩))) a)
  |exact Yg (Yg (m:=abW _) (aay (Yt (Yt ⟨_,rfl,Yt h⟩)) a))
  |exact Yg (Yg (m:=abW _) (aay (Yt ⟨_,rfl,Yt h⟩) a))
end
end HT
namespace L2
open PySem PySem.Spec PyProof.Rows
variable{X:Cx}{e:cb}{pos:abz}{n j t':Nat}{i:Int}{r:R2}{Za:List (Ye×pe)}{σ:St}{H:Hp}{s:Yn}{T:String}{its:List Yd}
abbrev TO:=St->Hp->(Option Int->Hp->Prop)->Prop
def PO(X:Cx)(e:Option cb)(t:TO):Prop:=
 ∀(a:List (Ye×pe)) (s:Yn) (σ:St) (H:Hp) (Q:Option Int->Hp->Prop),aO X a σ H s->t σ H Q->
  Ys (Yv X.prog X.w) X.A (evalPart e X.env) (λu s'=>∃o b,aO X a σ b s'/\aeT u o/\Q o b) X.xe s
def HE:TO:=λ_ H Q=>Q Yb H
def RH(t:TE):TO:=λσ H Q=>t σ H λx a=>∃i,x=.int i/\Q (Ya i) a
theorem jH{ns:List Int}:∀{us:List Yd},Vals (ns.map V.int) us->xy us ns:=by
 induction ns with
 |nil=>intro us r;rw[acw]at r;cases r;exact .nil
 |cons n ns ih=>
  intro us r;rw[YG]at r;cases r with
  |cons r1 r2=>
   obtain⟨t,e⟩:=r1;subst e;exact .cons n t (ih r2)
section
variable{te:TE}{lo hi:Option cb}{tl th:TO}{p2:abz}
theorem iD:PO X Yb HE:=by
 intro a s σ H Q I h;rw[aii];exact Yt ⟨Yb,H,I,.none,h⟩
theorem iO(h:PE X e te):PO X (Ya e) (RH te):=by
 intro a s σ H Q I hw;rw[evalPart_some];refine cL (h a s σ H _ I hw) λu j b=>?_;obtain⟨x,c,d,f,g⟩:=b;obtain⟨i,rfl,q⟩:=g;obtain⟨t,rfl⟩:=f;exact⟨Ya i,c,d,.int i t,q⟩
def Vo(X:Cx)(r:V->Option Int->Option Int->Hp->VK->Prop):Prop:=
 ∀(a:List (Ye×pe)) (s:Yn) (σ:St) (H:Hp) (x:V) (v b c:Yd) (lo d:Option Int) (e:Ye) (Q:VK),aO X a σ H s->RelV x v->s.heap.IsSliceOf e b c .none->aeT b lo->aeT c d->r x lo d H Q->
  ∃T id,af0 (.type T) "__getitem__"=pure (Ya (.builtin id))/\s.TypeIs v T/\Ys (Yv X.prog X.w) X.A (ad6 v (.ref e)) (EP X a σ Q) X.xe s
def X4(r:V->Option Int->Option Int->Hp->VK->Prop)(a:TE)(tl b:TO):TE:=λσ H Q=>a σ H λx c=>tl σ c λl d=>b σ d λu e=>r x l u e Q
theorem fN{r:V->Option Int->Option Int->Hp->VK->Prop}(j:Vo X r)(k:PE X e te)(hl:PO X lo tl)(hu:PO X hi th):PE X (.Subscript e (.Slice lo hi Yb p2) pos) (X4 r te tl th):=by
 intro c s σ H Q I h;refine ahA (cL (k c s σ H _ I h) λv m d=>?_);obtain⟨x,n,o,p,t⟩:=d;refine wpAny_Slice (cL (hl c m σ n _ o t) λf w d=>?_);obtain⟨l,y,z,A,B⟩:=d;refine cL (hu c w σ y _ z B) λg a d=>?_;obtain⟨u,i,C,D,E⟩:=d;rw[aii];refine Yt ?_;have F:aO X c σ i {a with heap:=a.heap.push {cls:=.type "slice",data:=.fields #[f,g,.none]}}:=C.kept (t':=a.toks) λb ob q=>Yj _ q;obtain⟨T,id,G,J,K⟩:=j c {a with heap:=a.heap.push {cls:=.type "slice",data:=.fields #[f,g,.none]}} σ i x v f g l u a.heap.objs.size Q F p (Heap.IsSliceOf.new ..) A D E;show Ys (Yv X.prog X.w) X.A (age e (.Slice lo hi Yb p2) v (.ref a.heap.objs.size)) (EP X c σ Q) X.xe {a with heap:=a.heap.push {cls:=.type "slice",data:=.fields #[f,g,.none]}};exact tail_any (ops:=[.ref a.heap.objs.size,v]) J G K (by with_unfolding_all rfl)
noncomputable def uY(xs:List V)(lo a:Option Int):List V:=(xs.drop (HT.f6 xs.length 0 lo)).take (HT.f6 xs.length xs.length a-HT.f6 xs.length 0 lo)
theorem wB(xs:List V)(lo a:Option Int):(uY xs lo a).length<=xs.length:=by
 unfold uY;rw[mr,abG];omega
def Qy(K:Yc):V->Option Int->Option Int->Hp->VK->Prop:=λx lo c H Q=>∃a b,x=.ref a/\bJ K H a b/\
 ¬ (HT.f6 b.length 0 lo=0/\HT.f6 b.length b.length c=b.length)/\∀p,H p=Yb->Q (.ref p) (upd H p (.tup (uY b lo c)))
theorem SS:Vo X (Qy X.K):=by
 intro n s σ H x v p t lo e u Q I j hs k l h;obtain⟨a,d,rfl,m,hw,q⟩:=h;cases j;obtain⟨f,r,g,i⟩:=I.tuple m;have c:f.toArray.size=d.length:=by rw[YC];exact r.length.symm
 refine⟨"tuple",_,abH.lookup,g.typeIs,?_⟩;refine HT.tV g hs k l (by rw[c];exact hw) ?_ (by rw[c];exact i);rw[c];refine⟨.ref s.heap.objs.size,_,I.laid (t':=s.toks) (o:=.tup (uY d lo e)) (λb ob q=>Yj _ q) (Yl _) ?_,rfl,q _ (I.hok.fresh (Yl _))⟩;exact⟨ir (wB d lo e) i,_,(r.drop (HT.f6 d.length 0 lo)).take (HT.f6 d.length d.length e-HT.f6 d.length 0 lo),mO.new _ _⟩
end
noncomputable def Vb(n:Nat)(i:Int):Option Nat:=if 0<=i then(if i<n then Ya i.toNat else Yb)else if-(n:Int)<=i then Ya (i+ n).toNat else Yb
noncomputable def uZ{α:Type}(xs:List α)(i:Int):Option α:=(Vb xs.length i).bind λj=>xs[j]?
theorem Pk(h:Vb n i=Ya j):seqIndex? i n=Ya j/\j<n/\-(n:Int)<=i/\i<n:=by
 unfold Vb at h;by_cases h0:0<=i
 ·rw[if_pos h0]at h;by_cases h1:i<n
  ·rw[if_pos h1]at h;have e:i.toNat=j:=YF h;exact⟨by rw[seqIndex_of h0 h1,e],by omega,by omega,h1⟩
  ·rw[if_neg h1]at h;cases h
 ·rw[if_neg h0]at h;by_cases h1:-(n:Int)<=i
  ·rw[if_pos h1]at h;have e:(i+ n).toNat=j:=YF h;exact⟨by rw[ais (by omega) h1,e],by omega,h1,by omega⟩
  ·rw[if_neg h1]at h;cases h
theorem BQ{α:Type}{xs:List α}{v:α}(h:uZ xs i=Ya v):∃j,seqIndex? i xs.length=Ya j/\xs[j]?=Ya v/\j<xs.length/\-(xs.length:Int)<=i/\i<xs.length:=by
 unfold uZ at h;cases e:Vb xs.length i with
 |none=>rw[e]at h;cases h
 |some j=>
  rw[e]at h;obtain⟨h1,h2,h3,h4⟩:=Pk e;exact⟨j,h1,h,h2,h3,h4⟩
theorem cG{α:Type}{xs:List α}{v:α}(h:xs[j]?=Ya v):uZ xs (j:Int)=Ya v:=by
 have a:j<xs.length:=(Yh.mp h).1;have e:Vb xs.length (j:Int)=Ya j:=by
  unfold Vb;rw[if_pos (by omega),if_pos (by omega)];simp
 unfold uZ;rw[e];exact h
def OS(b:cb):Prop:=∀o i,aft b false o i=aiP [o,i] (ad6 o i)
def KQ(X:Cx)(r:R2):Prop:=
 ∀(c a:cb) (b:List (Ye×pe)) (s:Yn) (σ:St) (H:Hp) (x y:V) (v u:Yd) (Q:VK),aO X b σ H s->RelV x v->RelV y u->r x y H Q->
  aft a false v u=aiP [v,u] (ad6 v u)->Ys (Yv X.prog X.w) X.A (age c a v u) (EP X b σ Q) X.xe s
def Ww(X:Cx)(id:String)(r:V->List V->Hp->VK->Prop):Prop:=
 ∀(a:List (Ye×pe)) (s:Yn) (σ:St) (H:Hp) (x:V) (b:List V) (v:Yd) (us:List Yd) (Q:VK),aO X a σ H s->RelV x v->Vals b us->r x b H Q->
  Ys (Yv X.prog X.w) X.A (call (.builtin id) (v::us)) (EP X a σ Q) X.xe s
section
variable{a b:cb}{ta tb:TE}
theorem KQ.or{b:R2}(h:KQ X r)(h':KQ X b):KQ X (λx y H Q=>r x y H Q∨b x y H Q):=by
 intro c a d s σ H x y v u Q I e f q hs;rcases q with q|q
 ·exact h c a d s σ H x y v u Q I e f q hs
 ·exact h' c a d s σ H x y v u Q I e f q hs
theorem bB(c:KQ X r)(ha:PE X a ta)(d:PE X b tb)(hs:OS b):PE X (.Subscript a b pos) (Vc r ta tb):=by
 intro e s σ H Q I h;exact ahA (Tu ha d I h λv u f x y g i j k q=>c a b e f σ g x y v u Q i j k q (hs _ _))
def QZ(K:Yc):R2:=λx y H Q=>∃p a i v,x=.ref p/\y=.int i/\a9 K H p a/\uZ a i=Ya v/\Q v H
def Qd(K:Yc):R2:=λx y H Q=>∃p a i v,x=.ref p/\y=.int i/\bJ K H p a/\uZ a i=Ya v/\Q v H
def Vz:R2:=λx y H Q=>∃z i c,x=.str z/\y=.int i/\z.length<=YB/\uZ z.cps.toList i=Ya c/\Q (.str ⟨#[c]⟩) H
theorem Iu:KQ X (QZ X.K):=by
 intro o a f s σ H x y v u Q I k l h hs;obtain⟨p,A,i,z,rfl,rfl,m,n,q⟩:=h;cases k;obtain⟨t,rfl⟩:=l;obtain⟨b,r,c,B⟩:=I.list m;obtain⟨j,h1,h2,h3,h4,h5⟩:=BQ n;obtain⟨w,g,d⟩:=r.get h2;have hl:=r.length;have hn:=zP;have fin:EP X f σ Q w s:=⟨z,H,I,d,q⟩;by_cases h0:0<=i
 ·have e:i.toNat=j:=by
   rw[seqIndex_of h0 h5]at h1;exact YF h1
  exact item_listR c.isList h0 (by omega) (by rw[e];simpa using g) fin hs
 ·have e:(i+ (b.toArray.size:Int)).toNat=j:=by
   rw[ais (by omega) h4]at h1;rw[YC,←hl];exact YF h1
  exact afv (x:=w) c.isList.typeIs agQ.lookup
   (wpAny_getItem_list_neg (Q:=λr s'=>r=w/\EP X f σ Q r s') c.isList (by omega) (by rw[YC]<;>omega) (by omega) (by rw[e];simpa using g) ⟨rfl,fin⟩) hs
theorem LL:KQ X (Qd X.K):=by
 intro n a c s σ H x y v u Q I e f h hs;obtain⟨p,o,i,z,rfl,rfl,g,k,q⟩:=h;cases e;obtain⟨t,rfl⟩:=f;obtain⟨l,r,d,A⟩:=I.tuple g;obtain⟨j,h1,h2,h3,h4,h5⟩:=BQ k;obtain⟨w,m,b⟩:=r.get h2;have hl:=r.length;have hn:=zP;have fin:EP X c σ Q w s:=⟨z,H,I,b,q⟩;exact afv (x:=w) d.typeIs abH.lookup
  (getItem_tuple (j:=j) (Q:=λr s'=>r=w/\EP X c σ Q r s') d (by omega) (by omega) (by rw[YC,←hl];exact h1) (by simpa using m) ⟨rfl,fin⟩) hs
theorem Su:KQ X Vz:=by
 intro k a l s σ H x y v u Q I b d h hs;obtain⟨z,i,c,rfl,rfl,m,e,q⟩:=h;obtain⟨t,rfl⟩:=b;obtain⟨n,rfl⟩:=d;obtain⟨j,h1,h2,h3,h4,h5⟩:=BQ e;have hl:z.cps.toList.length=z.length:=by simp[Str.length]
 rw[hl]at h1 h4 h5;have hn:=zP;exact tail_any (typeIs_str s z t) slot_str_getitem.lookup (getItem_str (c:=c) (by
  have f:decide (i< -(2^63:Int))=false:=decide_eq_false (by omega);have g:decide (i≥2^63)=false:=decide_eq_false (by omega);rw[f,g,agf]) (by rw[h1];simpa using h2) ⟨.str ⟨#[c]⟩,H,I.tok _,⟨_,rfl⟩,q⟩) hs
def XN(K:Yc):R2:=λx y H Q=>QZ K x y H Q∨Qd K x y H Q∨Vz x y H Q
theorem Tp:KQ X (XN X.K):=Iu.or (LL.or Su)
theorem B4(lo a:Option Int)(n:Nat):(acO lo a Yb n).1=((HT.f6 n 0 lo:Nat):Int)/\(acO lo a Yb n).2.1=((HT.f6 n n a:Nat):Int)/\(acO lo a Yb n).2.2=1:=by
 refine⟨?_,?_,rfl⟩
 ·cases lo with
  |none=>simp[acO,HT.f6]
  |some i=>
   simp only[acO,HT.f6,aeU,show(1:Int)>0 by decide,if_true];by_cases h:i<0
   ·simp only[h,if_true]<;>omega
   ·simp only[h,if_false]<;>omega
 ·cases a with
  |none=>simp[acO,HT.f6]
  |some i=>
   simp only[acO,HT.f6,aeU,show(1:Int)>0 by decide,if_true];by_cases h:i<0
   ·simp only[h,if_true]<;>omega
   ·simp only[h,if_false]<;>omega
theorem Ah(its:List Yd)(lo a:Option Int):slicePick its.toArray lo a Yb=((its.drop (HT.f6 its.length 0 lo)).take (HT.f6 its.length its.length a-HT.f6 its.length 0 lo)).toArray:=by
 obtain⟨h1,h2,h3⟩:=B4 lo a its.toArray.size;unfold slicePick;rw[h1,h2,h3];simp only[sliceRange_one,pick_run,YC]<;>rfl
def Uz(K:Yc):V->Option Int->Option Int->Hp->VK->Prop:=λx lo c H Q=>∃a b,x=.ref a/\a9 K H a b/\∀p,H p=Yb->Q (.ref p) (upd H p (.lst (uY b lo c)))
theorem QC:Vo X (Uz X.K):=by
 intro n s σ H x v p t lo e u Q I g hs i j h;obtain⟨a,c,rfl,k,q⟩:=h;cases g;obtain⟨l,r,f,m⟩:=I.list k;have d:=r.length;refine⟨"list",_,agQ.lookup,f.isList.typeIs,?_⟩;refine wpAny_getItem_list_slice f.isList hs i j .none (by simp) ?_ (by rw[YC]<;>omega);rw[Ah,←d];refine⟨.ref s.heap.objs.size,_,I.laid (t':=s.toks) (o:=.lst (uY c lo e)) (λb ob q=>Yj _ q) (Yl _) ?_,rfl,q _ (I.hok.fresh (Yl _))⟩;exact⟨ir (wB c lo e) m,_,0,(r.drop (HT.f6 c.length 0 lo)).take (HT.f6 c.length c.length e-HT.f6 c.length 0 lo),Yx _ rfl⟩
theorem BJ:dO X (.builtin "len") (λxs H Q=>∃p ys,xs=[.ref p]/\(a9 X.K H p ys∨bJ X.K H p ys)/\Q (.int ys.length) H):=by
 intro i s σ H xs us Q I r h;obtain⟨p,ys,rfl,b,q⟩:=h;obtain⟨u,rfl,f⟩:=fG r;cases f;have hn:=zP;rcases b with b|b
 ·obtain⟨c,d,e,g⟩:=I.list b;have a:=d.length;exact Calls.call_len_list e.isList (by simp only[YC]<;>omega) ⟨.int ys.length,H,I.tok _,⟨s.toks+ 1,by rw[YC,a]⟩,q⟩
 ·obtain⟨c,d,e,g⟩:=I.tuple b;have a:=d.length;exact len_tuple e (by simp only[YC]<;>omega) ⟨.int ys.length,H,I.tok _,⟨s.toks+ 1,by rw[YC,a]⟩,q⟩
theorem B7:dO X (.type "list") (λxs H Q=>∃p ys,xs=[.ref p]/\(a9 X.K H p ys∨bJ X.K H p ys)/\∀l,H l=Yb->Q (.ref l) (upd H l (.lst ys))):=by
 intro v s σ H xs us Q I r h;obtain⟨p,ys,rfl,g,q⟩:=h;obtain⟨u,rfl,w⟩:=fG r;cases w;have fin:∀(a:List Yd),Vals ys a->ys.length<=YB->∀(c:YV) (d:Nat),(∀b t,s.heap.get? b=Ya t->c.get? b=Ya t)->
   c.get? s.heap.objs.size=Ya {cls:=.type "list",dict:=Yb,data:=.seq a.toArray d,slots:=#[]}->EP X v σ Q (.ref s.heap.objs.size) {s with heap:=c}:=λa f i c d kp e=>
  ⟨.ref s.heap.objs.size,_,I.laid (t':=s.toks) kp (Yl _) (show cD X.prog X.w _ c _ (.lst ys)from⟨i,a,d,f,e⟩),rfl,q _ (I.hok.fresh (Yl _))⟩
 rcases g with g|g
 ·obtain⟨a,f,k,i⟩:=I.list g;have j:=f.length;obtain⟨o,ho,m,n,hd⟩:=k.isList;exact aij p (.inl rfl) ho m hd (λc d kp e=>fin a f i c d kp e) (by simp only[YC]<;>omega)
 ·obtain⟨a,f,k,i⟩:=I.tuple g;have j:=f.length;obtain⟨o,ho,m,n,hd⟩:=k;exact aij p (.inr rfl) ho m hd (λc d kp e=>fin a f i c d kp e) (by simp only[YC]<;>omega)
theorem Al:dO X (.type "tuple") (λxs H Q=>∃p ys,xs=[.ref p]/\((a9 X.K H p ys/\∀l,H l=Yb->Q (.ref l) (upd H l (.tup ys)))∨(bJ X.K H p ys/\Q (.ref p) H))):=by
 intro i s σ H xs us Q I r h;obtain⟨p,ys,rfl,h⟩:=h;obtain⟨u,rfl,n⟩:=fG r;cases n;rcases h with⟨d,q⟩|⟨d,q⟩
 ·obtain⟨a,f,g,j⟩:=I.list d;have k:=f.length;refine call_tuple_list g.isList (λc kp=>?_) (by simp only[YC]<;>omega);have m:aO X i σ H {s with heap:=c}:=I.kept (t':=s.toks) kp;have t:aO X i σ (upd H c.objs.size (.tup ys)) {s with heap:=c.push {cls:=.type "tuple",data:=.seq a.toArray}}:=
   m.laid (t':=s.toks) (λb o e=>Yj _ e) (Yl _) (show cD X.prog X.w _ _ _ (.tup ys)from⟨j,a,f,mO.new _ _⟩)
  exact⟨.ref c.objs.size,_,t,rfl,q _ (m.hok.fresh (Yl _))⟩
 ·obtain⟨a,f,g,j⟩:=I.tuple d;exact call_tuple_same g ⟨.ref p,H,I,rfl,q⟩
def Uy(K:Yc)(T:String)(x:V)(H:Hp):Prop:=match x with
 | .str _=>T="str"
 | .int _=>T="int"
 | .ref p=>(T="list"/\∃b,a9 K H p b)∨(T="tuple"/\∃o,K.lookup p=Ya o/\o.cls=.type "tuple"/\o.dict=Yb)∨
   (T="dict"/\((∃a,H p=Ya (.dK a))∨∃a,H p=Ya (.dT a)))∨(T="set"/\∃S n,H p=Ya (.set S n))
 |_=>False
theorem vI{x:V}{v:Yd}(I:aO X Za σ H s)(r:RelV x v)(ty:Uy X.K T x H):
  s.TypeIs v T/\∀a,v=.ref a->∃ob,s.heap.get? a=Ya ob/\ob.dict=none:=by
 cases x with
 |str z=>
  obtain⟨t,rfl⟩:=r;cases (show T="str"from ty);exact⟨typeIs_str s z t,λ_ e=>nomatch e⟩
 |int i=>
  obtain⟨t,rfl⟩:=r;cases (show T="int"from ty);exact⟨typeIs_int s i t,λ_ e=>nomatch e⟩
 |ref p=>
  cases r;rcases ty with⟨rfl,l,h⟩|⟨rfl,o,b,j,hd⟩|⟨rfl,b⟩|⟨rfl,S,n,b⟩
  ·obtain⟨k,_,g,_⟩:=I.list h;refine⟨g.isList.typeIs,λa e=>?_⟩;cases e;obtain⟨o,n,e,c,hd,_⟩:=g;exact⟨o,e,hd⟩
  ·refine⟨⟨o,I.kIn p o b,j⟩,λa e=>?_⟩;cases e;exact⟨o,I.kIn _ o b,hd⟩
  ·have z:∃o,s.heap.get? p=Ya o/\o.ExactDict:=by
    rcases b with⟨d,b⟩|⟨d,b⟩
    ·obtain⟨_,_,_,_,o,_,_,e,ex,_⟩:=I.hok p _ b;exact⟨o,e,ex⟩
    ·obtain⟨_,_,_,_,o,_,_,e,ex,_⟩:=I.hok p _ b;exact⟨o,e,ex⟩
   obtain⟨o,e,ex⟩:=z;refine⟨⟨o,e,ex.1⟩,λa f=>?_⟩;cases f;exact⟨o,e,ex.2.1⟩
  ·obtain⟨o,_,_,_,e,ex,_⟩:=I.hok p _ b;refine⟨⟨o,e,ex.1⟩,λa f=>?_⟩;cases f;exact⟨o,e,ex.2.1⟩
 |_=>exact aao ty
def Wo(K:Yc)(T:String)(r:V->List V->Hp->VK->Prop)(to:TE):TE:=λσ H Q=>to σ H λx a=>Uy K T x a/\r x [] a Q
def Xk(K:Yc)(T:String)(r:V->List V->Hp->VK->Prop)(to:TE)(t:TA):TE:=λσ H Q=>to σ H λx a=>Uy K T x a/\t σ a λb c=>r x b c Q
variable{o:cb}{es:List cb}{to:TE}{t:TA}{name:Yp}{Ze Zh:abz}{id:String}{r:V->List V->Hp->VK->Prop}
theorem Gy(g:PlainAttrs T)(slot:ait T name id)(c:ahD (.builtin id)=pure (.type "method_descriptor"))(hm:Ww X id r)(ho:PE X o to)
  (a:abb o name X.env (lr o X.env)=lr o X.env:=by rfl) (b:(Ze.endLine==Zh.line)=true:=by rfl):PE X (.Call (.Attribute o name Ze) [] [] Zh) (Wo X.K T r to):=by
 intro d s σ H Q I h;refine ab9 a b (cL (ho d s σ H _ I h) λv i j=>?_);obtain⟨x,k,e,f,ty,l⟩:=j;obtain⟨h1,h2⟩:=vI e f ty;exact⟨T,id,g,slot,c,h1,h2,aaM rfl (acR (hm d i σ k x [] v [] Q e f .nil l))⟩
theorem D9(l:PlainAttrs T)(slot:ait T name id)(f:ahD (.builtin id)=pure (.type "method_descriptor"))(hm:Ww X id r)(ho:PE X o to)(ha:PA X (e::es) t)
  (b:abb o name X.env (lr o X.env)=lr o X.env:=by rfl)
  (d:((aad Zh (YW (e::es) X.env)).all (λx=>!x.1)&&(abl Zh (aaC [] X.env)).all (λx=>x.1.isSome)
   &&decide ((e::es).length+ ([]:List adB).length+ (if([]:List adB).isEmpty then 0 else 1)<30))=true:=by rfl)
  (c:(Ze.endLine==Zh.line)=true:=by rfl) (hs:YW (e::es) X.env=(false,lr e X.env)::YW es X.env:=by rfl) (a:(aad Zh (YW es X.env)).any (·.1)=false:=by rfl):
  PE X (.Call (.Attribute o name Ze) (e::es) [] Zh) (Xk X.K T r to t):=by
 intro g s σ H Q I h;refine wpAny_Call_method_late b d c rfl (cL (ho g s σ H _ I h) λv m n=>?_);obtain⟨x,p,i,j,ty,q⟩:=n;obtain⟨h1,h2⟩:=vI i j ty;refine⟨T,id,l,slot,f,h1,h2,?_⟩;have k:=ha Zh g m σ p _ i q;rw[hs]at k⊢;refine aaM (by show(false||(aad Zh (YW es X.env)).any (·.1))=false;rw[a]<;>rfl) (adL ?_);exact cL k λus u ⟨w,y,z,A,B⟩=>hm g u σ y x w v us Q z j A B
end
def X7(X:Cx)(id:String)(r:V->List V->Hp->VK->Prop):Prop:=
 ∀(a:List (Ye×pe)) (s:Yn) (σ:St) (H:Hp) (x:V) (b:List V) (v:Yd) (us:List Yd) (Q:VK),aO X a σ H s->RelV x v->Vals b us->r x b H Q->
  Ys (Yv X.prog X.w) X.A (call (.builtin id) (v::us)) (EP X a σ Q) X.xe s
theorem Vals.one:∀{x:V} {us:List Yd},Vals [x] us->∃u,us=[u]/\RelV x u:=by
 intro x us h;cases h with|cons r t=>
 cases t;exact⟨_,rfl,r⟩
section
variable{l b:Ye}{xs ys zs:List V}
theorem aO.lset{its':List Yd}{f:Array Yd->Array Yd}(I:aO X Za σ H s)(a:H l=Ya (.lst xs))(e:s.heap.get? l=Ya {cls:=.type "list",data:=.seq its.toArray n})(b:f its.toArray=its'.toArray)(c:Vals ys its')(hz:ys.length<=YB):
  aO X Za σ (upd H l (.lst ys)) {s with heap:=s.heap.update l (aaz f),toks:=t'}:=by
 have q:=PySem.IsL.update e f;rw[b]at q;refine I.write (x:=l) (e:=l) (by rw[a];exact trivial) (.inl rfl) (λg u d hu=>(xp s.heap (aaz f) (Ne.symm d)).trans hu) ⟨_,q⟩ ?_;exact⟨hz,its',_,c,q⟩
theorem aO.lnew(I:aO X Za σ H s)(a:Vals ys its)(hz:ys.length<=YB):
  aO X Za σ (upd H s.heap.objs.size (.lst ys)) {s with heap:=s.heap.push {cls:=.type "list",data:=.seq its.toArray},toks:=t'}:=
 I.laid (λ_ _ q=>Yj _ q) (Yl _) ⟨hz,its,0,a,Yx _ rfl⟩
theorem aO.fresh(I:aO X Za σ H s):H s.heap.objs.size=none:=I.hok.fresh (Yl _)
theorem aO.lstM(I:aO X Za σ H s)(a:H l=Ya (.lst xs)):xs.length<=YB/\∃(its:List Yd) (n:Nat),Vals xs its/\xs.length=its.length/\s.heap.get? l=Ya {cls:=.type "list",data:=.seq its.toArray n}:=by
 obtain⟨z,its,n,r,e⟩:=I.hok l _ a;exact⟨z,its,n,r,r.length,e⟩
theorem Na(h:n<=YB):ac5 n=false:=by
 unfold ac5;exact decide_eq_false (by omega)
end
section
def x8:V->List V->Hp->VK->Prop:=λx b H Q=>∃l a y,x=.ref l/\b=[y]/\H l=Ya (.lst a)/\a.length<YB/\Q .non (upd H l (.lst (a++[y])))
theorem mL:X7 X "list.append" x8:=by
 intro g s σ H x i v us Q I c d h;obtain⟨l,j,y,rfl,rfl,b,k,q⟩:=h;cases c;obtain⟨u,rfl,f⟩:=d.one;obtain⟨z,a,n,r,hl,e⟩:=I.lstM b;refine adf F.slot_list_append ⟨_,e,rfl⟩ F.entry_list_append (F.args_list_append_2 _ _) (PySem.list_append l a.toArray n u (by rw[YC];omega)) ⟨e,?_⟩;refine⟨.non,_,I.lset (its':=a++[u]) b e (by simp) (r.append (.cons f .nil)) ?_,rfl,q⟩;rw[Yq,Y6];omega
def Qx:V->List V->Hp->VK->Prop:=λx d H Q=>∃l b a c,x=.ref l/\d=[.ref b]/\H l=Ya (.lst a)/\H b=Ya (.lst c)/\a.length+ c.length<=YB/\Q .non (upd H l (.lst (a++c)))
theorem Kl:X7 X "list.extend" Qx:=by
 intro w s σ H x y v us Q I i j h;obtain⟨l,b,A,B,rfl,rfl,g,k,C,q⟩:=h;cases i;obtain⟨u,rfl,m⟩:=j.one;cases m;obtain⟨z,c,n,r,hl,e⟩:=I.lstM g;obtain⟨D,a,n2,o,p,t⟩:=I.lstM k;have f:c.toArray.size+ a.toArray.size<=YB:=by rw[YC,YC];omega
 have d:¬ (!c.toArray.isEmpty&&ac5 (c.toArray.size+ a.toArray.size))=true:=by
  rw[Na f,ahW];exact YZ
 refine adf F.slot_list_extend ⟨_,e,rfl⟩ F.entry_list_extend (F.args_list_extend_2 _ _)
  (AutoSeq1.list_extend_list_list_0 l c.toArray n b a.toArray n2 d (by rw[YC];omega) (by omega)) ⟨e,t,?_⟩
 refine⟨.non,_,I.lset (its':=c++a) g e (by simp) (r.append o) ?_,rfl,q⟩;rw[Yq];omega
def V0:R2:=λx y H Q=>∃l b a c,x=.ref l/\y=.ref b/\H l=Ya (.lst a)/\H b=Ya (.lst c)/\a.length+ c.length<=YB/\∀p,H p=Yb->Q (.ref p) (upd H p (.lst (a++c)))
theorem zD:tH X (acI .Add) V0:=by
 intro p s σ H x y v u Q I d f h;obtain⟨l,b,t,w,rfl,rfl,g,i,A,q⟩:=h;cases d;cases f;obtain⟨z,c,n,r,hl,e⟩:=I.lstM g;obtain⟨B,a,n2,j,k,m⟩:=I.lstM i;refine PySem.P.add_list e m ?_ (by rw[YC,YC];omega);have o:c.toArray++a.toArray=(c++a).toArray:=by simp
 rw[o];exact⟨.ref _,_,I.lnew (t':=s.toks) (r.append j) (by rw[Yq];omega),rfl,q _ I.fresh⟩
end
section
variable{prog:Y0}{w:Y7}{A:uc}{E:Yd->Yn->Prop}
end
section
end
end L2
namespace Att
open PySem PySem.W PySem.Calls PyProof.Rows
variable{P:Params}{h:YV}{l:OpenLaw}{n:Nat}
theorem xG:∀(ns:List Int) (vs:List Yd),WellAll P h vs (ns.map WData.int)->xy vs ns:=by
 intro ns
 induction ns with
 |nil=>
  intro vs w;rw[acw]at w;cases w;exact .nil
 |cons n ns ih=>
  intro vs w;rw[YG]at w;cases w with
  |cons a b=>
   cases a;exact .cons _ _ (ih _ b)
theorem J5(hn:l.most=Ya n){b:List WData}{i:List Yd}(c:l.row.toRowW.claim.pre b=true)(f:WellAll P h i b):
  ∃a vs ns,i=[YH a]/\b=[WData.list (ns.map WData.int)]/\h.get? a=Ya {cls:=.type "list",data:=.seq vs.toArray}/\xy vs ns/\ns.length<=n:=by
 have g:WShape.hasAll [] b [.list .int]=true:=(pre_splitW c).1;have j:l.pre.holds [] {args:=b}=true:=(pre_splitW c).2;obtain⟨d,r,rfl,h1,h2⟩:=hasAllW_cons g;obtain rfl:=hasAllW_nil h2;obtain⟨m,rfl,h3⟩:=hasW_list h1;obtain⟨ns,rfl⟩:=items_int h3;have e:ns.length<=n:=by
  unfold OpenLaw.pre at j;have h4:(WTm.not (.lt (.lit (.int (n:Int))) (.len (.arg 0)))).holds [] {args:=[.list (ns.map .int)]}=true:=by
   have h4:=(holds_andW j).1;rw[hn]at h4;exact h4
  have h5:=condW_of h4 (w_not (w_lt w_lit (w_len_list (w_arg rfl))));rw[Yf]at h5;refine Nat.le_of_not_lt λq=>?_;have k:(n:Int)<((ns.length:Nat):Int):=by omega
  first
   |(rw[decide_eq_true k]at h5;exact absurd h5 (by decide))
   |(simp at h5;omega)
 cases f with
 |cons w1 w2=>
  cases w2;cases w1 with
  |list ho hall=>exact⟨_,_,ns,rfl,rfl,ho,xG ns _ hall,e⟩
theorem JO(l:OpenLaw)(a:List WData):l.row.toRowW.claim.post a (.bool true) a=true:=
 postW_of (r:=l.row.toRowW) (X:=(true==true))
  (show WShape.has [] (.bool true) .bool=true by first|rfl|decide|simp[WShape.has,WShape.arms,WShape.armsAll])
  (show(WTm.eq .res (.lit (.bool true))).value [] {args:=a,res:=Ya (.bool true),after:=a}=Ya (.bool (true==true))from w_eq_bool (w_res rfl) w_lit) rfl
theorem attach_call{q:Y0}{b:List Yp}{y:(Yp->Option Yd)->YV->Prop}{z:Y7->YV->Prop}{d:DefRec}(hn:l.most=Ya n)(p:d.params.defaults=[])(call:∀(w:Y7) (s₀ c:Yn) (mg s:Yp->Option Yd) (h:Ye) (o:pe) (t m e:Yd) (a:Ye) (vs:List Yd) (ns:List Int),
   Ground q b [] y w s₀ mg s c.heap->z w c.heap->
   c.heap.get? h=Ya o->o.data=.func (docDef d.name d.params d.body d.scope t m e)->c.heap.CodeRec m d.name->mg d.name=Ya (.ref h)->
   c.heap.get? a=Ya {cls:=.type "list",data:=.seq vs.toArray}->xy vs ns->ns.length<=n->c.gens=#[]->
   Gr (Yv l.prog w) aeN (.call (.ref h) ⟨[.ref a],[]⟩) (λr s'=>r=.ok (.ret (.bool true))/\OldK c.heap s'.heap/\s'.os=c.os/\acN s'.gens) c):
  WalkO q b y z l.row.toRowW d [] (λf vs=>PySem.call f vs):=by
 intro w s₀ c mg s G Y h o t m e D kV ho hd u A v E B J K i C F x H;obtain rfl:D=.none:=Dflts.none A p;obtain rfl:kV=.none:=Dflts.noKw A;obtain⟨a,vs,ns,rfl,rfl,j,g,k⟩:=J5 hn i x;refine enter_call (codeAny_mono (call w s₀ c mg s h o t m e a vs ns G Y ho (fd_plain hd) u v j g k E) λr s' I=>?_);obtain⟨rfl,h2,h3,h4⟩:=I;exact⟨.inl ⟨.bool true,.bool true,[],rfl,λ_=>rfl,.bool true,JO l _,λ_=>⟨List.Pairwise.nil,λ_ hm=>(nomatch hm)⟩⟩,h2,h3,h4⟩
section
variable{prog:Y0}{w:Y7}{A:uc}{E:Yd->Yn->Prop}{s:Yn}{K:Frag}
end
end Att
namespace L2
open PySem PySem.Spec PyProof.Rows
variable{P:Y0}{w:Y7}{mg:Yp->Option Yd}{k n:Nat}{a f:Ye}{fd:YE}{x Zb:Yp}{sp:Sp}{X:Cx}{ps:List Yp}{A B:Prop}{H H':Hp}
theorem vy:∀{vs:List Yd} {ns:List Int},xy vs ns->Vals (ns.map V.int) vs
 |_,_,.nil=>.nil
 |_,_,.cons n t h=>.cons ⟨t,rfl⟩ (vy h)
def Sk(H:Hp):Prop:=∀b,H b=Yb∨∃o a,H b=Ya (.frz o (.lst a))
theorem Le{K:Yc}{G:Yp->Option Yd}{CX:MN}{I:Ye}{c:Yn}{vs:List Yd}{ns:List Int}(Q:K.In c.heap)(p:c.heap.Ns cw mg)(g:c.heap.Ns ahv G)(J:∀x:Yp,x≠"__name__"->G x=abk x)(t:c.heap.NoLimit)(X:c.gens=#[])(ha:c.heap.get? a=Ya {cls:=.type "list",data:=.seq vs.toArray})(R:xy vs ns)(hl:ns.length<=YB)(Y:cZ k aeN)(F:∀base:YV,K.In base->base.Ns cw mg->aH P w K mg base CX k I fd [x] sp)(l:∀(s:Yn) (u:Yd),afF s fd ⟨[u],[]⟩ [(x,u)])(L:∀H:Hp,Sk H->a9 K H a (ns.map V.int)->sp [.ref a] H (λv _=>v=.bl true) λ_ _ _=>False)(M:∀H e s',CX [] H c (λ_ _ _=>False) e s'->False):
  Gr (Yv P w) aeN (.call (.ref I) ⟨[.ref a],[]⟩) (λr s'=>r=.ok (.ret (.bool true))/\OldK c.heap s'.heap/\s'.os=c.os/\acN s'.gens) c:=by
 have S:=vy R;have y:=R.length
 -- from an abstract heap in which nothing but the script may be tracked
 have j:∀H:Hp,Sk H->a9 K H a (ns.map V.int)->mS P w H c.heap->(∀b,H b≠Yb->b=a)->(H a≠Yb->K.lookup a=Yb)->
   Gr (Yv P w) aeN (.call (.ref I) ⟨[.ref a],[]⟩) (λr s'=>r=.ok (.ret (.bool true))/\OldK c.heap s'.heap/\s'.os=c.os/\acN s'.gens) c:=by
  intro H T Z hok U hK;have f:∀{b:Ye} {o:pe},c.heap.get? b=Ya o->H b=Yb->(CK c.heap H).get? b=Ya o:=λe n=>OB e n;have N:∀{b:Ye} {o:pe} {A:Array xi} {B:Nat},c.heap.get? b=Ya o->o.data=.dict A B->H b=none:=fun{b o A B} e d=>by
   cases q:H b with
   |none=>rfl
   |some u=>
    have O:b=a:=U b (by rw[q];simp);subst O;rw[ha]at e;cases e;have d':Data.seq vs.toArray _=Data.dict A B:=d;cases d'
  have i:∀{b:Ye} {m:Yp->Option Yd},c.heap.Ns b m->(CK c.heap H).Ns b m:=fun{b m} ⟨o,A,B,e,d,r⟩=>⟨o,A,B,f e (N e d),d,r⟩;have C:K.In (CK c.heap H):=λb o e=>f (Q b o e) (by
   cases q:H b with
   |none=>rfl
   |some u=>
    have O:b=a:=U b (by rw[q];simp);subst O;rw[hK (by rw[q];simp)]at e;cases e)
  have hM:Mod K mg (CK c.heap H):=⟨C,i p,⟨G,i g,J⟩,let ⟨mc,h1,h2⟩:=t;⟨mc,i h1,h2⟩⟩;have e0:GQ P w K mg (CK c.heap H) aeN [] c H:=⟨rfl,hM,λb o e=>Rm e,adJ (KO _ _),trivial,λb g=>absurd (show b∈([]:List Ye)from g) (by simp),hok,.of_eq X⟩;refine codeAny_mono ((F _ C (i p)).run aeN [] c H ⟨[.ref a],[]⟩ [.ref a] [.ref a] _ _ Y e0 (l c (.ref a)) (.cons rfl .nil) (L H T Z)) λr s' h=>?_;cases r with
  |error e=>exact(M H e s' h).elim
  |ok fl=>
   cases fl with
   |next=>exact aao h
   |brk=>exact aao h
   |cont=>exact aao h
   |ret u=>
    obtain⟨v,H',os,bare,un,D,r',q⟩:=h;have q':v=.bl true:=q;subst q';obtain rfl:u=acG true:=r';refine⟨rfl,OldK.of_keep λb o e=>?_,os,bare⟩;cases q:H b with
    |none=>exact un.keep b o e q (by intro z;exact absurd (show b∈([]:List Ye)from z) (by simp)) (by simp)
    |some u=>
     rcases T b with z|⟨ob,xs,z⟩
     ·rw[q]at z;cases z
     ·have z2:=un.frzs b ob _ z;obtain⟨W,_⟩:=hok b _ z;obtain⟨e2,_⟩:=D b _ z2;rw[e]at W;cases W;exact e2
 cases hk:K.lookup a with
 |some o=>
  -- the script is one of the module's own objects
  have e:=Q a o hk;rw[ha]at e;cases e;refine j (λ_=>Yb) (λ_=>.inl rfl) (.inr ⟨_,vs.toArray,_,hk,rfl,rfl,rfl,by rw[YC,y];exact hl,by simpa using S⟩) (λb u z=>by have E:(Yb:Option HO)=Ya u:=z;cases E) (λb z=>absurd rfl z) λz=>absurd rfl z
 |none=>
  refine j (λb=>if b=a then Ya (.frz {cls:=.type "list",data:=.seq vs.toArray} (.lst (ns.map V.int)))else Yb) (λb=>?_) (.inl (.inr ⟨{cls:=.type "list",data:=.seq vs.toArray},if_pos rfl⟩)) (λb u z=>?_) (λb z=>?_) λ_=>hk
  ·by_cases g:b=a
   ·exact .inr ⟨_,_,if_pos g⟩
   ·exact .inl (if_neg g)
  ·by_cases g:b=a
   ·have E:=(if_pos g).symm.trans z;cases E;subst g;exact⟨ha,by rw[Yf];exact hl,vs,_,S,ha⟩
   ·have E:=(if_neg g).symm.trans z;cases E
  ·by_cases g:b=a
   ·exact g
   ·exact absurd (if_neg g) z
theorem Rg{l:ahE}{q:Y0}{c:List Yp}{B:(Yp->Option Yd)->YV->Prop}{z:Y7->YV->Prop}{d:DefRec}{K:Params->Yc}{CX:Y7->MN}{sp:Y7->Sp}(hn:l.most=Ya n)(m:n<=YB)(p:d.params.defaults=[])(C:cZ k aeN)(D:∀(w:Y7) (h:YV),z w h->(K w.params).In h)(F:∀(w:Y7) (mg:Yp->Option Yd) (j:Ye) (h:YV),(K w.params).In h->h.Ns cw mg->mg d.name=Ya (.ref j)->
   ∃fd:YE,(∀(s:Yn) (u:Yd),afF s fd ⟨[u],[]⟩ [(x,u)])/\
    ∀base:YV,(K w.params).In base->base.Ns cw mg->aH l.prog w (K w.params) mg base (CX w) k j fd [x] (sp w)) (r:∀(w:Y7) (H:Hp) (a:Ye) (ns:List Int),ns.length<=n->Sk H->a9 (K w.params) H a (ns.map V.int)->sp w [.ref a] H (λv _=>v=.bl true) λ_ _ _=>False) (t:∀(w:Y7) (H:Hp) (s:Yn) (e:Yd) (s':Yn),CX w [] H s (λ_ _ _=>False) e s'->False):
  aik q c B z l.row.toRowW d [] (λf vs=>PySem.call f vs):=by
 refine Att.attach_call hn p λw s₀ E mg Q j o R S I a vs ns G Y ho hd J y i g b L=>?_;have A:=D w _ Y;obtain⟨fd,M,N⟩:=F w mg j _ A G.T.g y;exact Le A G.T.g G.T.b G.T.builtins G.T.nolimit L i g (ir b m) C N M (λH O P=>r w H a ns b O P) λH e s'=>t w H E e s'
noncomputable def bD(s:Y4)(j:Nat):Y4:=match s with
 | .ClassDef _ _ _ Zr _ _ _ _ _ _ _=>Zr.getD j (.Pass ⟨0,0,0,0⟩)
 |_=>.Pass ⟨0,0,0,0⟩
noncomputable def gQ(s:Y4):Arguments:=match s with
 | .FunctionDef _ a _ _ _ _ _ _ _ _=>a
 |_=>{posonlyargs:=[],args:=[],vararg:=Yb,kwonlyargs:=[],kw_defaults:=[],kwarg:=Yb,defaults:=[]}
noncomputable def dW(s:Y4):List Y4:=match s with
 | .FunctionDef _ _ b _ _ _ _ _ _ _=>b
 |_=>[]
noncomputable def av(s:Y4):acb:=match s with
 | .FunctionDef _ _ _ _ _ _ sc _ _ _=>sc
 |_=>{kind:=.function,names:=[],isGenerator:=false,isCoroutine:=false}
abbrev bx:MN:=λ_ _ _ _ _ _=>False
abbrev E0:XK:=λ_ _ _=>False
theorem oF:sJ bx X E0:=λ_ _ _ _ _ _ _ h=>h.elim
structure bN(K:Yc)(x Zb:Yp)(st:Y4)(f:Ye)(fd:YE):Prop where
 ex:∃(oc:Yd) (od:Option Ye) (kV doc pm:Yd) (an:Option Ye) (cdv ct:Yd) (osl:Array (Option Yd)),
  fd=aaS x Zb (gQ st) (dW st) (av st) .none kV doc pm an cdv ct/\K.lookup f=Ya ⟨oc,od,.func fd,osl⟩/\ade K cdv Zb=true
 kp:abE K (.ref f)=true
section
variable{K:Yc}{base:YV}
theorem bN.ok{st:Y4}{N:List Yp}(F:bN K x Zb st f fd)(S:aG N ps (av st))(len:∀vs H Q E,sp vs H Q E->vs.length=ps.length)(b:∀(a:Yd) (A:uc) (outer:List ack) (s:Yn) (H:Hp) (vs:List V) (Q:VK) (E:XK),cZ k (A.deeper (acd Zb (av st) s.heap.objs.size f a))->sp vs H Q E->
   ∃t,CS (oZ bx P w K mg base N Zb (av st) f a A outer s H E).nox (dW st) t/\t {nx:=λ_ H'=>Q .non H',rt:=Q} (start N vs) H):aH P w K mg base bx (k+ 1) f fd ps sp:=by
 obtain⟨j,od,kV,e,l,m,a,ct,g,rfl,lk,c⟩:=F.ex;refine L9 lk c S len λA outer s H vs Q E i d=>?_;obtain⟨t,h,q⟩:=b a A outer s H vs Q E i d;exact⟨t,h.nox,q⟩
theorem bN.binds{st:Y4}(F:bN K x Zb st f fd)(h:∀(kV a c:Yd) (d:Option Ye) (b ct:Yd) (us:List Yd),us.length=ps.length->afX (aaS x Zb (gQ st) (dW st) (av st) .none kV a c d b ct) ⟨us,[]⟩=pure (ps.zip us)):Binds K fd ps []:=by
 obtain⟨i,od,kV,a,c,d,b,ct,e,rfl,lk,g⟩:=F.ex;exact .all (h kV a c d b ct)
theorem Mo{st:Y4}{h:Yd}{od e:Option Ye}{d:Array (Option Yd)}{kV b g a ct:Yd}(l:K.lookup f=Ya ⟨h,od,.func (aaS x Zb (gQ st) (dW st) (av st) .none kV b g e a ct),d⟩)(c:ade K a Zb=true)(k:abE K (.ref f)=true):bN K x Zb st f (aaS x Zb (gQ st) (dW st) (av st) .none kV b g e a ct):=⟨⟨h,od,kV,b,g,e,a,ct,d,rfl,l,c⟩,k⟩
end
theorem Ij{A:uc}(a:cZ k A):A.units+ 1<aax:=ace (acS (by decide:1<=64) _) a.units
theorem aF(h:n<=1000):n<YB:=ace h (by decide)
section
theorem pv(i:Nat){pos:abz}(b:X.N[i]?=Ya x:=by rfl)(c:XE X.env.scope x:=by first|exact Or.inl rfl|exact Or.inr (Or.inl rfl)|exact Or.inr (Or.inr rfl))(hd:(x==("__debug__":Yp))=false:=by decide)(a:(x==("__classdict__":Yp))=false:=by decide):PE X (.Name x pos) (Jw i):=T5 b c hd a
end
theorem V4(h:B):if false=true then A else B:=by
 rw[if_neg YZ];exact h
theorem TQ(h:A):if true=true then A else B:=by
 rw[if_pos rfl];exact h
theorem dP{c:Prop}[Decidable c](h1:c->A)(h2:¬ c->B):if c then A else B:=by
 by_cases h:c
 ·rw[if_pos h];exact h1 h
 ·rw[if_neg h];exact h2 h
def aJ(H a:Hp):Prop:=∀b o,H b=Ya o->a b=Ya o
theorem aJ.refl(H:Hp):aJ H H:=λ_ _ h=>h
theorem aJ.trans{d e:Hp}(a:aJ H d)(b:aJ d e):aJ H e:=λc o h=>b c o (a c o h)
theorem aJ.free(e:aJ H H'){l:Ye}(h:H' l=aiK):H l=aiK:=by
 cases q:H l with
 |none=>rfl
 |some o=>
  rw[e l o q]at h;cases h
theorem aJ.seq{K:Yc}{xs:List V}(e:aJ H H')(h:a9 K H a xs):a9 K H' a xs:=by
 rcases h with(h|⟨o,h⟩)|h
 ·exact .inl (.inl (e _ _ h))
 ·exact .inl (.inr ⟨o,e _ _ h⟩)
 ·exact .inr h
section
variable{κ:Type}[DecidableEq κ]
end
end L2
namespace GX
open PySem
variable{env:ack}{sc:acb}{n:Yp}{c:Ye}
theorem yZ{α β:Type}{f:α->β->aex (ForInStep β)}(g:α->β->β):∀(l:List α) (b:β),(∀x∈l,∀b,f x b=pure (.yield (g x b)))->
  forIn l b f=pure (l.foldl (λb x=>g x b) b)
 |[],b,_=>rfl
 |x::l,b,h=>by
  simp only[List.forIn_cons,h x (.head _),pure_bind];exact yZ g l (g x b) λy a=>h y (Yo _ a)
noncomputable def sU(env:ack)(x:Yp×ady)(cs:List (Yp×Ye)):List (Yp×Ye):=if x.2==.free then(x.1,(env.cells.lookup x.1).getD 0)::cs else cs
theorem F8(h:∀y∈sc.names,y.2=.free->∃c,env.cells.lookup y.1=Ya c):
  ahF sc env=pure (sc.names.foldl (λb x=>sU env x b) []):=by
 simp only[ahF];rw[yZ (sU env) sc.names [] (λx f b=>by
  obtain⟨n,k⟩:=x;unfold sU;by_cases a:k=.free
  ·subst a;obtain⟨c,d⟩:=h _ f rfl;have e:cellOf env n=pure c:=by unfold cellOf;rw[d]
   simp[e,d]
  ·have g:(k==aab)=false:=by simpa using a
   simp only[g,ac6,if_false])]
 rfl
theorem yN{env:ack}:∀(l:List (Yp×ady)) (a:List (Yp×Ye)),(∀y∈l,y.2=.free->∃c,env.cells.lookup y.1=Ya c)->(∀p∈a,env.cells.lookup p.1=Ya p.2)->
  ∀p∈l.foldl (λb x=>sU env x b) a,env.cells.lookup p.1=Ya p.2
 |[],a,_,ha=>ha
 |x::l,a,h,ha=>by
  refine yN l _ (λy e=>h y (Yo _ e)) λp hp=>?_;unfold sU at hp;dsimp only at hp;by_cases d:x.2=.free
  ·obtain⟨c,f⟩:=h x Yu d;rw[d]at hp;simp only[beq_self_eq_true,if_true]at hp;rcases Ym.mp hp with rfl|hp
   ·rw[f];rfl
   ·exact ha p hp
  ·have g:(x.2==aab)=false:=by simpa using d
   simp only[g,ac6,if_false]at hp;exact ha p hp
theorem yG{env:ack}{n:Yp}:∀(l:List (Yp×ady)) (a:List (Yp×Ye)),((∃c,(n,c)∈a)∨(n,aab)∈l)->∃c,(n,c)∈l.foldl (λb x=>sU env x b) a
 |[],a,h=>by
  rcases h with h|h
  ·exact h
  ·cases h
 |x::l,a,h=>by
  refine yG l _ ?_;unfold sU;dsimp only;rcases h with⟨c,h⟩|h
  ·refine .inl ⟨c,?_⟩;split
   ·exact Yo _ h
   ·exact h
  ·rcases Ym.mp h with h|h
   ·refine .inl ?_;subst h;exact⟨_,by rw[if_pos (by rfl)];exact .head _⟩
   ·exact .inr h
theorem rp{n:Yp}{c:Ye}:∀{l:List (Yp×Ye)},(n,c)∈l->∃a,l.lookup n=Ya a
 |[],h=>by cases h
 |(m,d)::l,h=>by
  rw[aeV];cases e:n==m with
  |true=>exact⟨d,rfl⟩
  |false=>
   rcases Ym.mp h with h|h
   ·cases h;simp at e
   ·exact rp h
theorem MA{n:Yp}{c:Ye}:∀{l:List (Yp×Ye)},l.lookup n=Ya c->(n,c)∈l
 |[],h=>by cases h
 |(m,d)::l,h=>by
  rw[aeV]at h;cases e:n==m with
  |true=>
   rw[e]at h;have a:n=m:=by simpa using e
   have b:d=c:=YF h;rw[a,b];exact Yu
  |false=>
   rw[e]at h;exact Yo _ (MA h)
theorem zE(h:∀y∈sc.names,y.2=.free->∃c,env.cells.lookup y.1=Ya c):
  ∃cl,ahF sc env=pure cl/\(∀x c,cl.lookup x=Ya c->env.cells.lookup x=Ya c)/\(∀n,(n,aab)∈sc.names->∃c,cl.lookup n=Ya c):=by
 refine⟨_,F8 h,λx c e=>?_,λn hn=>?_⟩
 ·exact yN sc.names [] h (λp hp=>by cases hp) (x,c) (MA e)
 ·obtain⟨c,a⟩:=yG (env:=env) sc.names [] (.inr hn);exact rp a
theorem qj{x:Yp}{a:List (Yp×ady)}:
  (a.map fun(n,k)=>if(k==aab&&env.scope.kind==.function&&env.kindOf n==Ya .cell)then(n,abc)else(n,k)).lookup x
  =(a.lookup x).map λk=>if(k==aab&&env.scope.kind==.function&&env.kindOf x==Ya .cell)then abc else k:=by
 induction a with
 |nil=>rfl
 |cons p r ih=>
  obtain⟨n,k⟩:=p;rw[YG];by_cases e:x=n
  ·subst e;dsimp only;split<;>simp_all
  ·have b:(x==n)=false:=by simpa using e
   dsimp only;split<;>simp only[aeV,b]<;>exact ih
noncomputable def Bz(d a:cb)(e:List cb)(it b:Yd)(env:ack):aex Bool:=do
 match←aaA it with
 |none=>pure false
 |some v=>
  adI a it v
  aeP a env v
  let ok←forIn e true λc r=>if r=true then do let ok←ahw c env (lr c env);pure (adM ok)else pure (adM r)
  if ok=true then do
   let x←lr d env;let _←call (.builtin "list.append") [b,x]
   pure true
  else pure true
theorem Qn(d a iter:cb)(e:List cb)(b:acb)(pos:abz)(it c:Yd)(env:ack):
  compTurn (.ListComp d [⟨a,iter,e,0⟩] b pos) 0 it c env=(do
   adA iter.pos
   let more←Bz d a e it c env
   if more=true then again (.compLoop (.ListComp d [⟨a,iter,e,0⟩] b pos) 0 it c env)else pure (.done .next)):=by
 rw[compTurn_list,Bz];simp only[bind_assoc];congr 1;funext _;congr 1;funext r;cases r with
 |none=>simp
 |some v=>
  simp only[bind_assoc];congr 1;funext _;congr 1;funext _;congr 1;funext ok;cases ok<;>simp
theorem EO{prog:Y0}{w:Y7}{A:uc}{R:acv->Yn->Prop}{s:Yn}{d a iter:cb}{e:List cb}{b:acb}{pos:abz}{it c:Yd}(I:Nat->Yn->Prop)(turn:∀n s,I n s->Ys (Yv prog w) A (Bz d a e it c env) (λmore s'=>if more=true then∃m,m<n/\I m s' else R (.ok .next) s') (λ_ _=>False) s)(n:Nat)(h:I n s):
  Gr (Yv prog w) A (.compLoop (.ListComp d [⟨a,iter,e,0⟩] b pos) 0 it c env) R s:=by
 apply codeAny_loop rfl I _ n h;intro n s f;apply wpAny_noted;rw[Qn];change Ys _ A _ _ _ _;apply Yg;apply adu;apply Yg;refine oh (turn n s f) (λmore s' q=>?_) λ_ _ z=>z.elim;cases more
 ·exact Yt q
 ·exact Yt ⟨rfl,q⟩
end GX
namespace GX
open PySem PySem.Spec PyProof.Rows
variable{A:uc}{Zj v:Yd}{Q E:Yd->Yn->Prop}{s:Yn}{B:GV}{R:acv->Yn->Prop}{nm:String}{Zo:List (Yp×Yd)}{ko d:Option Yd}
noncomputable def kept:Option (Yd×Yd)->Array Yd
 |none=>#[]
 |some (x,k)=>#[x,k]
noncomputable abbrev yM(a:Array Yd)(c:Nat):pe:={cls:=.type "list",dict:=Yb,data:=.seq a c,slots:=#[]}
noncomputable abbrev put(S:Ye)(a:Array Yd)(s:Yn):Yn:={s with heap:=s.heap.update S (aaz λ_=>a)}
def rY(prog:Y0)(w:Y7)(A:uc)(a v:Yd)(Q:Yd->Yn->Prop)(s:Yn):Prop:=
 match a with
 | .none=>Q v s
 |f=>Ys (Yv prog w) A.in1 (call f [v]) Q (λ_ _=>False) s
def Iv(prog:Y0)(w:Y7)(op:ahu)(g:String)(I S:Ye)(e:Yd)(f:List (Yp×Yd))(b:Option (Yd×Yd))(A:uc)(R:acv->Yn->Prop):Option Yd->Yn->Prop
 |none,s=>(∃c,s.heap.get? S=Ya (yM (kept b) c))/\match b with
  |some (x,_)=>R (.ok (.ret x)) (put S #[] s)
  |none=>∃n d r,f=(n,d)::r/\R (.ok (.ret d)) s
 |some v,s=>rY prog w A e v (λk s=>(∃c,s.heap.get? S=Ya (yM (kept b) c))/\match b with
  |none=>Gr (Yv prog w) A (.builtin g ⟨[.ref I,e,.ref S],f⟩) R (put S #[v,k] s)
  |some (_,k')=>Ys (Yv prog w) A.in1 (afu op k k') (λa s=>∃y c,a=.bool y/\s.heap.get? S=Ya (yM (kept b) c)/\Gr (Yv prog w) A (.builtin g ⟨[.ref I,e,.ref S],f⟩) R (if y then put S #[v,k] s else s)) (λ_ _=>False) s) s
abbrev Turn(prog:Y0)(w:Y7)(op:ahu)(e:String)(B:GV):Prop:=∀(I S:Ye) (a:Yd) (d:List (Yp×Yd)) (b:Option (Yd×Yd)) (c:Nat),
 ahX prog w (B ⟨[.ref I,a,.ref S],d⟩) λA R s=>s.heap.get? S=Ya (yM (kept b) c)/\Ys (Yv prog w) A.in1 (aaA (.ref I)) (Iv prog w op e I S a d b A R) (λ_ _=>False) s
section
variable{prog:Y0}{w:Y7}
theorem two{x k:Yd}:(kept (Ya (x,k))).size<=YB:=by show 2<=YB;decide +kernel
theorem key_of{P:adY->Yn->Prop}{f:Yd->aex adY}(r:Yd->aex Yd)(h:rY prog w A Zj v Q s)(m:∀k s,Q k s->Ys (Yv prog w) A.in1 (f k) P E s):
  Ys (Yv prog w) A.in1 (match Zj with| .none=>pure v >>= f|_=>tryCatch (acu [v] (call Zj [v])) r >>= f) P E s:=by
 unfold rY at h;split at h
 ·exact Yg (Yt (m _ _ h))
 ·exact Yg (ad8 (aaI (oh h m λ_ _ z=>z.elim)))
theorem EF:Turn prog w .Lt "min.loop" GV.«min.loop»:=by
 intro I S g i b c A R s ⟨e,nx⟩;show Ys _ _ (agv (.ref S) >>= _) _ _ s;apply Yg;apply ad9 e rfl;apply Yg;apply ad8;refine oh nx (λr j h=>?_) λ_ _ z=>z.elim;rcases r with _|v<;>rcases b with _|⟨x,m⟩
 ·obtain⟨_,n,d,l,rfl,q⟩:=h
  wp_walk
  exact q
 ·obtain⟨⟨c1,h1⟩,q⟩:=h;apply Yg;refine acW h1 rfl ?_ two
  wp_walk
  exact q
 ·unfold Iv at h;refine key_of _ h λk f h=>?_;obtain⟨⟨o,h2⟩,q⟩:=h;apply Yg;apply acW h2 rfl;exact Yt ⟨abA F.plain_min_loop _,q⟩
 ·unfold Iv at h;refine key_of _ h λk f h=>?_;obtain⟨_,q⟩:=h;apply Yg;apply ad8;apply aaI;apply Yg;refine oh q (λa p h=>?_) λ_ _ z=>z.elim;obtain⟨y,t,rfl,h3,q⟩:=h
  wp_walk
  cases y
  ·wp_walk
   exact⟨abA F.plain_min_loop _,q⟩
  ·refine ahY rfl (Yg (acW h3 rfl ?_ two))
   wp_walk
   exact⟨abA F.plain_min_loop _,q⟩
theorem enter{id:String}{a:Args}{Sp:aiY}(b:acg aef id=Ya B)(hp:afH id=true)(m:ahX prog w (B a) Sp)(h:Sp A R s):
  Gr (Yv prog w) A (.builtin id a) R s:=afh b (by rw[Around.under_plainId hp];exact m A R s h)
def Ip(bt:Nat->Nat->Bool)(n i:Nat):Prop:=∀j,j<n->bt j i=false/\(j<i->bt i j=true)
structure Qs(prog:Y0)(w:Y7)(A:uc)(Zj:Yd)(op:ahu)(l I S:Ye)(vs:List Yd)(bt:Nat->Nat->Bool)(G:List (Nat×Yd)->Yn->Prop):Prop where
 irr:∀i,bt i i=false
 asy:∀i j,bt i j=true->bt j i=false
 cov:∀a b c,bt a b=true->bt c b=false->bt a c=true
 tail:∀p q L s,G (p::q::L) s->G (q::L) s
 head:∀p L s,G (p::L) s->G [p] s
 calm:∀x L s h tk,x=I∨x=S->G L s->(∀b o,b≠x->s.heap.get? b=Ya o->h.get? b=Ya o)->G L {s with heap:=h,toks:=tk}
 list:∀L s,G L s->s.heap.IsList l vs.toArray
 keys:∀L s j v a c m,G L s->vs[j]?=Ya v->s.heap.get? S=Ya (yM a c)->s.heap.IsListIter I l m->rY prog w A Zj v (λk s=>G ((j,k)::L) s/\s.heap.get? S=Ya (yM a c)/\s.heap.IsListIter I l m) s
 cmp:∀i j k k' s,G [(j,k),(i,k')] s->Ys (Yv prog w) A.in1 (afu op k k') (λa s'=>a=.bool (bt j i)/\s'=s) (λ_ _=>False) s
theorem rY.imp{a:Yd->Yn->Prop}(h:rY prog w A Zj v Q s)(m:∀k s,Q k s->a k s):rY prog w A Zj v a s:=by
 unfold rY at h⊢;split at h
 ·exact m _ _ h
 ·exact oh h m λ_ _ z=>z
def WE(bt:Nat->Nat->Bool)(vs:List Yd)(j:Nat):Option (Nat×Yd×Yd)->Prop
 |none=>j=0
 |some (i,x,_)=>i<j/\vs[i]?=Ya x/\Ip bt j i
noncomputable def UC:Option (Nat×Yd×Yd)->List (Nat×Yd)
 |none=>[]
 |some (i,_,k)=>[(i,k)]
variable{op:ahu}{lp:String}{l I S:Ye}{vs:List Yd}{bt:Nat->Nat->Bool}{G:List (Nat×Yd)->Yn->Prop}{kw:List (Yp×Yd)}
theorem Qs.put(M:Qs prog w A Zj op l I S vs bt G){L:List (Nat×Yd)}{a b:Array Yd}{c m:Nat}(d:S≠I)(g:G L s)(f:s.heap.get? S=Ya (yM a c))(h:s.heap.IsListIter I l m):
  G L (put S b s)/\(∃c,(put S b s).heap.get? S=Ya (yM b c))/\(put S b s).heap.IsListIter I l m:=
 ⟨M.calm S L s _ s.toks (.inr rfl) g λx o n e=>(xp _ _ (Ne.symm n)).trans e,⟨_,aar _ f rfl⟩,h.at λo e=>(xp _ _ d).trans e⟩
theorem JC(T:Turn prog w op lp B)(J:acg aef lp=Ya B)(hp:afH lp=true)(O:A.handled=Yb)(M:Qs prog w A Zj op l I S vs bt G)(P:l≠I)(C:S≠I)
  (Q:vs=[]->∃n d r,kw=(n,d)::r/\∀s,G [] s->R (.ok (.ret d)) s) (U:∀i v k s,vs[i]?=Ya v->Ip bt vs.length i->G [(i,k)] s->R (.ok (.ret v)) s):
  ∀(r j:Nat) (b:Option (Nat×Yd×Yd)) (s:Yn) (c:Nat),vs.length=j+ r->WE bt vs j b->G (UC b) s->s.heap.get? S=Ya (yM (kept (b.map (·.2))) c)->s.heap.IsListIter I l j->
   Gr (Yv prog w) A (.builtin lp ⟨[.ref I,Zj,.ref S],kw⟩) R s:=by
 have W:=adN (prog:=prog) (w:=w) (A:=A.in1) O I l P vs.toArray;intro r
 induction r with
 |zero=>
  intro j b s c V m g p D;obtain rfl:j=vs.toArray.size:=by rw[YC];omega
  refine enter J hp (T I S Zj kw _ c) ⟨p,W.done _ _ _ ⟨D,M.list _ _ g⟩ λh tk k=>?_⟩;have t:=M.calm I _ _ h tk (.inl rfl) g λx o n e=>k x o (by simpa using n) e;refine⟨⟨c,k S _ (by simpa using C) p⟩,?_⟩;rcases b with _|⟨i,x,y⟩
  ·obtain⟨n,d,l,e,q⟩:=Q (aav (by simpa using(show vs.toArray.size=0 from m)));exact⟨n,d,l,e,q _ t⟩
  ·exact U i x y _ m.2.1 (by simpa using m.2.2) (M.calm S _ _ _ tk (.inr rfl) t λz o n e=>(xp _ _ (Ne.symm n)).trans e)
 |succ r ih=>
  intro j b s c V m g p D;refine enter J hp (T I S Zj kw _ c) ⟨p,W.item j _ _ _ (by rw[YC];omega) ⟨D,M.list _ _ g⟩ λv h tk u st k=>?_⟩;have u:vs[j]?=Ya v:=by simpa using u
  have t:=M.calm I _ _ h tk (.inl rfl) g λx o n e=>k x o (by simpa using n) e;unfold Iv;refine rY.imp (M.keys _ _ j v _ _ _ t u (k S _ (by simpa using C) p) st.1) λy K ⟨E,h2,L⟩=>⟨⟨c,h2⟩,?_⟩;have more:(∀i,i<j->bt j i=true)->Gr (Yv prog w) A (.builtin lp ⟨[.ref I,Zj,.ref S],kw⟩) R (put S #[v,y] K):=λup=>by
   obtain⟨X,⟨Y,h3⟩,Z⟩:=M.put (b:=#[v,y]) C E h2 L;refine ih (j+ 1) (Ya (j,v,y)) _ Y (by omega) ⟨abF _,u,λi F=>?_⟩ (M.head _ _ _ X) h3 Z;rcases aeW.mp F with z|rfl
   ·exact⟨M.asy _ _ (up i z),λ_=>up i z⟩
   ·exact⟨M.irr _,λz=>absurd z (Y9 _)⟩
  rcases b with _|⟨i,x,z⟩
  ·exact more λi F=>absurd (show j=0 from m) (by omega)
  ·obtain⟨F,hx,ft⟩:=m;refine oh (M.cmp i j y z K E) (λa s3 ⟨ea,N⟩=>⟨_,c,ea,N▸h2,?_⟩) λ_ _ z=>z;subst N;cases e:bt j i with
   |true=>exact more λH f=>M.cov _ _ _ e (ft H f).1
   |false=>
    refine ih (j+ 1) (Ya (i,x,z)) _ c (by omega) ⟨by omega,hx,λH f=>?_⟩ (M.tail _ _ _ _ E) h2 L;rcases aeW.mp f with z|rfl
    ·exact ft H z
    ·exact⟨e,λz=>absurd z (by omega)⟩
abbrev NO(prog:Y0)(w:Y7)(a f:String):Prop:=∀(A:uc) (s:Yn) (Q E:Yd->Yn->Prop) (b:List (Yp×Yd)) (e d:Option Yd) (l:Ye) (c:Array Yd),
 acE a ["key","default"] 0 ⟨[],b⟩=pure [e,d]->abX a ⟨[.ref l],b⟩->s.heap.IsList l c->
 Gr (Yv prog w) A (.builtin f ⟨[.ref s.heap.objs.size,e.getD .none,.ref (s.heap.objs.size+ 1)],d.toList.map λd=>("default",d)⟩) (aip Q E)
  {s with heap:=(s.heap.push {cls:=.type "list_iterator",data:=.fields #[.ref l,.int 0 0]}).push (yM #[] 0)}->Ys (Yv prog w) A (call (.builtin a) [.ref l] b) Q E s
theorem Bj:NO prog w "min" "min.loop":=by
 intro A s Q E c e d l a b ha hl h;refine kmb_tree F.kind_min F.plain_min F.entry_min ha ?_
 wp_walk using ag1 b,aa2 hl
 rw[aaV];exact⟨abA F.plain_min_loop _,h⟩
theorem Ar(O:NO prog w nm lp)(T:Turn prog w op lp B)(a:acg aef lp=Ya B)(hp:afH lp=true)(c:A.handled=Yb)(f:acE nm ["key","default"] 0 ⟨[],Zo⟩=pure [ko,d])(ha:abX nm ⟨[.ref l],Zo⟩)(hl:s.heap.IsList l vs.toArray)(M:Qs prog w A (ko.getD .none) op l s.heap.objs.size (s.heap.objs.size+ 1) vs bt G)(g:∀h,(∀b o,s.heap.get? b=Ya o->h.get? b=Ya o)->G [] {s with heap:=h})(j:vs=[]->∃x,d=Ya x/\∀s,G [] s->Q x s)(m:∀i v k s,vs[i]?=Ya v->Ip bt vs.length i->G [(i,k)] s->Q v s):Ys (Yv prog w) A (call (.builtin nm) [.ref l] Zo) Q E s:=by
 obtain⟨o,ho,_⟩:=id hl;refine O A s Q E Zo ko d l _ f ha hl (JC T a hp c M (YN (Yz ho)) (Nat.succ_ne_self _) (λe=>?_) m vs.length 0 Yb _ 0 (agw _).symm rfl (g _ λb o e=>?_) ?_ ?_)
 ·obtain⟨x,rfl,q⟩:=j e;exact⟨_,x,[],rfl,q⟩
 ·exact Yj _ (Yj _ e)
 ·exact agR (aaV ..).symm rfl
 ·exact⟨_,Yj _ (Yx _ rfl),rfl,rfl⟩
abbrev rW(h h':YV):Prop:=∀b o,h.get? b=Ya o->h'.get? b=Ya o
theorem Hd(O:NO prog w nm lp)(T:Turn prog w op lp B)(y:acg aef lp=Ya B)(hp:afH lp=true)(z:A.handled=Yb)(C:acE nm ["key","default"] 0 ⟨[],Zo⟩=pure [ko,d])(ha:abX nm ⟨[.ref l],Zo⟩)(hl:s.heap.IsList l vs.toArray)(bt:Nat->Nat->Bool)(irr:∀i,bt i i=false)(asy:∀i j,bt i j=true->bt j i=false)(cov:∀a b c,bt a b=true->bt c b=false->bt a c=true)(KK:Nat->Yd->Prop)(keys:∀j v h tk,vs[j]?=Ya v->rW s.heap h->rY prog w A (ko.getD .none) v (λk s'=>KK j k/\∃tk,s'={s with heap:=h,toks:=tk}) {s with heap:=h,toks:=tk})(cmp:∀i j k n h tk,KK j k->KK i n->rW s.heap h->∀Q:Yd->Yn->Prop,Q (.bool (bt j i)) {s with heap:=h,toks:=tk}->Ys (Yv prog w) A.in1 (afu op k n) Q (λ_ _=>False) {s with heap:=h,toks:=tk})(D:vs=[]->∃x,d=Ya x/\∀h tk,rW s.heap h->Q x {s with heap:=h,toks:=tk})(F:∀i v h tk,vs[i]?=Ya v->Ip bt vs.length i->rW s.heap h->Q v {s with heap:=h,toks:=tk}):
  Ys (Yv prog w) A (call (.builtin nm) [.ref l] Zo) Q E s:=by
 refine Ar (bt:=bt) (G:=λL s'=>(∃h tk,s'={s with heap:=h,toks:=tk}/\rW s.heap h)/\∀p∈L,KK p.1 p.2) O T y hp z C ha hl ⟨irr,asy,cov,?_,?_,?_,?_,?_,?_⟩ (λh k=>⟨⟨h,s.toks,rfl,k⟩,by simp⟩) (λe=>?_) ?_
 ·exact λp q L s g=>⟨g.1,λq r=>g.2 q (Yo _ r)⟩
 ·exact λp L s g=>⟨g.1,λq r=>g.2 q (Yi.mp r▸Yu)⟩
 ·rintro x L s' h tk t ⟨⟨H,f,rfl,G⟩,q⟩ k;refine⟨⟨h,tk,rfl,λb o e=>k b o ?_ (G b o e)⟩,q⟩;have:=Yz e;rcases t with rfl|rfl
  ·exact YN this
  ·exact YN (abv this)
 ·rintro L s' ⟨⟨H,f,rfl,G⟩,q⟩;exact hl.at λo e=>G _ _ e
 ·rintro L s' j v a c m ⟨⟨h,tk,rfl,G⟩,q⟩ u I J;refine(keys j v h tk u G).imp ?_;rintro k s' ⟨K,f,rfl⟩;refine⟨⟨⟨h,f,rfl,G⟩,λp hp=>?_⟩,I,J⟩;rcases Ym.mp hp with rfl|hp
  ·exact K
  ·exact q p hp
 ·rintro i j k n s' ⟨⟨h,tk,rfl,G⟩,q⟩;exact cmp i j k n h tk (q (j,k) (by simp)) (q (i,n) (by simp)) G _ ⟨rfl,rfl⟩
 ·obtain⟨x,t,q⟩:=D e;exact⟨x,t,λs' ⟨⟨h,tk,e,G⟩,_⟩=>e▸q h tk G⟩
 ·exact λi v k s' u ft ⟨⟨h,tk,e,G⟩,_⟩=>e▸F i v h tk u ft G
end
end GX
namespace GX
open PySem
end GX
namespace GB
variable{n b h:Nat}
theorem Hz(n h:Nat):(n &&& 2^h=0)↔n.testBit h=false:=by
 constructor
 ·intro e;have q:(n &&& 2^h).testBit h=false:=by rw[e];exact aeX h
  rw[ahG,Nat.testBit_two_pow_self,Bool.and_true]at q;exact q
 ·intro e;apply Nat.eq_of_testBit_eq;intro i;rw[ahG,aeX,agl];by_cases a:h=i
  ·subst a;rw[e];rfl
  ·rw[decide_eq_false a,ahW]
noncomputable def JU(n:Nat):List Nat:=(Y8 63).filter λh=>n.testBit h
theorem L4(hn:n<2^b)(a:b<=h):n.testBit h=false:=
 Nat.testBit_lt_two_pow (Y5 hn (af1 (by decide) a))
theorem CL{p:Nat->Bool}{c:Nat}(a:b<=c)(hp:∀h,b<=h->p h=false):(Y8 c).filter p=(Y8 b).filter p:=by
 induction c with
 |zero=>
  have:b=0:=by omega
  subst this;rfl
 |succ c ih=>
  by_cases e:b=c+ 1
  ·subst e;rfl
  ·rw[acX,YS,ih (by omega)];have:[c].filter p=[]:=by
    rw[aac,hp c (by omega)];rfl
   rw[this,Y1]
theorem Qz(a:b<=63)(hn:n<2^b):(Y8 b).filter (λh=>n.testBit h)=JU n:=
 (CL a λ_ c=>L4 hn c).symm
theorem DI:h∈JU n↔h<63/\n.testBit h=true:=by
 unfold JU;rw[YU,aak]
theorem MZ(n:Nat):(JU n).length<=63:=by
 have:=YQ (λh=>n.testBit h) (Y8 63);rw[Rw]at this;exact this
theorem j0(n:Nat):(JU n).Pairwise (·<·):=List.Pairwise.filter _ ach
noncomputable def hl(n:Int):List Int:=(JU n.toNat).map (fun(h:Nat)=>(h:Int))
theorem Sm(n:Int):(hl n).length<=63:=by
 unfold hl;rw[Yf];exact MZ _
theorem Oq{n:Int}{a:Int}{r:List Int}(e:hl n=a::r):∀x∈hl n,a<=x:=by
 have s:(hl n).Pairwise (·<·):=by
  unfold hl;rw[abw];exact(j0 _).imp λh=>by omega
 rw[e]at s⊢;intro x b;rcases Ym.mp b with rfl|b
 ·exact aat _
 ·have:=(ac7.mp s).1 x b;omega
end GB
namespace GB
noncomputable def Gd(l:List Nat):Nat:=l.foldl (λa h=>a ||| 2^h) 0
theorem Fl(h:Nat):∀(l:List Nat) (a:Nat),(l.foldl (λa h=>a ||| 2^h) a).testBit h=(a.testBit h||decide (h∈l))
 |[],a=>by simp
 |x::l,a=>by
  rw[abn,Fl h l,Nat.testBit_or,agl,Bool.or_assoc];congr 1;rw[abQ];simp only[acY,decide_eq_true_iff,Ym];constructor
  ·rintro(e|e)
   ·exact .inl e.symm
   ·exact .inr e
  ·rintro(e|e)
   ·exact .inl e.symm
   ·exact .inr e
theorem DF(l:List Nat)(h:Nat):(Gd l).testBit h=decide (h∈l):=by
 unfold Gd;rw[Fl,aeX,aeo]
theorem OQ{l:List Nat}{b:Nat}(h:∀x∈l,x<b):Gd l<2^b:=by
 apply Nat.lt_pow_two_of_testBit;intro i a;rw[DF];exact decide_eq_false λz=>by have:=h i z;omega
end GB
namespace L2
open PySem PySem.Spec PyProof.Rows
variable{X:Cx}{H:Hp}{h:YV}{C D:Ye}{Zu tg iter e:cb}{Zt es:List cb}{sc:acb}{pos p:abz}{g:TG}{tt:TT}{te:TE}{σ:St}{Qe:Hp->Prop}{wi:TI}{i:Nat}{x:Yp}{Zo:List adB}{t:TA}
noncomputable def W6(N:List Yp)(sc:acb)(x:Yp):Option Nat->Bool
 |none=>true
 |some j=>decide (N[j]?=Ya x)&&decide (sc.names.lookup x=Ya .free)
def NS(N c:List Yp)(a:List (Option Nat))(b sc:acb):Prop:=
 (∀y∈sc.names,y.2≠.cell)/\(∀y∈sc.names,y.2=.local->sc.names.lookup y.1=Ya .local)/\
 (∀y∈sc.names,y.2=.free->b.names.lookup y.1=Ya .cell∨b.names.lookup y.1=Ya .free)/\
 c.Nodup/\a.length=c.length/\∀p∈c.zip a,W6 N sc p.1 p.2=true
noncomputable instance (N N':List Yp) (src:List (Option Nat)) (esc sc:acb):Decidable (NS N N' src esc sc):=by unfold NS;infer_instance
noncomputable def FH(a:List (Option Nat))(σ:St):St:=a.map λo=>o.bind λj=>(σ[j]?).bind λv=>v
noncomputable def Cx.blk(X:Cx)(a:List Yp)(sc:acb)(cl:List (Yp×Ye))(C:Ye)(b:Yn)(c:Hp)(fp:List Ye):Cx:=
 {X with N:=a,s₀:=b,H₀:=c,env:=compEnvC sc cl C X.env,outer:=X.stack,ex:=fp,fn:=λ_=>false,pn:=[],xe:=λ_ _=>False}
def WZ(X:Cx)(b:List cb)(t:TT):Prop:=
 ∀(a:List (Ye×pe)) (s:Yn) (σ:St) (H:Hp) (Q:Bool->Hp->Prop),aO X a σ H s->t σ H Q->
  Ys (Yv X.prog X.w) X.A (forIn b true λc r=>if r=true then do let ok←ahw c X.env (lr c X.env);pure (adM ok)else pure (adM r)) (TP X a σ Q) X.xe s
def Uj:TT:=λ_ H Q=>Q true H
theorem dD:WZ X [] Uj:=λ_ _ _ H _ I h=>wpAny_tests_nil ⟨H,I,h⟩
theorem dA{c:cb}{t:TT}(h:PT X c t):WZ X [c] t:=λa s σ H Q I hw=>wpAny_tests_one (h a s σ H Q I hw)
theorem Un.but{fs ex:List Ye}{f:Hp}{h1 h2:YV}(u:Un fs ex H f h h1)(c:aan C h1 h2)(g:h.get? C=Yb):Un fs ex H f h h2:=
 have ne:∀b o,h.get? b=Ya o->b≠C:=λb o e z=>by rw[z,g]at e;cases e
 ⟨λb o e n d a=>(c.2 b (ne b o e)).trans (u.keep b o e n d a),λb o e n d a=>let ⟨sl,z⟩:=u.slot b o e n d a;⟨sl,(c.2 b (ne b o e)).trans z⟩,u.free,
  λb o e a=>let ⟨o',z⟩:=u.there b o e a;⟨o',(c.2 b (ne b o e)).trans z⟩,u.tups,u.frzs,u.tbls⟩
theorem mS.but{P:Y0}{w:Y7}{h':YV}(x:mS P w H h)(f:aan C h h')(d:H C=Yb):mS P w H h':=λb ob e=>by
 refine(x b ob e).stay (λc v a q=>(f.2 c ?_).trans q) (λ_ q=>q) λ_ _ q=>q;rintro rfl;rcases a with rfl|a
 ·rw[d]at e;cases e
 ·rw[d]at a;cases a
def fF(g:TG)(tt:TT)(f:TE)(D:Ye)(N:St->Hp->Prop)(x:V)(σ:St)(H:Hp):Prop:=
 g x σ H λa h=>tt a h λb d=>if b=true then f a d λy e=>∃c,e D=Ya (.lst c)/\c.length<YB/\N a (upd e D (.lst (c++[y])))else N a d
def La(c:List (Option Nat))(k:TI)(g:TG)(tt:TT)(l:TE):TE:=λσ H Q=>k σ H λJ d=>∀D,d D=Yb->∃W:Nat->Nat->St->Hp->Prop,(∃m,W 0 m (FH c σ) (upd d D (.lst [])))/\
 ∀i m e a,W i m e a->(J.stop i a/\Q (.ref D) a)∨(J.go i a/\∃N:St->Hp->Prop,(∀f h,N f h->∃j,j<m/\W (i+ 1) j f h)/\
  ∀x b,J.yld i a x b->fF g tt l D N x e b)
theorem Bq{s:List Yp}{B:List (Option Nat)}{cl:List (Yp×Ye)}{Za:List (Ye×pe)}{d:Hp}{a:Yn}{it:Ye}{fp:List Ye}{tn:Nat->YV->Prop}{J:It}{W:Nat->Nat->St->Hp->Prop}{m0:Nat}{RR:Yd->Ye->acv->Yn->Prop}(hc:X.calm=true)(hk:sc.kind=.function)(hB:NS X.N s B X.env.scope sc)(f:∀x c,cl.lookup x=Ya c->X.env.cells.lookup x=Ya c)(O:∀n,(n,aab)∈sc.names->∃c,cl.lookup n=Ya c)(hg:∀cl C a d fp,s.Nodup->PG (X.blk s sc cl C a d fp) tg g)(ht:∀cl C a d fp,WZ (X.blk s sc cl C a d fp) Zt tt)(he:∀cl C a d fp,PE (X.blk s sc cl C a d fp) Zu te)(l:aO X Za σ d a)(T:Turn X.prog X.w X.K tg J fp it tn)(K:tn 0 a.heap)(f2:∀b∈fp,t8 X Za d b)(w0:W 0 m0 (FH B σ) (upd d a.heap.objs.size (.lst [])))(turn:∀i m P t,W i m P t->(J.stop i t/\Qe t)∨(J.go i t/\∃N:St->Hp->Prop,(∀σ2 d,N σ2 d->∃m',m'<m/\W (i+ 1) m' σ2 d)/\
   ∀x ab,J.yld i t x ab->fF g tt te a.heap.objs.size N x P ab)) (fin:∀C s4 S U,a.heap.objs.size<=C->aO (X.blk s sc cl C a d fp) [] S U s4->Qe U->RR (.ref a.heap.objs.size) C (.ok .next) s4):
  Ys (Yv X.prog X.w) X.A (agG []) (λac s₃=>Ys (Yv X.prog X.w) X.A (newFunctionEnv sc X.env.globals cl [] X.env.qual Yb .none (Ya X.env)) (λQ s₄=>
   Gr (Yv X.prog X.w) X.A (.compStart (.ListComp Zu [⟨tg,iter,Zt,0⟩] sc pos) 0 (.ref it) ac {Q with scope:=relabel sc X.env}) (RR ac Q.locals) s₄) X.xe s₃) X.xe a:=by
 obtain⟨b1,b2,b3,b4,b5,b6⟩:=hB;refine aay (wpAny_newFunctionEnv b1 (by intro y hy;simp at hy) (λh₁ V L=>?_) hk);dsimp only at V L⊢;generalize hP:a.heap.push {cls:=.type "list",dict:=Yb,data:=.seq ([]:List Yd).toArray}=Hl at V L⊢;have hC:Hl.objs.size=a.heap.objs.size+ 1:=by rw[←hP,aaV]
 have ad:a.heap.objs.size≠Hl.objs.size:=by rw[hC];exact YN (abF _)
 have F:∀{b:Ye} {o:pe},a.heap.get? b=Ya o->b≠Hl.objs.size:=fun{b o} z=>by
  have:=Yz z;rw[hC];exact YN (abv this)
 have D:∀b o,a.heap.get? b=Ya o->h₁.get? b=Ya o:=λb o z=>L.extBut b o (F z) (Yj _ (hP▸Yj _ z));have am:h₁.get? a.heap.objs.size=Ya {cls:=.type "list",data:=.seq ([]:List Yd).toArray}:=L.extBut _ _ ad (Yj _ (hP▸Yx _ rfl));have fD:d a.heap.objs.size=none:=l.hok.fresh (Yl _);have fC:d Hl.objs.size=none:=l.hok.fresh (by rw[hC];exact aaU _);have ok:(X.blk s sc cl Hl.objs.size a d fp).Ok:=by
  refine⟨l.ok.mod,hk,l.ok.glob,l.ok.blt,?_,λx y c h1 h2=>l.ok.inj x y c (f x c h1) (f y c h2),λx hx=>?_,λx c z=>?_,l.ok.hd,l.ok.frames,.inl rfl,λb h=>⟨?_,λx c z=>(f2 b h).2.2.2.2.1 x c (f x c z)⟩,
   l.bs,ir l.ok.bsz l.sz,λb o z h=>?_,λb h z=>?_,l.stack,l.stkFree⟩
  ·show a.heap.objs.size<=Hl.objs.size;rw[hC];exact aaU _
  ·have E:(sc.names.map fun(n,k)=>if(k==aab&&X.env.scope.kind==.function&&X.env.kindOf n==Ya .cell)then(n,abc)else(n,k)).lookup x=Ya .cell∨
     (sc.names.map fun(n,k)=>if(k==aab&&X.env.scope.kind==.function&&X.env.kindOf n==Ya .cell)then(n,abc)else(n,k)).lookup x=Ya .free:=hx
   rw[GX.qj]at E;cases e:sc.names.lookup x with
   |none=>
    rw[e]at E;simp at E
   |some k=>
    rw[e]at E;by_cases hf:k=.free
    ·subst hf;exact O x (aaQ e)
    ·have h:(k==aab)=false:=by simpa using hf
     have M:((Ya k).map λk=>if(k==aab&&X.env.scope.kind==.function&&X.env.kindOf x==Ya .cell)then abc else k)=Ya k:=by
      show Ya (if(k==aab&&X.env.scope.kind==.function&&X.env.kindOf x==Ya .cell)=true then abc else k)=Ya k;rw[h,abV,abV];rfl
     rw[M]at E;rcases E with z|z
     ·exact absurd (YF z) (b1 _ (aaQ e))
     ·exact absurd (YF z) hf
  ·cases z
  ·obtain⟨o,z,_⟩:=T.obj 0 _ K b h;exact F z
  ·rcases(f2 b h).2.2.2.1 with f3|f3
   ·exact l.ok.noex b o z f3
   ·have l1:=Yz z;have l2:=l.ok.bsz;exact absurd (Y5 l1 (ir l2 f3)) (Y9 _)
  ·rcases Ym.mp (l.stkSub b z)with z|z
   ·exact(f2 b h).2.1 z
   ·exact(f2 b h).2.2.1 z
 have IY:aO (X.blk s sc cl Hl.objs.size a d fp) [] (FH B σ) (upd d a.heap.objs.size (.lst [])) {a with heap:=h₁,toks:=a.toks+ ([]:List (Yp×Yd)).length}:=by
  refine⟨ok,rfl,l.bare,Un.laid D (Yl _) fD,⟨_,V,λi x v e1 M _=>?_⟩,λx c z=>?_,?_,λx c z=>?_,λp hp=>?_,l.hok.laid D (Yl _) ⟨cT _,[],0,.nil,am⟩,?_⟩
  ·have an:s[i]?=Ya x:=e1;unfold FH at M;rw[Yy]at M;cases es:B[i]? with
   |none=>rw[es]at M;cases M
   |some o=>
    rw[es]at M;cases o with
    |none=>cases M
    |some j=>
     have e3:(σ[j]?).bind (λv=>v)=Ya v:=YF M;have e4:σ[j]?=Ya (Ya v):=by
      cases q:σ[j]? with
      |none=>rw[q]at e3;cases e3
      |some w=>rw[q]at e3;exact congrArg Ya e3
     have hz:(x,Ya j)∈s.zip B:=Yw (i:=i) (by rw[acZ];exact⟨an,es⟩);have ae:=b6 _ hz;have A:(decide (X.N[j]?=Ya x)&&decide (sc.names.lookup x=Ya .free))=true:=ae;rw[aas]at A;have c1:X.N[j]?=Ya x:=of_decide_eq_true A.1;have c2:sc.names.lookup x=Ya .free:=of_decide_eq_true A.2;have G:=aaQ c2;have ag:=b3 _ G rfl;obtain⟨m,hn,hl⟩:=l.loc;obtain⟨u,ru,lk⟩:=hl j x v c1 e4 (.inr ag);rcases lk with⟨k1,_⟩|⟨_,c,k2,z⟩
     ·have ao:X.env.scope.names.lookup x=Ya .local:=k1;rcases ag with v|v<;>(rw[ao]at v;cases v)
     ·obtain⟨c',k3⟩:=O x G;have k4:=f x c' k3;rw[k2]at k4;cases k4;refine⟨u,ru,.inr ⟨?_,c,k3,z.keeps D⟩⟩;show(sc.names.map fun(n,k)=>if(k==aab&&X.env.scope.kind==.function&&X.env.kindOf n==Ya .cell)then(n,abc)else(n,k)).lookup x=Ya .cell∨
       (sc.names.map fun(n,k)=>if(k==aab&&X.env.scope.kind==.function&&X.env.kindOf n==Ya .cell)then(n,abc)else(n,k)).lookup x=Ya .free
      rw[GX.qj,c2];show Ya (if _ then abc else aab)=_∨Ya (if _ then abc else aab)=_;split
      ·exact .inl rfl
      ·exact .inr rfl
  ·obtain⟨v,q⟩:=l.cell x c (f x c z);exact⟨v,q.keeps D⟩
  ·show upd d a.heap.objs.size (.lst []) Hl.objs.size=Yb;rw[ak (Ne.symm ad)];exact fC
  ·obtain⟨v,q⟩:=l.cell x c (f x c z);rw[ak (YN q.lt)];exact l.freeC x c (f x c z)
  ·exact absurd (show p∈([]:List (Ye×pe))from hp) (by simp)
  ·show(B.map _).length=s.length;rw[Yf];exact b5
 have H:∀{t:Hp},(∀b∈fp,t b=Yb)->∀b∈fp,t8 (X.blk s sc cl Hl.objs.size a d fp) [] t b:=λhn b h=>
  ⟨hn b h,(ok.exf b h).1,ok.exfs b h,.inl h,(ok.exf b h).2,λp hp=>absurd (show p∈([]:List (Ye×pe))from hp) (by simp)⟩
 have R:Gr (Yv X.prog X.w) X.A (.compLoop (.ListComp Zu [⟨tg,iter,Zt,0⟩] sc pos) 0 (.ref it) (.ref a.heap.objs.size) (compEnvC sc cl Hl.objs.size X.env))
   (RR (.ref a.heap.objs.size) Hl.objs.size) {a with heap:=h₁,toks:=a.toks+ ([]:List (Yp×Yd)).length}:=by
  refine GX.EO (λn s'=>∃i P t,aO (X.blk s sc cl Hl.objs.size a d fp) [] P t s'/\tn i s'.heap/\(∀b∈fp,t b=Yb)/\W i n P t) ?_ m0
   ⟨0,_,_,IY,T.keep 0 _ _ K (λb _ o z=>D b o z),λb h=>?_,w0⟩
  ·rintro n s3 ⟨i,S,U,I3,ah,al,w3⟩;rcases turn i n S U w3 with⟨stop,qn⟩|⟨go,N,hN,step⟩
   ·refine Yg (cL (T.done (X.blk s sc cl Hl.objs.size a d fp) rfl rfl rfl hc i [] s3 S U (λ_ _=>False) I3 (H al) ah stop) λr s4 I=>?_);obtain⟨hr,I4⟩:=I;subst hr;exact Yt<|fin _ s4 S U (by rw[hC];exact aaU _) I4 qn
   ·refine Yg (cL (T.item (X.blk s sc cl Hl.objs.size a d fp) rfl rfl rfl hc i [] s3 S U (λ_ _=>False) I3 (H al) ah go) λr s4 I=>?_);obtain⟨u,hr,h4⟩:=I;subst hr;refine Yg (cL h4 λ_ s5 I=>?_);obtain⟨x,H5,I5,r5,y5,Y,ap⟩:=I;have aq:=I5.pinned (H ap) (T.obj _ _ Y);have again:∀{σ7:St} {Z:Hp} {s7:Yn},aO (X.blk s sc cl Hl.objs.size a d fp) ([]++vZ fp s5.heap) σ7 Z s7->N σ7 Z->
      ∃m,m<n/\∃i P t,aO (X.blk s sc cl Hl.objs.size a d fp) [] P t s7/\tn i s7.heap/\(∀b∈fp,t b=Yb)/\W i m P t:=fun{σ7 Z s7} I7 n7=>by
     obtain⟨m',hm,w7⟩:=hN σ7 Z n7;refine⟨m',hm,i+ 1,σ7,Z,I7.unpinned,T.keep _ _ _ Y λb h o z=>(I7.pin (b,o) (YK _ (YK _ (hX h z)))).1,λb h=>?_,w7⟩;obtain⟨o,z,_⟩:=T.obj _ _ Y b h;exact(I7.pin (b,o) (YK _ (YK _ (hX h z)))).2.1
    refine Yg (cL (hg cl Hl.objs.size a d fp b4 _ s5 S H5 x u _ aq r5 (step x H5 y5)) λ_ s6 I=>?_);obtain⟨σ6,H6,I6,q6⟩:=I;refine Yg (cL (ht cl Hl.objs.size a d fp _ s6 σ6 H6 _ I6 q6) λok s7 I=>?_);obtain⟨Z,I7,q7⟩:=I;cases ok with
    |true=>
     rw[if_pos rfl]at q7⊢;refine Yg (cL (he cl Hl.objs.size a d fp _ s7 σ6 Z _ I7 q7) λyv s8 I=>?_);obtain⟨y,H8,I8,r8,ys,hD,hz,n8⟩:=I;exact Yg<|cL (mL (X:=X.blk s sc cl Hl.objs.size a d fp) _ s8 σ6 H8 (.ref a.heap.objs.size) [y] (.ref a.heap.objs.size) [yv] (λ_ t=>N σ6 t) I8 rfl (.cons r8 .nil) ⟨_,ys,y,rfl,rfl,hD,hz,n8⟩)
      λ_ s9 ⟨_,H9,I9,_,n9⟩=>Yt (again I9 n9)
    |false=>
     rw[if_neg YZ]at q7⊢;exact Yt (again I7 q7)
  ·obtain⟨o,z,_⟩:=T.obj 0 _ K b h;rw[ak (YN (Yz z))];exact(f2 b h).1
 exact codeAny_compStart_list R (T.self X.A 0 _ _ _ (T.keep 0 _ _ K (λb _ o z=>D b o z)) R)
theorem bS(i:List Yp)(j:List (Option Nat))(z:X.calm=true)(hk:sc.kind=.function)(A:decide (NS X.N i j X.env.scope sc)=true)(D:PI X tg iter wi)(E:∀cl C a d fp,i.Nodup->PG (X.blk i sc cl C a d fp) tg g)(F:∀cl C a d fp,WZ (X.blk i sc cl C a d fp) Zt tt)(G:∀cl C a d fp,PE (X.blk i sc cl C a d fp) Zu te)(hs:∀x,aez iter X.env x=pure x:=by intro _;rfl):
  PE X (.ListComp Zu [⟨tg,iter,Zt,0⟩] sc pos) (La j wi g tt te):=by
 intro u s σ H Q I h;have B:=of_decide_eq_true A;obtain⟨cl,c,k,l⟩:=GX.zE (env:=X.env) (sc:=sc) λy K L=>I.ok.has y.1 (B.2.2.1 y K L);rw[eval_ListComp];refine aeY (use:=Yb) rfl hs c hk B.2.1 (cL (D u s σ H _ I h) λv Y h1=>cL h1 λM a h2=>?_);obtain⟨Z,fp,tn,J,d,e,p,T,r,n,q⟩:=h2;subst e;obtain⟨W,⟨m0,N⟩,turn⟩:=q a.heap.objs.size (p.hok.fresh (Yl _));refine Bq (RR:=λt C=>compPost (Yv X.prog X.w) X.A X.xe Yb (EP X u σ Q) t C) (Qe:=λO=>Q (.ref a.heap.objs.size) O) z hk B k l E F G p T r n N turn λC P σ3 R S f U=>?_;obtain⟨m,hn,_⟩:=f.loc;refine⟨m,hn,λV w=>⟨.ref a.heap.objs.size,R,?_,rfl,U⟩⟩;exact p.call' (s':={P with heap:=V}) (ch:=fp) f.os (f.base.but w (afV S)) (f.hok.but w f.free) f.bare λb o=>⟨(n b o).2.2.2.1,(n b o).2.1,(n b o).2.2.2.2.1,(n b o).2.2.2.2.2⟩
theorem ka{l f:abz}{y:Yp}(u:List Yp)(w:List (Option Nat))(hN:X.N.Nodup)(K:X.N[i]?=Ya y)(hl:WY X.env.scope y)(hc:X.calm=true)(hk:sc.kind=.function)(hB:decide (NS X.N u w X.env.scope sc)=true)(hi:PI X tg iter wi)(hg:∀cl C d n fp,u.Nodup->PG (X.blk u sc cl C d n fp) tg g)(ht:∀cl C d n fp,WZ (X.blk u sc cl C d n fp) Zt tt)(he:∀cl C d n fp,PE (X.blk u sc cl C d n fp) Zu te)(L:adz (.ListComp Zu [⟨tg,iter,Zt,0⟩] sc pos) (Ya (.Name y l)) f.line X.env=pure true:=by rfl)(hs:∀x,aez iter X.env x=pure x:=by intro _;rfl)(M:X.fn y=true∨X.env.scope.names.lookup y=Ya .local:=by first|exact .inl rfl|exact .inr rfl):
  PS X (.Assign [.Name y l] (.ListComp Zu [⟨tg,iter,Zt,0⟩] sc pos) f) (Md (La w wi g tt te) (yt i)):=by
 intro G s σ H D I h;have B:=of_decide_eq_true hB;obtain⟨cl,j,A,E⟩:=GX.zE (env:=X.env) (sc:=sc) λy K M=>I.ok.has y.1 (B.2.2.1 y K M);rw[exec_Assign_Name_used _ _ _ _ L];refine Yg (adu (Yg ?_));show Ys _ X.A (do let _←comprehension (.ListComp Zu [⟨tg,iter,Zt,0⟩] sc pos) sc X.env _ (agG []) false (lr iter X.env) (Ya (aeP (.Name y l) X.env))) _ _ s;refine Yg (oh (aeY (use:=Ya (aeP (.Name y l) X.env)) (Q:=λ_ s'=>SP X G D .next s') rfl hs j hk B.2.1
  (cL (hi G s σ H _ I h) λv s1 h1=>cL h1 λab d h2=>?_)) (λ_ s' hq=>Yt (Yt hq)) λ_ _ e=>e)
 obtain⟨it,fp,tn,J,n,e,k,T,N,F,q⟩:=h2;subst e;obtain⟨W,⟨m0,w0⟩,turn⟩:=q d.heap.objs.size (k.hok.fresh (Yl _));refine Bq (RR:=λO C=>compPost (Yv X.prog X.w) X.A X.xe (Ya (aeP (.Name y l) X.env)) (λ_ s'=>SP X G D .next s') O C) (Qe:=λH'=>D.nx (σ.set i (Ya (.ref d.heap.objs.size))) H') hc hk B A E hg ht he k T N F w0 turn
  λC S σ3 U P r qn=>?_
 have IX:aO X G σ U S:=k.call' (ch:=fp) r.os r.base r.hok r.bare λb t=>⟨(F b t).2.2.2.1,(F b t).2.1,(F b t).2.2.2.2.1,(F b t).2.2.2.2.2⟩;have V:∀{b:Ye} {o:pe},d.heap.get? b=Ya o->C≠b:=fun{b o} z=>abJ (Y5 (Yz z) P);have Y:C≠X.env.locals:=abJ (Y5 k.lt P);have Z:∀x c,X.env.cells.lookup x=Ya c->c≠C:=λx c z=>by
  obtain⟨v,o,ho,_⟩:=k.cell x c z;exact Ne.symm (V ho)
 obtain⟨m,hn,_⟩:=r.loc;show Ys _ X.A (aeP (.Name y l) X.env (.ref d.heap.objs.size)) _ _ S;refine agK (AG IX hN K hl (v:=.ref d.heap.objs.size) rfl (λs5 I5 h5=>?_) M);obtain⟨a,sb,ha⟩:=h5;have na:C≠a:=by
  rcases ha with z|z
  ·rw[z];exact Y
  ·exact Ne.symm (Z _ _ z)
 refine⟨m,hn.sameBut sb na,λh' R=>⟨_,U,?_,qn⟩⟩;exact I5.turned (it:=C) (t':=s5.toks) (λb o t z=>(R.2 b t).trans z) r.free Y (.inr (ir k.sz P)) Z λp hp=>Ne.symm (V (k.pin p hp).1)
theorem Cy{N:St->Hp->Prop}{x:V}(h:te (σ.set i (Ya x)) H λy a=>∃ys,a D=Ya (.lst ys)/\ys.length<YB/\N (σ.set i (Ya x)) (upd a D (.lst (ys++[y])))):fF (yt i) Uj te D N x σ H:=by
 show(if true=true then te (σ.set i (Ya x)) H (λy a=>∃ys,a D=Ya (.lst ys)/\ys.length<YB/\N (σ.set i (Ya x)) (upd a D (.lst (ys++[y]))))else N (σ.set i (Ya x)) H);rw[if_pos rfl];exact h
theorem sY{lo:Int}{n:Nat}(c:Nat->St->Hp->Prop)(h0:c 0 σ H)(hs:∀i σ H,i<n->c i σ H->fF g tt te D (c (i+ 1)) (.int (lo+ i)) σ H)(hd:∀σ H,c n σ H->Qe H):
  ∃W:Nat->Nat->St->Hp->Prop,(∃m,W 0 m σ H)/\∀i m f a,W i m f a->((KU lo n).stop i a/\Qe a)∨((KU lo n).go i a/\∃N:St->Hp->Prop,(∀h j,N h j->∃k,k<m/\W (i+ 1) k h j)/\
   ∀x d,(KU lo n).yld i a x d->fF g tt te D N x f d):=by
 refine⟨λi m σ H=>m=n-i/\i<=n/\c i σ H,⟨n,by simp,cT _,h0⟩,?_⟩;rintro i m σ H ⟨rfl,o,p⟩;by_cases b:i<n
 ·refine .inr ⟨b,c (i+ 1),λf a l=>⟨n-(i+ 1),by omega,rfl,b,l⟩,λx a y=>?_⟩;obtain⟨e,y⟩:=y;subst e y;exact hs i σ _ b p
 ·have e:i=n:=by omega
  subst e;exact .inl ⟨Yl _,hd σ H p⟩
theorem bh{K:Yc}{a:Ye}{xs:List V}(b:Nat->St->Hp->Prop)(h0:b 0 σ H)(hl:∀i σ H,i<=xs.length->b i σ H->a9 K H a xs)(hs:∀i x σ H,xs[i]?=Ya x->b i σ H->fF g tt te D (b (i+ 1)) x σ H)(hd:∀σ H,b xs.length σ H->Qe H):
  ∃W:Nat->Nat->St->Hp->Prop,(∃m,W 0 m σ H)/\∀i m h c,W i m h c->((LC K a).stop i c/\Qe c)∨((LC K a).go i c/\∃N:St->Hp->Prop,(∀j k,N j k->∃l,l<m/\W (i+ 1) l j k)/\
   ∀x d,(LC K a).yld i c x d->fF g tt te D N x h d):=by
 refine⟨λi m σ H=>m=xs.length-i/\i<=xs.length/\b i σ H,⟨xs.length,by simp,cT _,h0⟩,?_⟩;rintro i m σ H ⟨rfl,n,p⟩;have q:=hl i σ H n p;by_cases f:i<xs.length
 ·refine .inr ⟨⟨xs,xs[i],q,by simp[f]⟩,b (i+ 1),λh c o=>⟨xs.length-(i+ 1),by omega,rfl,f,o⟩,λx c y=>?_⟩;obtain⟨e,y⟩:=y;subst e;exact hs i x σ _ (y xs q) p
 ·have e:i=xs.length:=by omega
  subst e;exact .inl ⟨⟨xs,q,Yl _⟩,hd σ H p⟩
section
theorem E7:dO X (.builtin "isinstance") (λxs H Q=>∃(x:V) (t:Yd) (T:String) (b:Bool),xs=[x,.ty T]/\ur X.K H x t/\afE X.K t (.type T)=Ya b/\Q (.bl b) H):=by
 intro f s σ H xs us Q I r h;obtain⟨x,t,T,b,rfl,ty,e,q⟩:=h;obtain⟨u,a,rfl,c,d⟩:=Aw r;obtain rfl:a=aaG T:=d;exact KD I c ty e λtk=>⟨.bl b,H,I.tok tk,rfl,q⟩
theorem Jf:Ww X "int.bit_length" (λx vs H Q=>∃i,x=.int i/\vs=[]/\Q (.int (aaw i)) H):=by
 intro c s σ H x d v us Q I a b h;obtain⟨i,rfl,rfl,q⟩:=h;obtain⟨t,rfl⟩:=a;cases b;exact call_int_bit_length ⟨.int (aaw i),H,I.tok _,⟨_,rfl⟩,q⟩
theorem Kt(bs:List Bool):(Y8 bs.length).all (λi=>bs.getD i false)=bs.all λb=>b:=by
 have e:(Y8 bs.length).map (λi=>bs.getD i false)=bs:=aeZ (by simp) λi h1 h2=>by simp[h2]
 conv=>rhs;rw[←e,List.all_map]
 rfl
theorem NF(j:X.calm=true):dO X (.builtin "all") (λxs H Q=>∃(p:Ye) (bs:List Bool),xs=[.ref p]/\a9 X.K H p (bs.map V.bl)/\Q (.bl (bs.all λb=>b)) H):=by
 intro y s σ H xs us Q I r h;obtain⟨p,bs,rfl,k,q⟩:=h;obtain⟨u,rfl,l⟩:=fG r;cases l;obtain⟨a,d,c,B⟩:=I.list k;have hl:a.toArray.size=bs.length:=by rw[YC,←d.length,Yf]
 have hp:p<s.heap.objs.size:=let ⟨_,z,_⟩:=c.isList;Yz z;refine call_all_walk (aa2 c.isList ?_);refine⟨s.heap.objs.size,[s.heap.objs.size,p],[s.heap.objs.size],a.toArray.size,_,_,λi=>bs.getD i false,rfl,adN (A:=X.A.in1) (I.ok.hd j) _ p (YN hp) a.toArray,
  ⟨⟨_,Yx _ rfl,rfl,rfl⟩,c.isList.push _⟩,λi v s' C D m n=>?_,λE tk kp=>?_⟩
 ·have f:a[i]?=Ya v:=by simpa using m
  have g:i<bs.length:=by
   have:=(Yh.mp f).1;rw[←hl,YC];exact this
  obtain⟨u,hu,t⟩:=d.get (i:=i) (x:=V.bl bs[i]) (by rw[Yy,Yk g];rfl);rw[f]at hu;cases hu;obtain rfl:v=acG bs[i]:=t;refine abu ?_;have e:bs.getD i false=bs[i]:=by rw[YM,Yk g,ae0]
  rw[←e];exact n
 ·refine⟨.bl (bs.all λb=>b),H,I.kept (t':=tk) λb o e=>kp b o ?_ (Yj _ e),?_,q⟩
  ·intro z;have w:b=s.heap.objs.size:=by simpa using z
   exact absurd (Yz e) (by rw[w];exact Y9 _)
  ·show acG _=acG _;rw[hl,Kt]
def LQ(X:Cx)(id:String)(ks:List Yp)(r:List V->List V->Hp->VK->Prop):Prop:=
 ∀(a:List (Ye×pe)) (s:Yn) (σ:St) (H:Hp) (b c:List V) (us d:List Yd) (Q:VK),aO X a σ H s->Vals b us->Vals c d->r b c H Q->
  Ys (Yv X.prog X.w) X.A (call (.builtin id) us (ks.zip d)) (EP X a σ Q) X.xe s
def Xf(r:List V->List V->Hp->VK->Prop)(t tk:TA):TE:=λσ H Q=>t σ H λa b=>tk σ b λc d=>r a c d Q
theorem Ke{ks:List Yp}{tk:TA}{id:String}{r:List V->List V->Hp->VK->Prop}(j:LQ X id ks r)(k:Gl X x)(hm:X.mg x=Yb)(l:abk x=Ya (.builtin id))(ha:PA X (e::es) t)(hk:PK X Zo tk)(c:(abl pos (aaC Zo X.env)).filterMap (·.1)=ks:=by rfl)(hn:x≠"__name__":=by decide)(d:(x==("__debug__":Yp))=false:=by decide)(m:aad pos (YW (e::es) X.env)=(false,lr e X.env)::aad pos (YW es X.env):=by rfl)(a:(aad pos (YW (e::es) X.env)).any (·.1)=false:=by rfl)(b:(abl pos (aaC Zo X.env)).all (·.1.isSome)=true:=by rfl)(f:(abl pos (aaC Zo X.env)).any (·.1.isNone)=false:=by rfl):PE X (.Call (.Name x p) (e::es) Zo pos) (Xf r t tk):=by
 intro g s σ H Q I h;refine aaR (qe I k hm l ?_ hn d);refine adV (cL (ha pos g s σ H _ I h) λus n i=>?_) m a b f;obtain⟨o,q,u,v,w⟩:=i;refine cL (hk pos g n σ q _ u w) λy z i=>?_;obtain⟨A,B,C,D,E⟩:=i;rw[c];exact j g z σ B o A us y Q C v D E
theorem vV(a v:Yd):abX "min" ⟨[a],[(aaa "default",v)]⟩:=by unfold abX;kernel_rfl
theorem Kg(B:X.calm=true):LQ X "min" [aaa "default"] (λxs zs H Q=>∃(p:Ye) (ns:List Int) (d:V),xs=[.ref p]/\zs=[d]/\a9 X.K H p (ns.map V.int)/\(ns=[]->Q d H)/\∀b,b∈ns->(∀z∈ns,b<=z)->Q (.int b) H):=by
 intro K s σ H xs zs us L Q I r C h;obtain⟨p,ns,d,rfl,rfl,D,h0,h1⟩:=h;obtain⟨u,rfl,E⟩:=fG r;cases E;obtain⟨o,rfl,rd⟩:=fG C;obtain⟨g,w,F,y⟩:=I.list D;have hl:g.length=ns.length:=by rw[←w.length,Yf]
 have f:∀(i:Nat) v,g[i]?=Ya v->∃n t,ns[i]?=Ya n/\v=.int n t:=λi v e=>by
  have b:i<ns.length:=hl▸(Yh.mp e).1;obtain⟨u,hu,t,rfl⟩:=w.get (i:=i) (x:=V.int ns[i]) (by simp[b]);exact⟨ns[i],t,by simp[b],YF (e.symm.trans hu)⟩
 refine GX.Hd GX.Bj GX.EF afw afx (ko:=Yb) (d:=Ya o) (I.ok.hd B) rfl (vV _ _) F.isList
  (λi j=>decide (ns.getD i 0<ns.getD j 0)) (λi=>by simp) (λi j h=>by simp at h⊢;omega) (λa b c h h2=>by simp at h h2⊢;omega) (λi v=>∃t,v=.int (ns.getD i 0) t) ?_ ?_ ?_ ?_
 ·intro j v h tk l G;obtain⟨n,t,hn,rfl⟩:=f j v l;exact And.intro ⟨t,by rw[YM,hn];rfl⟩ ⟨tk,rfl⟩
 ·exact λi j k M h tk J m G Q q=>CmpOf.ints_lt (P:=λi v=>∃t,v=.int (ns.getD i 0) t) (λi=>ns.getD i 0) (λ_ _ z=>z) j i _ _ _ _ _ J m q
 ·exact λe=>⟨o,rfl,λh tk G=>⟨d,H,I.kept (t':=tk) G,rd,h0 (aav (by rw[←hl,e];rfl))⟩⟩
 ·intro i v h tk l ft G;obtain⟨n,t,hn,rfl⟩:=f i v l;refine⟨.int n,H,I.kept (t':=tk) G,⟨t,rfl⟩,h1 n (Yw hn) λz y=>?_⟩;obtain⟨j,A,rfl⟩:=ab5 y;have:=(ft j (hl▸A)).1;simpa [YM,hn,A]using this
end
structure eM(K:Yc)(mg:Yp->Option Yd)(x:Yp)(f:Ye)(fd:YE)(ps:List Yp):Prop where
 mg:mg x=Ya (.ref f)
 kp:abE K (.ref f)=true
 bd:Binds K fd ps []
theorem bg{k:Nat}{f:Ye}{fd:YE}{ps:List Yp}{sp:Sp}(F:aH X.prog X.w X.K X.mg X.base bx k f fd ps sp)(c:eM X.K X.mg x f fd ps)(d:cZ k X.A)(ha:PA X (e::es) t)(g:Gl X x:=by rfl)(a:(x==("__debug__":Yp))=false:=by decide)(h:YW (e::es) X.env=(false,lr e X.env)::YW es X.env:=by rfl)(b:(aad pos (YW es X.env)).any (·.1)=false:=by rfl):
  PE X (.Call (.Name x p) (e::es) [] pos) (IC sp [] E0 t):=Qp F d g c.mg c.kp c.bd .nil oF ha a h b
theorem BW{T:String}(hm:X.mg x=Yb)(b:abk x=Ya (.type T))(c:Gl X x:=by rfl)(hn:x≠"__name__":=by decide)(a:(x==("__debug__":Yp))=false:=by decide):PE X (.Name x pos) (tC (.ty T)):=
 PU c hm b rfl hn a
def Sz(K:Yc)(t:TE):TT:=λσ H Q=>t σ H λx a=>∃k,Nr K x a k/\Q k a
theorem dS(K:Yc){f:cb}{t:TE}(a:X.K=K)(h:PE X (.Call f es Zo pos) t):PT X (.Call f es Zo pos) (Sz K t):=by
 subst a;exact Di h λ_=>rfl
section
end
end L2
namespace GX
open PySem
variable{prog:Y0}{w:Y7}{A:uc}{E Q:Yd->Yn->Prop}{s:Yn}{l:Ye}{n:Nat}{T:String}{nm:Yp}{R:acv->Yn->Prop}
theorem KJ:af0 (.type "list") (aaa "keys")=pure none:=am_miss_of_fast (by kernel_rfl)
section
variable{items:Array Yd}{Q:Option Yd->Yn->Prop}
theorem NT{id:String}{B:GV}{x:Yd}{S:aiY}(slot:ait T nm id)(a:acg aef id=Ya B)(b:s.TypeIs (.ref l) T)(c:abX id ⟨[.ref l,x],[]⟩)(m:acp (B ⟨[.ref l,x],[]⟩) S)(h:S A R s):
  Gr (Yv prog w) A (.call (.builtin id) ⟨[.ref l,x],[]⟩) R s:=aaW slot.plain a (slot.check _ _ _ _ _ _ _ _ b c (m prog w A R s h))
theorem PH{id:String}{o:pe}(slot:ait T "__getattribute__" id)(ga:af0 (.type T) "__getattr__"=pure Yb)(j:acg aef id=Ya GV.«object.__getattribute__»)(k:∀a b,abX id ⟨[a,b],[]⟩)(hl:s.heap.get? l=Ya o)(n:o.cls=.type T)(m:∀u,acp (GV.«object.__getattribute__» ⟨[.ref l,.str nm u],[]⟩) (λA R s=>s.heap.get? l=Ya o/\raisesAttr (.ref l) nm A R s))(p:A.handled=Yb)(h:∀h' tk,rW s.heap h'->Q Yb {s with heap:=h',toks:=tk}):Ys (Yv prog w) A (ag8 (.ref l) nm) Q E s:=by
 obtain⟨c,dd,dt,r⟩:=o;cases n;obtain⟨hp,g,d,tk,os⟩:=s;have i:∀tk,BD ⟨hp,g,d,tk,os⟩ (.ref l) T:=λ_=>⟨_,hl,rfl⟩;have:=slot.lookup;have:=slot.bind (.ref l);have:=sub_AttributeError;unfold ag8 getAttrBy? getAttrBy
 repeat' first|assumption|exact i _|wp_step
 refine NT slot j (i _) (k _ _) (m _) ⟨hl,p,λh' f e x=>?_⟩;obtain⟨t,v,_⟩:=x.there;have q:=h h' f x.keeps;unfold getattributeRaised
 repeat' first|assumption|wp_step
theorem HV(a:A.handled=Yb)(hl:s.heap.get? l=Ya (yM items n))(h:∀h' tk,rW s.heap h'->Q Yb {s with heap:=h',toks:=tk}):Ys (Yv prog w) A (ag8 (.ref l) (aaa "keys")) Q E s:=
 PH F.slot_list_getattribute am_list_getattr_none am_entry_list_getattribute F.args_list_getattribute_2 hl rfl (λu=>meets_getattribute_miss_list l items n _ _ u KJ (by decide)) a h
end
theorem qr:acg aef "dict.update.loop"=Ya GV.«dict.update.loop»:=ag9 (by kernel_rfl)
theorem gw:afH "dict.update.loop"=true:=by decide +kernel
section
variable{I d:Ye}{fp wr:List Ye}{P:Nat->Yd->Prop}{St:Nat->YV->Prop}{K:Type}[DecidableEq K]{knd:aee prog w K}
theorem G8(a:List (K×Yd)):(aeS [] a).length<=a.length:=by
 have:=merged_length_le [] a;simpa using this
theorem Fv(I d:Ye)(i:Int)(t:acT):ahX prog w (GV.«dict.update.loop» ⟨[.ref d,.ref I,.int i t,.none],[]⟩) λA R s=>Ys (Yv prog w) A.in1 (aaA (.ref I)) (λr s=>match r with
  |none=>R (.ok (.ret .none)) s
  |some v=>∃a o k x c,v=.ref a/\s.heap.get? a=Ya o/\o.cls=.type "tuple"/\o.data=.seq #[k,x] c/\
   Ys (Yv prog w) A.in1 (dictSet d k x) (λ_ s=>Gr (Yv prog w) A (.builtin "dict.update.loop" ⟨[.ref d,.ref I,.int (i+ 1) 0,.none],[]⟩) R s) (λ_ _=>False) s) (λ_ _=>False) s:=by
 intro A R s nx;show Ys _ _ (aaA (.ref I) >>= _) _ _ s;apply Yg;refine oh nx (λr b h=>?_) λ_ _ z=>z.elim;rcases r with _|v
 ·wp_walk
  exact h
 ·obtain⟨a,o,k,x,c,rfl,ha,f,hd,q⟩:=h;have ty:b.TypeIs (.ref a) "tuple":=⟨o,ha,f⟩;apply Yg;apply aaI;apply Yg;apply ad8
  wp_walk using ad9 ha hd,oh q
  ·exact λ_ _ e=>Yt ⟨abA gw _,e⟩
  ·exact λ_ _ z=>z.elim
theorem Ob{D:Nat->YV->Prop}(W:afi prog w A.in1 I fp wr n P St)(nd:d∉fp)(calm:∀i h h',D i h->(∀b o,b∉wr->h.get? b=Ya o->h'.get? b=Ya o)->D i h')
  (turn:∀i v s,P i v->D i s.heap->∃a o k x c,v=.ref a/\s.heap.get? a=Ya o/\o.cls=.type "tuple"/\o.data=.seq #[k,x] c/\
   ∀Q:Unit->Yn->Prop,(∀h,D (i+ 1) h->(∀b,b≠d->h.get? b=s.heap.get? b)->∀tk,Q () {s with heap:=h,toks:=tk})->Ys (Yv prog w) A.in1 (dictSet d k x) Q (λ_ _=>False) s):
  ∀(k i:Nat) (s:Yn) (t:acT),n=i+ k->St i s.heap->D i s.heap->(∀h tk,D n h->R (.ok (.ret .none)) {s with heap:=h,toks:=tk})->
   Gr (Yv prog w) A (.builtin "dict.update.loop" ⟨[.ref d,.ref I,.int i t,.none],[]⟩) R s:=by
 intro k
 induction k with
 |zero=>
  intro i s t e st f fin;obtain rfl:n=i:=e;exact enter qr gw (Fv I d _ t) (W.done s _ _ st λh tk q=>fin h tk (calm _ _ _ f q))
 |succ k ih=>
  intro i s t e st f fin;refine enter qr gw (Fv I d _ t) (W.item i s _ _ (by omega) st λv h tk pv g q=>?_);obtain⟨a,o,y,x,c,j,l,m,p,set⟩:=turn i v {s with heap:=h,toks:=tk} pv (calm _ _ _ f q);refine⟨a,o,y,x,c,j,l,m,p,set _ λh2 r u tk=>?_⟩;exact ih (i+ 1) {s with heap:=h2,toks:=tk} 0 (by omega) (W.frame _ _ _ g λb B o e=>(u b λz=>nd (z▸B)).trans e) r fin
theorem NY(W:afi prog w A.in1 I fp wr n P St)(nd:d∉fp)(h₀:YV)(g:List (K×Yd))(hn:g.length=n)(hz:n<=YB)
  (u:∀i v,P i v->∃a j k x o c,v=.ref a/\g[i]?=Ya (k,x)/\knd.is k j=true/\h₀.get? a=Ya o/\o.cls=.type "tuple"/\o.data=.seq #[j,x] c/\a≠d/\a∉wr):
  ∀(k i:Nat) (s:Yn) (t:acT),n=i+ k->St i s.heap->(∀b o,b∉wr->b≠d->h₀.get? b=Ya o->s.heap.get? b=Ya o)->s.heap.DictOf knd d (aeS [] (g.take i))->
  (∀h' tk,(∀b o,b∉wr->b≠d->h₀.get? b=Ya o->h'.get? b=Ya o)->h'.DictOf knd d (aeS [] g)->R (.ok (.ret .none)) {s with heap:=h',toks:=tk})->
  Gr (Yv prog w) A (.builtin "dict.update.loop" ⟨[.ref d,.ref I,.int i t,.none],[]⟩) R s:=by
 have y:d∉wr:=λz=>nd (W.sub _ z);intro k i s t B st kp dd fin;refine Ob (D:=λi h=>(∀b o,b∉wr->b≠d->h₀.get? b=Ya o->h.get? b=Ya o)/\h.DictOf knd d (aeS [] (g.take i))) W nd ?_ ?_ k i s t B st ⟨kp,dd⟩ λh tk q=>fin h tk q.1 ?_
 ·rintro i h h' ⟨kp,od,C,E,ho,r⟩ q;exact⟨λb o l f e=>q b o l (kp b o l f e),od,C,E,q d od y ho,r⟩
 ·rintro i v s pv ⟨kp,dd⟩;obtain⟨a,j,k,x,o,c,rfl,F,G,ha,H,hd,J,m⟩:=u i v pv;refine⟨a,o,j,x,c,rfl,kp a o m J ha,H,hd,λQ q=>wpAny_dictSet_pairs G dd (λh2 L p=>q h2 ⟨λb o l f e=>(p.2 b f).trans (kp b o l f e),?_⟩ p.2 _) (ir (G8 _) (by rw[mr];omega))⟩;rw[merged_take_succ [] g i (k,x) F];exact L
 ·have z:=q.2;rwa [←hn,YI]at z
end
section
variable{K:Type}[DecidableEq K]{knd:aee prog w K}
noncomputable abbrev Kx(h:YV):YV:=h.push {cls:=.type "dict",data:=.dict #[]}
theorem yO(ty:BD {s with heap:=Kx s.heap} (.ref l) T)(b:(aaG T !=.type "dict")=true)(h:Ys (Yv prog w) A.in1.in1 (ag8 (.ref l) (aaa "keys")) (λr a=>r=Yb/\Ys (Yv prog w) A.in1.in1 (adm (.ref l))
   (λit c=>Gr (Yv prog w) A.in1 (.builtin "dict.update.loop" ⟨[.ref s.heap.objs.size,it,.int 0 0,.none],[]⟩) (aip (λr d=>r=.none/\Q (.ref s.heap.objs.size) d) E) c) E a) E {s with heap:=Kx s.heap}):
  Ys (Yv prog w) A (call (.type "dict") [.ref l]) Q E s:=by
 apply callType_codes F.kt_called_dict (F.kt_typeCall_dict_1 _) F.entry_dict_init (kt_code_dict_new (Q₁:=λv a=>v=.ref s.heap.objs.size/\a={s with heap:=Kx s.heap}) _ ⟨rfl,rfl⟩);rintro _ _ ⟨rfl,rfl⟩;have td:BD {s with heap:=Kx s.heap} (.ref s.heap.objs.size) "dict":=⟨_,Yx _ rfl,rfl⟩;refine⟨td,F.args_dict_init_2 _ _,?_⟩;show Ys _ _ (Builtin.Dict.selfAndRest _ _ >>= _) _ _ _
 wp_walk using wpAny_notOrdered_dict td,ahY b,oh h
 ·rintro _ a ⟨rfl,q⟩
  wp_walk using oh q
  ·exact λ_ _ e=>Yt ⟨abA gw _,e⟩
  ·exact λ_ _ e=>e
 ·exact λ_ _ e=>e
theorem uq{vs:List Yd}{q:List (K×Yd)}(D:A.handled=Yb)(hl:s.heap.get? l=Ya {cls:=.type "list",dict:=Yb,data:=.seq vs.toArray n,slots:=#[]})(hz:vs.length<=YB)(m:q.length=vs.length)(J:∀(i:Nat) v,vs[i]?=Ya v->∃a t k x o c,v=.ref a/\q[i]?=Ya (k,x)/\knd.is k t=true/\s.heap.get? a=Ya o/\o.cls=.type "tuple"/\o.data=.seq #[t,x] c)(h:∀h' tk,(∀b o,s.heap.get? b=Ya o->h'.get? b=Ya o)->h'.DictOf knd s.heap.objs.size (aeS [] q)->Q (.ref s.heap.objs.size) {s with heap:=h',toks:=tk}):
  Ys (Yv prog w) A (call (.type "dict") [.ref l]) Q E s:=by
 have g:(Kx s.heap).get? l=Ya {cls:=.type "list",dict:=Yb,data:=.seq vs.toArray n,slots:=#[]}:=Yj _ hl;refine yO (T:="list") ⟨_,g,rfl⟩ (by decide) (HV D g λh1 CV u=>⟨rfl,?_⟩);have p:=u l _ g;have y:l<h1.objs.size:=Yz p;have ld:l<s.heap.objs.size:=Yz hl;have F:h1.IsList l vs.toArray:=⟨_,p,rfl,n,rfl⟩;have G:h1.DictOf knd s.heap.objs.size []:=by
  obtain⟨od,H,I,ho,r⟩:=Heap.DictOf.new (knd:=knd) s.heap;exact⟨od,H,I,u _ _ ho,r⟩
 have j:s.heap.objs.size<h1.objs.size:=by
  obtain⟨od,H,I,ho,r⟩:=G;exact Yz ho
 have L:∀{b:Ye},b<h1.objs.size->b≠h1.objs.size:=λz=>YN z;refine aa2 (s:={s with heap:=h1,toks:=CV}) F ?_;have W:=adN (prog:=prog) (w:=w) (A:=A.in1.in1) D h1.objs.size l (L y) vs.toArray;refine NY (A:=A.in1) (knd:=knd) W (d:=s.heap.objs.size) ?_ s.heap q (by rw[m,YC]) (by rw[YC];exact hz) (λi v M=>?_) vs.toArray.size 0 _ 0 (by omega)
  ⟨⟨_,Yx _ rfl,rfl,rfl⟩,F.push _⟩ (λb o _ X e=>Yj _ (u b o (Yj _ e))) ?_ λh2 B N O=>?_
 ·intro z;have f:s.heap.objs.size=h1.objs.size∨s.heap.objs.size=l:=by simpa using z
  rcases f with f|f
  ·exact absurd j (by rw[f];exact Y9 _)
  ·exact absurd ld (by rw[f];exact Y9 _)
 ·obtain⟨a,t,k,x,o,c,P,R,S,C,U,V⟩:=J i v (by simpa using M);refine⟨a,t,k,x,o,c,P,R,S,C,U,V,YN (Yz C),λz=>?_⟩;have f:a=h1.objs.size:=by simpa using z
  exact absurd (aeR (Yz C) j) (by rw[f];exact Y9 _)
 ·exact G.push _
 ·exact⟨rfl,h h2 B (λb o e=>N b o (λz=>by
   have f:b=h1.objs.size:=by simpa using z
   exact absurd (aeR (Yz e) j) (by rw[f];exact Y9 _)) (YN (Yz e)) e) O⟩
end
end GX
namespace GX
open PySem PyProof.Rows
section
variable{prog:Y0}{w:Y7}{A:uc}{E:Yd->Yn->Prop}{s:Yn}
theorem wg{x:Yd}{a:List (Yp×Yd)}{Q:Yd->Yn->Prop}(ok:abX "sorted" ⟨[x],a⟩)
  (h:Ys (Yv prog w) A.in1 (aiQ x) (λvs b=>Ys (Yv prog w) A.in1 (agG vs >>= λl=>acu [l] (call (.builtin "list.sort") [l] a) >>= λ_=>ret l) (λf c=>∃v,f=.done (.ret v)/\Q v c) E b) E s):
  Ys (Yv prog w) A (call (.builtin "sorted") [x] a) Q E s:=
 call_function_entry_kw kind_sorted plain_sorted entry_sorted ok (Yg (m:=checkCount _ _ _ _) (Yt (Yg (oh h (λ_ _ q=>q) λ_ _ e=>e))))
end
end GX
namespace L2
open PySem PySem.Spec PyProof.Rows
variable{m ps:List (Int×Int)}{k:Int}{X:Cx}{P:Y0}{w:Y7}{A:uc}{s:Yn}{ns:List Int}{Za:List (Ye×pe)}{σ:St}{H:Hp}{h':YV}{xs:List V}{a it:Ye}{kvs:List (bR×V)}{vs:List (bR×Yd)}{Zx:List cb}{x1:Nat}{tp:abz}
noncomputable def dI(m:List (Int×Int)):List (bR×V):=m.map λp=>(YL p.1,V.int p.2)
theorem vj(m:List (Int×Int)):(dI m).length=m.length:=Yf ..
noncomputable def wQ:List (Int×Int)->Int->Option Int
 |[],_=>Yb
 |p::m,k=>if p.1=k then Ya p.2 else wQ m k
theorem vY:∀(m:List (Int×Int)) (k:Int),eK (dI m) (YL k:bR)=(wQ m k).map V.int
 |[],_=>rfl
 |p::m,k=>by
  show eK ((YL p.1,V.int p.2)::dI m) (YL k)=_;unfold wQ;by_cases e:p.1=k
  ·rw[if_pos e,dM (by rw[e])];rfl
  ·rw[if_neg e,dE (λz=>e (aaL z)),vY m k]
noncomputable def dU:List (Int×Int)->Int->Int->List (Int×Int)
 |[],k,v=>[(k,v)]
 |p::m,k,v=>if p.1=k then(p.1,v)::m else p::dU m k v
theorem NV:∀(m:List (Int×Int)) (k v j:Int),wQ (dU m k v) j=if j=k then Ya v else wQ m j
 |[],k,v,j=>by
  show(if k=j then Ya v else Yb)=_;by_cases e:j=k
  ·rw[if_pos e,if_pos e.symm]
  ·rw[if_neg e,if_neg (λz=>e z.symm)];rfl
 |p::m,k,v,j=>by
  show wQ (if p.1=k then(p.1,v)::m else p::dU m k v) j=if j=k then Ya v else(if p.1=j then Ya p.2 else wQ m j)
  by_cases e:p.1=k
  ·rw[if_pos e];show(if p.1=j then Ya v else wQ m j)=_;by_cases a:j=k
   ·rw[if_pos a,if_pos (e.trans a.symm)]
   ·rw[if_neg a,if_neg (λz=>a (z.symm.trans e)),if_neg (λz=>a (z.symm.trans e))]
  ·rw[if_neg e];show(if p.1=j then Ya p.2 else wQ (dU m k v) j)=_;rw[NV m k v j];by_cases a:j=k
   ·rw[if_pos a,if_neg (λz=>e (z.trans a)),if_pos a]
   ·rw[if_neg a,if_neg a]
theorem E1:∀(m:List (Int×Int)) (k v x:Int),x∈(dU m k v).map (·.1)↔x=k∨x∈m.map (·.1)
 |[],k,v,x=>by simp[dU]
 |p::m,k,v,x=>by
  show x∈(if p.1=k then(p.1,v)::m else p::dU m k v).map (·.1)↔_;by_cases e:p.1=k
  ·rw[if_pos e];simp only[YG,Ym];constructor
   ·exact λh=>.inr h
   ·rintro(h|h)
    ·exact .inl (h.trans e.symm)
    ·exact h
  ·rw[if_neg e];simp only[YG,Ym];have:=E1 m k v x;constructor
   ·rintro(h|h)
    ·exact .inr (.inl h)
    ·rcases this.mp h with h|h
     ·exact .inl h
     ·exact .inr (.inr h)
   ·rintro(h|h|h)
    ·exact .inr (this.mpr (.inl h))
    ·exact .inl h
    ·exact .inr (this.mpr (.inr h))
theorem LN:∀(m:List (Int×Int)) (k v:Int),(m.map (·.1)).Nodup->((dU m k v).map (·.1)).Nodup
 |[],k,v,_=>by simp[dU]
 |p::m,k,v,h=>by
  show((if p.1=k then(p.1,v)::m else p::dU m k v).map (·.1)).Nodup;rw[YG,vc]at h;by_cases e:p.1=k
  ·rw[if_pos e,YG,vc];exact h
  ·rw[if_neg e,YG,vc];refine⟨λz=>?_,LN m k v h.2⟩;rcases(E1 m k v p.1).mp z with z|z
   ·exact e z
   ·exact h.1 z
theorem ux:∀(m:List (Int×Int)) (k v:Int) (p:Int×Int),p∈dU m k v->p=(k,v)∨p∈m
 |[],k,v,p,h=>.inl (by simpa [dU]using h)
 |q::m,k,v,p,h=>by
  have a:p∈(if q.1=k then(q.1,v)::m else q::dU m k v):=h;by_cases e:q.1=k
  ·rw[if_pos e]at a;rcases Ym.mp a with z|z
   ·exact .inl (by rw[z,e])
   ·exact .inr (Yo _ z)
  ·rw[if_neg e]at a;rcases Ym.mp a with z|z
   ·exact .inr (by rw[z];exact Yu)
   ·rcases ux m k v p z with z|z
    ·exact .inl z
    ·exact .inr (Yo _ z)
theorem Ot(k:Int):∀m:List (Int×Int),((dI m).any λa=>decide (a.1=(YL k:bR)))=m.any λp=>decide (p.1=k)
 |[]=>rfl
 |p::m=>by
  show(decide ((YL p.1:bR)=YL k)||(dI m).any _)=(decide (p.1=k)||m.any _);rw[Ot k m];congr 1;rw[decide_eq_decide];exact⟨λh=>aaL h,λh=>congrArg _ h⟩
theorem CP:∀(m:List (Int×Int)) (k v:Int),(m.any λp=>decide (p.1=k))=false->dU m k v=m++[(k,v)]
 |[],_,_,_=>rfl
 |p::m,k,v,h=>by
  rw[aca,af2]at h;show(if p.1=k then(p.1,v)::m else p::dU m k v)=_;rw[if_neg (of_decide_eq_false h.1),CP m k v h.2];rfl
theorem IT:∀(m:List (Int×Int)) (k v:Int),(m.map (·.1)).Nodup->(m.any λp=>decide (p.1=k))=true->dU m k v=m.map λp=>if p.1=k then(p.1,v)else p
 |[],_,_,_,h=>by cases h
 |p::m,k,v,nd,h=>by
  rw[YG,vc]at nd;show(if p.1=k then(p.1,v)::m else p::dU m k v)=(if p.1=k then(p.1,v)else p)::m.map _;by_cases e:p.1=k
  ·rw[if_pos e,if_pos e];congr 1;have:m.map (λp=>if p.1=k then(p.1,v)else p)=m.map id:=aap λq a=>by
    rw[if_neg (λz=>nd.1 (by rw[e,←z];exact Y3 a))];rfl
   rw[this,adp]
  ·rw[if_neg e,if_neg e,IT m k v nd.2 (by
    rw[aca,decide_eq_false e,aeo]at h;exact h)]
theorem Mx(m:List (Int×Int))(k v:Int)(nd:(m.map (·.1)).Nodup):hJ (dI m) (YL k:bR) (V.int v)=dI (dU m k v):=by
 unfold hJ;rw[Ot];cases e:m.any λp=>decide (p.1=k)with
 |false=>
  rw[CP m k v e];unfold dI;rw[Yr];rfl
 |true=>
  rw[IT m k v nd e];unfold dI;rw[rl,if_pos rfl,rl];apply aap;intro p _;show(if(YL p.1:bR)=YL k then((YL p.1:bR),V.int v)else(YL p.1,V.int p.2))=((YL (if p.1=k then(p.1,v)else p).1:bR),V.int (if p.1=k then(p.1,v)else p).2);by_cases z:p.1=k
  ·rw[if_pos (congrArg _ z),if_pos z]
  ·rw[if_neg (λq=>z (aaL q)),if_neg z]
theorem GN:∀{m:List (Int×Int)} {k v:Int},wQ m k=Ya v->(k,v)∈m
 |[],_,_,h=>by cases h
 |p::m,k,v,h=>by
  have a:(if p.1=k then Ya p.2 else wQ m k)=Ya v:=h;by_cases e:p.1=k
  ·rw[if_pos e]at a;have:p=(k,v):=by rw[←e,←YF a]
   rw[this];exact Yu
  ·rw[if_neg e]at a;exact Yo _ (GN a)
theorem RC:∀{m:List (Int×Int)} {k v:Int},(m.map (·.1)).Nodup->(k,v)∈m->wQ m k=Ya v
 |[],_,_,_,h=>by cases h
 |p::m,k,v,nd,h=>by
  rw[YG,vc]at nd;show(if p.1=k then Ya p.2 else wQ m k)=Ya v;rcases Ym.mp h with z|z
  ·rw[←z,if_pos rfl]
  ·rw[if_neg (λe=>nd.1 (by rw[e];exact Y3 (f:=(·.1)) z)),RC nd.2 z]
theorem HX(h:k∉m.map (·.1)):wQ m k=none:=by
 cases e:wQ m k with
 |none=>rfl
 |some v=>exact absurd (Y3 (f:=(·.1)) (GN e)) h
theorem Qu(h:k∈m.map (·.1)):∃v,wQ m k=Ya v:=by
 cases e:wQ m k with
 |some v=>exact⟨v,rfl⟩
 |none=>
  exfalso
  induction m with
  |nil=>cases h
  |cons p m ih=>
   have a:(if p.1=k then Ya p.2 else wQ m k)=none:=e;by_cases z:p.1=k
   ·rw[if_pos z]at a;cases a
   ·rw[if_neg z]at a;rw[YG]at h;rcases Ym.mp h with q|q
    ·exact z q.symm
    ·exact ih q a
noncomputable def ct(m:List (Int×Int))(k:Int):Int:=(wQ m k).getD 0
section
theorem vR{P:Y0}{w:Y7}:∀{m:List (Int×Int)} {vs:List (bR×Yd)} {us:List Yd},KV (dI m) vs->us.length=vs.length->(∀(j:Nat) v,us[j]?=Ya v->∃k x,vs[j]?=Ya (k,x)/\(bf P w).is k v=true)->xy us (m.map (·.1))
 |[],_,us,r,hl,h=>by
  have a:KV [] _:=r;cases a;cases us with
  |nil=>exact .nil
  |cons _ _=>cases hl
 |p::m,vs,us,r,hl,h=>by
  have a:KV ((YL p.1,V.int p.2)::dI m) vs:=r;cases a with
  |cons r1 r2=>
   rename_i q o;cases us with
   |nil=>cases hl
   |cons u us=>
    obtain⟨k,x,d,f⟩:=h 0 u rfl;have b:q=(k,x):=YF d;subst b;have g:(YL p.1:bR)=k:=r1.1;subst g;rcases cQ (show wU (YL p.1) u=true from f)with⟨i,t,l,n⟩|⟨_,_,z,_⟩
    ·have c:p.1=i:=aaL l;rw[n,←c];exact .cons _ t (vR (P:=P) (w:=w) r2 (adO hl) λj v e=>h (j+ 1) v e)
    ·cases z
theorem AA{E:Yd->Yn->Prop}{prog:Y0}{vs:List Yd}{Q:Yd->Yn->Prop}(c:xy vs ns)(h64:vs.length<64)(hz:vs.length<=YB)(h:∀h' out a e,(∀b o,s.heap.get? b=Ya o->h'.get? b=Ya o)->h'.get? s.heap.objs.size=Ya (seqObj "list" out e)->xy out.toList a->a.Perm ns->a.Pairwise (·<=·)->Q (.ref s.heap.objs.size) {s with heap:=h'}):
  Ys (Yv prog w) A (do let l←agG vs;let _←acu [l] (call (.builtin "list.sort") [l] []);ret l) (λfin s'=>∃v,fin=.done (.ret v)/\Q v s') E s:=by
 refine Yg (agg ?_ hz);have ho:(s.heap.push (seqObj "list" vs.toArray 0)).get? s.heap.objs.size=Ya (seqObj "list" vs.toArray 0):=Yx _ rfl;refine Yg (aaI (abd ahZ ⟨_,ho,rfl⟩ ahH (list_sort_tree ho c h64 λout a d f g=>⟨_,rfl,?_⟩) (ah0 _)));obtain⟨e,i⟩:=sortedHeap_at (out:=out) ho;refine Yt ⟨_,rfl,h _ out a e (λb o q=>?_) i d f g⟩;have l:=Yz q;rw[sortedHeap_old (YN l) (by rw[size_push'];exact abv l)];exact Yj _ q
theorem aO.lay_ints{out:Array Yd}{e tk:Nat}(I:aO X Za σ H s)(k:∀b o,s.heap.get? b=Ya o->h'.get? b=Ya o)(a:h'.get? s.heap.objs.size=Ya (seqObj "list" out e))(c:xy out.toList ns)(hz:ns.length<=YB):
  aO X Za σ (upd H s.heap.objs.size (.lst (ns.map V.int))) {s with heap:=h',toks:=tk}:=
 I.laid k (Yl _) ⟨by rw[Yf];exact hz,out.toList,e,vy c,a⟩
theorem BP(x:X.calm=true):dO X (.builtin "sorted") (λxs H Q=>∃(d:Ye) (m:List (Int×Int)),xs=[.ref d]/\Rd H d (.dK (dI m))/\m.length<64/\∀(l:Ye) (ns:List Int),H l=Yb->ns.Perm (m.map (·.1))->ns.Pairwise (·<=·)->Q (.ref l) (upd H l (.lst (ns.map V.int)))):=by
 intro y s σ H xs us Q I r h;obtain⟨d,m,rfl,hd,b,q⟩:=h;obtain⟨u,rfl,B⟩:=fG r;cases B;obtain⟨z,C,i,c,dd⟩:=kR I.hok hd;obtain⟨D,g⟩:=dd.dictAt;have hl:i.length=m.length:=by rw[←c.length,vj]
 refine GX.wg (agx _) (PySem.W.kdu_collect (A:=X.A.in1) (aha (knd:=bf X.prog X.w) (kvs:=i) (ep:=D) C) (I.ok.hd x) g (by rw[hl];exact xl (aF (by omega))) λk tk f E a=>?_);have n:xy f.toList (m.map (·.1)):=vR (P:=X.prog) (w:=X.w) c (by rw[pk];exact a.1) λj v e=>a.2 j v (by rw[←sq];exact e);have ha:f.toList.length=m.length:=by rw[n.length,Yf]
 have o:aO X y σ H {s with heap:=k,toks:=tk}:=I.kept E;refine AA n (by rw[ha];exact b) (by rw[ha];exact xl (aF (by omega))) λh2 out p e F G J t K=>?_;have L:p.length<=YB:=by rw[t.length_eq,Yf];exact xl (aF (by omega))
 exact⟨.ref k.objs.size,_,o.lay_ints (tk:=tk) F G J L,rfl,q _ p (o.hok.fresh (Yl _)) t K⟩
theorem Hc:dO X (.builtin "len") (λxs H Q=>∃(a:Ye) (kvs:List (bR×V)),xs=[V.ref a]/\Rd H a (.dK kvs)/\Q (.int kvs.length) H):=by
 intro d s σ H xs us Q I r h;obtain⟨a,kvs,rfl,ha,q⟩:=h;obtain⟨u,rfl,b⟩:=fG r;cases b;exact WC I ha λt s' c=>⟨.int kvs.length,H,c,⟨_,rfl⟩,q⟩
def Pr(H:Hp)(x:V)(p:Int×Int):Prop:=∃a,x=.ref a/\H a=Ya (.tup [.int p.1,.int p.2])
abbrev jW(H:Hp):List V->List (Int×Int)->Prop:=YX (Pr H)
theorem jW.mono{b:Hp}(h:∀a xs,H a=Ya (.tup xs)->b a=Ya (.tup xs))(r:jW H xs ps):jW b xs ps:=YX.mapP r λ_ _ ⟨a,c,d⟩=>⟨a,c,h a _ d⟩
theorem jW.snoc{x:V}{p:Int×Int}:∀{xs:List V} {ps:List (Int×Int)},jW H xs ps->Pr H x p->jW H (xs++[x]) (ps++[p]):=by
 intro a b w h
 induction w with
 |nil=>exact .cons h .nil
 |cons r _ ih=>exact .cons r ih
theorem jW.get:∀{xs:List V} {ps:List (Int×Int)} {i:Nat} {x:V},jW H xs ps->xs[i]?=Ya x->∃p,ps[i]?=Ya p/\Pr H x p:=by
 intro a b i x w
 induction w generalizing i with
 |nil=>exact λe=>by simp at e
 |cons r _ ih=>
  intro e;cases i with
  |zero=>simp at e;subst e;exact⟨_,rfl,r⟩
  |succ i=>
   obtain⟨p,h1,h2⟩:=ih (i:=i) (by simpa using e);exact⟨p,by simpa using h1,h2⟩
theorem jW.len(r:jW H xs ps):xs.length=ps.length:=Y2 r
end
section
theorem HJ{A:uc}{s:Yn}{n:List (Int×Int)}{b:List (bR×Yd)}(c:KV (dI n) b):∀{m:List (Int×Int)} {vs:List (bR×Yd)},KV (dI m) vs->(∀p∈m,wQ n p.1=Ya p.2)->PySem.W.KeqHits A s b vs true
 |[],_,r,_=>by
  have a:KV [] _:=r;cases a;exact .nil
 |p::m,vs,r,h=>by
  have a:KV ((YL p.1,V.int p.2)::dI m) vs:=r;cases a with
  |cons r1 r2=>
   rename_i q w;obtain⟨k,v⟩:=q;have d:(YL p.1:bR)=k:=r1.1;subst d;obtain⟨t,f⟩:=(show∃t,v=abe p.2 t from r1.2);subst f;have z:=c.val (YL p.1);rw[vY,h p Yu]at z;obtain⟨y,g,i⟩:=lX.some_of z;obtain⟨j,l⟩:=(show∃t,y=abe p.2 t from i);subst l;have e:=SeqAt.EqAt.int_int (A:=A) (s:=s) p.2 t p.2 j;have o:=HJ (A:=A) (s:=s) c r2 λq u=>h q (Yo _ u);have:=PySem.W.KeqHits.hit g e o;rw[beq_self_eq_true,aeq]at this;exact this
theorem DD:∀(ps a:List (Int×Int)),((a++ps).map (·.1)).Nodup->vB (dI a) (dI ps)=dI (a++ps)
 |[],a,_=>by rw[Y1];rfl
 |p::ps,a,h=>by
  show vB (hJ (dI a) (YL p.1) (V.int p.2)) (dI ps)=_;have h1:(a.map (·.1)).Nodup:=by
   rw[Yr]at h;exact(jJ.mp h).1
  have h2:(a.any λq=>decide (q.1=p.1))=false:=by
   rw[aeA];intro q b z;have c:=of_decide_eq_true z;rw[Yr,YG]at h;exact(jJ.mp h).2.2 q.1 (Y3 (f:=(·.1)) b) p.1 Yu c
  rw[Mx a p.1 p.2 h1,CP a p.1 p.2 h2,DD ps (a++[(p.1,p.2)]) (by rw[RW];exact h),RW];rfl
theorem Mm(I:aO X Za σ H s):∀{xs:List V} {us:List Yd} {ps:List (Int×Int)},jW H xs ps->Vals xs us->
  ∃d:List (bR×Yd),KV (dI ps) d/\d.length=us.length/\∀(i:Nat) v,us[i]?=Ya v->∃a f k x o c,v=.ref a/\d[i]?=Ya (k,x)/\(bf X.prog X.w).is k f=true/\s.heap.get? a=Ya o/\o.cls=.type "tuple"/\o.data=.seq #[f,x] c:=by
 intro xs us ps w
 induction w generalizing us with
 |nil=>
  intro w;cases w;exact⟨[],.nil,rfl,λi v e=>by simp at e⟩
 |@cons x p xs ps h t ih=>
  intro w;cases w with|cons r q=>
  rename_i u us;obtain⟨d,j,l,m⟩:=ih q;obtain⟨a,rfl,ha⟩:=h;obtain rfl:u=YH a:=r;obtain⟨_,b,y,o,ho,z,n,hd,_⟩:[V.int p.1,V.int p.2].length<=YB/\∃b:List Yd,Vals [V.int p.1,V.int p.2] b/\mO s.heap a b.toArray:=I.hok a _ ha;obtain⟨E,g,rfl,A,B⟩:=Aw y;obtain⟨C,rfl⟩:=A;refine⟨(YL p.1,g)::d,.cons ⟨rfl,B⟩ j,congrArg (·+ 1) l,λi v e=>?_⟩;cases i with
  |zero=>
   have D:YH a=v:=YF e;subst D;exact⟨a,_,_,g,o,n,rfl,rfl,ph X.prog X.w p.1 C,ho,z,hd⟩
  |succ i=>exact m i v e
theorem GU(d:X.calm=true):dO X (.type "dict") (λxs H Q=>∃(a:Ye) (ys:List V) (ps:List (Int×Int)),xs=[.ref a]/\H a=Ya (.lst ys)/\jW H ys ps/\(ps.map (·.1)).Nodup/\ps.length<=1000/\∀p,H p=Yb->Q (.ref p) (upd H p (.dK (dI ps)))):=by
 intro o s σ H xs us Q I r h;obtain⟨a,ys,ps,rfl,ha,hp,nd,hl,q⟩:=h;obtain⟨u,rfl,f⟩:=fG r;cases f;obtain⟨z,g,n,i,b,e⟩:=I.lstM ha;obtain⟨j,k,l,m⟩:=Mm I hp i;refine GX.uq (knd:=bf X.prog X.w) (I.ok.hd d) e (by rw[←b];exact z) l m λt tk kp dd=>?_;have c:KV (dI ps) (aeS [] j):=by
  have:=KV.merge k (show KV (dI []) []from .nil);rw[DD ps [] (by simpa using nd)]at this;exact this
 refine⟨.ref s.heap.objs.size,_,I.laid (t':=tk) kp (Yl _) (Gn ?_ (beq_eq_false_iff_ne.mpr (Ne.symm (YN I.big))) c dd),rfl,q _ (I.hok.fresh (Yl _))⟩;rw[vj];exact xl (aF hl)
def UN(K:Yc)(tl:TE):TI:=λσ H R=>tl σ H λx b=>∃a,x=.ref a/\(((∃c,a9 K b a c)/\R (LC K a) b)∨((∃c,bJ K b a c)/\R (MK K a) b))
theorem Uq{n l:cb}{tl:TE}(hl:PE X l tl):PI X n l (UN X.K tl):=by
 intro k s σ H R I h;refine cL (hl k s σ H _ I h) λv c r=>?_;obtain⟨x,g,d,t,i⟩:=r;obtain⟨a,e,i⟩:=i;subst e;cases t;have m:∀b∈[c.heap.objs.size],t8 X k g b:=λb u=>by
  have e:b=c.heap.objs.size:=by simpa using u
  subst e;exact d.fpOk (Yl _) (d.hok.fresh (Yl _))
 rcases i with⟨⟨w,j⟩,q⟩|⟨⟨w,j⟩,q⟩
 ·obtain⟨f,y,p,z⟩:=d.list j;refine aa2 p.isList ?_;exact⟨c.heap.objs.size,[c.heap.objs.size],_,_,g,rfl,d.kept (t':=c.toks) λb o e=>Yj _ e,AD a _,⟨_,Yx _ rfl,rfl,rfl⟩,m,q⟩
 ·obtain⟨f,y,p,z⟩:=d.tuple j;refine agr (show c.heap.IsTuple a f.toArray from p) ?_;exact⟨c.heap.objs.size,[c.heap.objs.size],_,_,g,rfl,d.kept (t':=c.toks) λb o e=>Yj _ e,zQ a _,⟨_,Yx _ rfl,rfl,rfl⟩,m,q⟩
end
theorem Oj{K:Yc}{g:TG}{tt:TT}{j:TE}{D:Ye}{Qe:Hp->Prop}(b:Nat->St->Hp->Prop)(h0:b 0 σ H)(hl:∀i σ H,i<=xs.length->b i σ H->bJ K H a xs)(hs:∀i x σ H,xs[i]?=Ya x->b i σ H->fF g tt j D (b (i+ 1)) x σ H)(hd:∀σ H,b xs.length σ H->Qe H):
  ∃W:Nat->Nat->St->Hp->Prop,(∃m,W 0 m σ H)/\∀i m h c,W i m h c->((MK K a).stop i c/\Qe c)∨((MK K a).go i c/\∃N:St->Hp->Prop,(∀k l,N k l->∃n,n<m/\W (i+ 1) n k l)/\
   ∀x d,(MK K a).yld i c x d->fF g tt j D N x h d):=by
 refine⟨λi m σ H=>m=xs.length-i/\i<=xs.length/\b i σ H,⟨xs.length,by simp,cT _,h0⟩,?_⟩;rintro i m σ H ⟨rfl,o,p⟩;have q:=hl i σ H o p;by_cases f:i<xs.length
 ·refine .inr ⟨⟨xs,xs[i],q,by simp[f]⟩,b (i+ 1),λh c r=>⟨xs.length-(i+ 1),by omega,rfl,f,r⟩,λx c y=>?_⟩;obtain⟨e,y⟩:=y;subst e;exact hs i x σ _ (y xs q) p
 ·have e:i=xs.length:=by omega
  subst e;exact .inl ⟨⟨xs,q,Yl _⟩,hd σ H p⟩
noncomputable def TH(d:Ye)(o:pe)(kvs:List (bR×V)):It:=
 ⟨λi H=>i<kvs.length/\H d=Ya (.frz o (.dK kvs)),λi H x b=>∃k v a,kvs[i]?=Ya (k,v)/\H a=Yb/\x=.ref a/\b=upd H a (.tup [kV k,v]),λi H=>kvs.length<=i/\H d=Ya (.frz o (.dK kvs))⟩
theorem Qw{k:bR}{u:Yd}(h:(bf P w).is k u=true):RelV (kV k) u:=by
 rcases cQ (show wU k u=true from h)with⟨i,t,rfl,rfl⟩|⟨x,t,rfl,rfl⟩
 ·exact⟨t,rfl⟩
 ·exact⟨t,rfl⟩
theorem KV.get:∀{i:Nat} {k:bR} {v:V},KV kvs vs->kvs[i]?=Ya (k,v)->∃u,vs[i]?=Ya (k,u)/\RelV v u:=by
 intro i k v r
 induction r generalizing i with
 |nil=>intro e;simp at e
 |cons r1 r2 ih=>
  rename_i p q _ _;intro e;cases i with
  |zero=>
   have a:p=(k,v):=YF e;subst a;obtain⟨b,u⟩:=q;have c:k=b:=r1.1;subst c;exact⟨u,rfl,r1.2⟩
  |succ i=>exact ih e
theorem aO.turnLay{o:HO}(I:aO X Za σ H s)(k:∀b o,b≠it->s.heap.get? b=Ya o->h'.get? b=Ya o)(j:t8 X Za H it)(l:∃o,h'.get? it=Ya o)(ha:s.heap.objs.size<=a)(p:a≠it)(new:cD X.prog X.w (upd H a o) h' a o):aO X Za σ (upd H a o) {s with heap:=h'}:=by
 obtain⟨t,i,D,w,x,y⟩:=j;have hn:H a=none:=I.hok.fresh ha;have h:∀b ob,s.heap.get? b=Ya ob->b≠a:=λb ob e z=>by
  have:=Yz e;rw[z]at this;exact absurd (Y5 this ha) (Y9 _)
 have f:∀b u,H b=Ya u->b≠it:=λb u e z=>by rw[z,t]at e;cases e
 refine I.step (g':=s.gens) (d':=s.drawn) (t':=s.toks) (ch:=[it]) (λb g=>?_) (λb o _ _ d e _=>k b o (λz=>d (by simp[z])) e) (λb o _ _ d e _=>⟨o.slots,k b o (λz=>d (by simp[z])) e⟩) (λb ob _ e n=>by rw[ak (h b ob e)];exact n)
  (λb o d e=>⟨o,k b o (λz=>d (by simp[z])) e⟩) (λb A e=>by rw[ak (ay e hn)];exact e) (λb o u e=>by rw[ak (ay e hn)];exact e) (λb ps e=>⟨#[],by rw[ak (ay e hn),e];simp⟩) (λm hm=>?_) (λb u e=>?_) I.bare
 ·have e:b=it:=by simpa using g
  subst e;exact⟨w,i,x,y⟩
 ·obtain⟨ob,B,C,ho,r⟩:=hm;exact⟨ob,B,C,k _ ob (Ne.symm i) ho,r⟩
 ·by_cases g:b=a
  ·subst g;rw[af]at e;cases e;exact new
  ·rw[ak g]at e;refine(I.hok b u e).stay (λc v d q=>k c v ?_ q) (λc q=>by rw[ak (ay q hn)];exact q) λc A q=>by rw[ak (ay q hn)];exact q
   rcases d with z|z
   ·rw[z];exact f b u e
   ·exact f c _ z
theorem FW{K:Yc}{d:Ye}{o:pe}{ep:Nat}(l:KV kvs vs)(M:∀h:YV,h.get? d=Ya o->h.DictAt (bf P w) d vs ep):
  Turn P w K (.Tuple Zx x1 tp) (TH d o kvs) [it] it (λi h=>∃ok f,IsItemIter h it d i vs.length ep ok f) where
 mem:=by simp
 obj:=λi h st b g=>by
  have e:b=it:=by simpa using g
  subst e;obtain⟨ok,f,e⟩:=st;exact⟨_,e,λv z=>by
   have U:Data.fields _=Data.cell v:=z;cases U⟩
 keep:=λi h x st k=>let ⟨ok,f,e⟩:=st;⟨ok,f,k it (by simp) _ e⟩
 item:=by
  intro X y hw A N i O s σ H E I B st C;subst y hw A;obtain⟨ok,f,a⟩:=st;obtain⟨Q,hd⟩:=C;have j:s.heap.get? d=Ya o:=(show s.heap.get? d=Ya o/\_ from I.hok d _ hd).1;have R:kvs[i]?=Ya kvs[i]:=Yk Q;obtain⟨u,hu,V⟩:=l.get (k:=kvs[i].1) (v:=kvs[i].2) R;refine wpAny_pyNext_items_item a (M _ j) hu λS x m c n W kp=>?_;have p:s.heap.objs.size≠it:=λz=>by
   have:=Yz a;rw[←z]at this;exact Y9 _ this
  have q:=B it (by simp);have Y:aO X O σ (upd H s.heap.objs.size (.tup [kV kvs[i].1,kvs[i].2])) {s with heap:=x}:=
   I.turnLay kp q ⟨_,c⟩ (Yl _) p ⟨by show 2<=YB;decide,[S,u],.cons (Qw m) (.cons V .nil),_,n,rfl,0,rfl,rfl,rfl⟩
  refine⟨_,rfl,aek c λh2 r Z=>?_⟩;obtain⟨D,F,f2,G,J,L⟩:=q;have t:(upd H s.heap.objs.size (.tup [kV kvs[i].1,kvs[i].2])) it=none:=by rw[ak (Ne.symm p)];exact D
  refine⟨.ref s.heap.objs.size,_,Y.turned (t':=s.toks) (λb o g e=>(Z.2 b g).trans e) t F G J L,rfl,⟨_,_,_,R,I.hok.fresh (Yl _),rfl,rfl⟩,⟨S,u,r⟩,λb g=>?_⟩;have e:b=it:=by simpa using g
  rw[e];exact t
 done:=by
  intro X y hw A N i O s σ H E I B st C;subst y hw A;obtain⟨ok,f,a⟩:=st;obtain⟨Q,hd⟩:=C;have j:s.heap.get? d=Ya o:=(show s.heap.get? d=Ya o/\_ from I.hok d _ hd).1;obtain⟨D,F,f2,G,J,L⟩:=B it (by simp);have T:kvs.length=vs.length:=KV.length l;exact wpAny_pyNext_items_end (I.ok.hd N) a (M _ j) (abi (by omega)) λx eb=>⟨rfl,I.turned (t':=s.toks) (λb o g e=>eb b o g e) D F G J L⟩
 self:=λ_ _ _ _ _ ⟨ok,f,st⟩ h=>ahb st h
section
def MQ(td:TE):TI:=λσ H R=>td σ H λx b=>∃d a,x=.ref d/\b d=Ya (.dK a)/\∀o,R (TH d o a) (upd b d (.frz o (.dK a)))
theorem Ng{e:cb}{r t:abz}{td:TE}(y:PE X e td)(f:abb e "items" X.env (lr e X.env)=lr e X.env:=by rfl)(g:(r.endLine==t.line)=true:=by rfl):
  PI X (.Tuple Zx x1 tp) (.Call (.Attribute e "items" r) [] [] t) (MQ td):=by
 intro l s σ H R I h;refine ab9 f g (cL (y l s σ H _ I h) λv a A=>?_);obtain⟨x,m,n,B,d,c,ex,hd,q⟩:=A;subst ex;obtain rfl:v=YH d:=B;obtain⟨z,u,k,i,dd⟩:=HN n.hok hd;obtain⟨h1,h2⟩:=vI (T:="dict") n (x:=.ref d) rfl (.inr (.inr (.inl ⟨rfl,.inl ⟨c,hd⟩⟩)));refine⟨"dict","dict.items",aaE,adi,afc,h1,h2,aaM rfl (acR ?_)⟩;refine acy adi h1 PySem.F.entry_dict_items (PySem.F.args_dict_items_1 _) (meets_dict_items (bf X.prog X.w) d u) ⟨⟨k,dd⟩,?_⟩;have j:(a.heap.push {cls:=.type "dict_items",data:=.fields #[.ref d]}).DictOf (bf X.prog X.w) d k:=dd.push _;obtain⟨o,C,D,ho,rr⟩:=id j;have w:∀h:YV,h.get? d=Ya o->h.DictAt (bf X.prog X.w) d k D:=λh E=>⟨o,C,E,rr⟩;have F:aO X l σ m {a with heap:=a.heap.push {cls:=.type "dict_items",data:=.fields #[.ref d]}}:=n.kept (t':=a.toks) λb ob e=>Yj _ e;have G:(a.heap.push {cls:=.type "dict_items",data:=.fields #[.ref d]}).IsItemsView a.heap.objs.size d:=⟨_,Yx _ rfl,rfl,rfl⟩;show Ys _ _ (adm (.ref a.heap.objs.size)) _ _ _;refine wpAny_pyIter_items G (w _ ho) ?_;have p:aO X l σ (upd m d (.frz o (.dK c))) {a with heap:=a.heap.push {cls:=.type "dict_items",data:=.fields #[.ref d]}}:=
  F.write (t':=a.toks) (x:=d) (e:=d) (by rw[hd];trivial) (.inl rfl) (λ_ _ _ e=>e) ⟨o,ho⟩ ⟨ho,z,u,k,i,j⟩
 refine⟨_,[_],_,TH d o c,upd m d (.frz o (.dK c)),rfl,p.kept (t':=a.toks) λb ob e=>Yj _ e,FW i w,⟨.none,.none,Yx _ rfl⟩,λb J=>?_,q o⟩;have K:b=(a.heap.push {cls:=.type "dict_items",data:=.fields #[.ref d]}).objs.size:=by simpa using J
 subst K;exact p.fpOk (Yl _) (p.hok.fresh (Yl _))
end
end L2
namespace GX
open PySem PyProof.Rows
variable{xs:Array Nat}{i j sl p n ep c:Nat}{t t':aea}{h:YV}{b:Bool}{x first:Yd}{prog:Y0}{w:Y7}{A:uc}{E Q1:Yd->Yn->Prop}{s:Yn}{a I tp:Ye}{S:Int->Bool}{es Zm:Array (Int×Yd)}{Q:Option Yd->Yn->Prop}{k:Int}{R:acv->Yn->Prop}{ns:List Int}{M:aim}{o:pe}{ps:List Nat}
def NA(xs:Array Nat):Prop:=xs.toList.Pairwise (·<·)
theorem NA.at(h:NA xs)(b:i<j)(a:j<xs.size):xs.getD i 0<xs.getD j 0:=by
 have:=nh.mp h i j (by simp;omega) (by simpa using a) b;simp only[acJ]at this;rw[YT,YT,YR (by omega),YR a];exact this
theorem FO(h:i<xs.size)(a b:Nat):xs.getD i a=xs.getD i b:=by
 rw[YT,YT,YR h];rfl
theorem yu{xs:Array Nat}(d:NA xs)(j:Nat):∀(a lo b:Nat),lo<=b->b<=xs.size->b-lo<=a->(∀i,i<lo->xs.getD i 0<j)->(∀i,b<=i->i<xs.size->j<=xs.getD i 0)->
  abx xs j a lo b<=xs.size/\(∀i,i<abx xs j a lo b->xs.getD i 0<j)/\(∀i,abx xs j a lo b<=i->i<xs.size->j<=xs.getD i 0)
 |0,lo,b,h1,h2,h3,h4,h5=>by
  have e:lo=b:=by omega
  subst e;unfold abx;exact⟨h2,h4,h5⟩
 |a+ 1,lo,b,h1,h2,h3,h4,h5=>by
  unfold abx;by_cases h:lo<b
  ·rw[if_pos h];have hm:(lo+ b) / 2<xs.size:=by omega
   show(if xs.getD ((lo+ b) / 2) j<j then abx xs j a ((lo+ b) / 2+ 1) b else abx xs j a lo ((lo+ b) / 2))<=_/\_;by_cases c:xs.getD ((lo+ b) / 2) j<j
   ·simp only[if_pos c];rw[FO hm j 0]at c;refine yu d j a _ b (by omega) h2 (by omega) (λi f=>?_) h5;rcases abY i ((lo+ b) / 2)with z|z
    ·have:=d.at z hm;omega
    ·have:i=(lo+ b) / 2:=by omega
     rw[this];exact c
   ·simp only[if_neg c];rw[FO hm j 0]at c;refine yu d j a lo _ (by omega) (by omega) (by omega) h4 (λi f hs=>?_);rcases abY ((lo+ b) / 2) i with z|z
    ·have:=d.at z hs;omega
    ·have:i=(lo+ b) / 2:=by omega
     rw[this];omega
  ·rw[if_neg h];have e:lo=b:=by omega
   subst e;exact⟨h2,h4,h5⟩
theorem uX(a:NA xs)(j:Nat):xj xs j<=xs.size/\(∀i,i<xj xs j->xs.getD i 0<j)/\(∀i,xj xs j<=i->i<xs.size->j<=xs.getD i 0):=by
 unfold xj;exact yu a j _ 0 _ (cT _) (Yl _) (by omega) (λi h=>by omega) (λi h1 h2=>by omega)
theorem GA(a:NA xs)(b:i<xs.size):xj xs (xs.getD i 0+ 1)=i+ 1:=by
 obtain⟨h1,h2,h3⟩:=uX a (xs.getD i 0+ 1);rcases adj (xj xs (xs.getD i 0+ 1)) (i+ 1)with z|z|z
 ·have:=h3 i (by omega) b;omega
 ·exact z
 ·have q:=h2 (i+ 1) z;have:=a.at (i:=i) (j:=i+ 1) (by omega) (by omega);omega
theorem GJ(a:NA xs):xj xs 0=0:=by
 obtain⟨h1,h2,h3⟩:=uX a 0;rcases Nat.eq_zero_or_pos (xj xs 0)with z|z
 ·exact z
 ·have:=h2 0 z;omega
def Off(xs:Array Nat)(d:Nat):Prop:=xs[xj xs d]?≠Ya d
theorem Off.no(b:NA xs){d:Nat}(h:Off xs d):∀i,i<xs.size->xs.getD i 0≠d:=by
 intro i a e;obtain⟨h1,h2,h3⟩:=uX b d;have f:xj xs d<=i:=by
  rcases abY i (xj xs d)with z|z
  ·have:=h2 i z;omega
  ·exact z
 have c:xj xs d=i:=by
  rcases abY (xj xs d) i with z|z
  ·have:=b.at z a;have:=h3 (xj xs d) (Yl _) (by omega);omega
  ·omega
 apply h;rw[c,YR a];rw[YT,YR a]at e;exact congrArg Ya e
theorem DH(h:∀i,t.slot j≠.live i):Off t.place j:=by
 intro z;apply h (xj t.place j);unfold SetTable.slot;simp only[z,beq_self_eq_true,if_true]
theorem Be(t:aea)(p:ah1):(t.advance p).dummy=p.dummy:=by
 unfold SetTable.advance;split<;>rfl
theorem vx{t:aea}{f:Nat->Int}{h:Int}:∀(a:Nat) (p:ah1) (j:Nat) (b:Option Nat),(∀d,p.dummy=Ya d->Off t.place d)->adk t f h a p=Ya (.empty j b)->Off t.place j/\∀d,b=Ya d->Off t.place d
 |0,p,j,b,hp,e=>by
  unfold adk at e;cases e
 |a+ 1,p,j,b,hp,e=>by
  unfold adk at e;cases hs:t.slot p.j with
  |empty=>
   rw[hs]at e;dsimp only at e;cases e;exact⟨DH (λi z=>by rw[hs]at z;cases z),hp⟩
  |dummy=>
   rw[hs]at e;dsimp only at e;refine vx a _ j b (λd hd=>?_) e;rw[Be]at hd;cases hd;exact DH (λi z=>by rw[hs]at z;cases z)
  |live i=>
   rw[hs]at e;dsimp only at e;split at e
   ·cases e
   ·exact vx a _ j b (λd hd=>hp d (by rw[Be]at hd;exact hd)) e
theorem ND{h:Int}(e:t.freeSlot h=Ya (sl,b)):Off t.place sl:=by
 unfold SetTable.freeSlot SetTable.probe at e;generalize hg:adk t (λ_=>h+ 1) h (10*SetTable.turns t.mask) (t.probeStart h)=g at e;cases g with
 |none=>cases e
 |some m=>
  cases m with
  |candidate j i n=>cases e
  |empty j dm=>
   obtain⟨h1,h2⟩:=vx _ _ j dm (λd hd=>by cases hd) hg;dsimp only at e;have a:=YF e;cases dm with
   |none=>
    have:j=sl:=congrArg Prod.fst a;rw[←this];exact h1
   |some d=>
    have:d=sl:=congrArg Prod.fst a;rw[←this];exact h2 d rfl
theorem N4{x:Nat}(h:x∈xs.toList.take p):∃i,i<p/\i<xs.size/\xs.getD i 0=x:=by
 obtain⟨i,a,e⟩:=ab5 h;rw[mr,pk]at a;refine⟨i,by omega,by omega,?_⟩;rw[List.getElem_take,acJ]at e;rw[YT,YR (by omega)];exact e
theorem Bt{x:Nat}(h:x∈xs.toList.drop p):∃i,p<=i/\i<xs.size/\xs.getD i 0=x:=by
 obtain⟨i,a,e⟩:=ab5 h;rw[abG,pk]at a;refine⟨p+ i,by omega,by omega,?_⟩;rw[List.getElem_drop,acJ]at e;rw[YT,YR (by omega)];exact e
theorem Pl(d:NA t.place)(ho:Off t.place sl):NA (t.put sl).1.place:=by
 obtain⟨h1,h2,h3⟩:=uX d sl;show(SetTable.insertAt t.place (xj t.place sl) sl).toList.Pairwise (·<·);rw[SetTable.toList_insertAt,adP];refine⟨d.sublist (aco _ _),?_,?_⟩
 ·rw[ac7];refine⟨λx e=>?_,d.sublist (List.drop_sublist _ _)⟩;obtain⟨i,a,b,c⟩:=Bt e;have f:=h3 i a b;have g:=ho.no d i b;omega
 ·intro x e y h;obtain⟨i,a,b,c⟩:=N4 e;have f:=h2 i a;rcases Ym.mp h with z|z
  ·omega
  ·obtain⟨j,k,l,m⟩:=Bt z;have g:=h3 j k l;omega
theorem qV(t:aea)(n:Nat):NA (t.standIn n).place:=by
 show(Array.range n).toList.Pairwise (·<·);rw[Array.toList_range];exact ach
def Tb(b:Bool)(t:aea):Prop:=NA t.place/\t.led=b
theorem Tn(h:Tb b t)(es:Array (Int×Yd))(k:Int)(x:Yd):Tb b (layNew t es k x).2.1:=by
 unfold layNew;split
 ·rename_i a wd e;dsimp only;unfold SetTable.orStandIn;split
  ·exact⟨Pl h.1 (ND e),h.2⟩
  ·exact⟨qV _ _,h.2⟩
 ·exact⟨qV _ _,h.2⟩
theorem Jc{hs:Array Int}{o:Array Nat}(h:Tb b t)(e:t.relaid hs n=Ya (t',o)):Tb b t':=by
 unfold SetTable.relaid SetTable.laid at e;cases d:SetTable.layClean (SetTable.sizeAbove n-1) hs with
 |none=>rw[d]at e;cases e
 |some ow=>
  rw[d]at e;have i:=YF e;have g:=congrArg Prod.fst i;dsimp only at g;rw[←g];refine⟨?_,h.2⟩;show List.Pairwise _ (agq (aaJ _));rw[List.toList_toArray,List.map_filterMap];refine List.Pairwise.filterMap (R:=(·<·)) _ (λx y f a ha c d=>?_) ach;simp only[ah2,Option.mem_def,aa7]at ha d;obtain⟨_,_,rfl⟩:=ha;obtain⟨_,_,rfl⟩:=d;exact f
theorem NJ(h:Tb b t)(es:Array (Int×Yd))(n:Nat):Tb b (ahc t es n).2.1:=by
 unfold ahc;split
 ·rename_i a o e;dsimp only;split
  ·exact Jc h e
  ·exact⟨qV _ _,h.2⟩
 ·exact⟨qV _ _,h.2⟩
noncomputable abbrev GS(w:Y7):Bool:=w.params.followText "set-order"
section
def sS(prog:Y0)(w:Y7)(h:YV)(a:Ye)(S:Int->Bool)(n:Nat):Prop:=
 ∃o b c t,h.get? a=Ya o/\o.ExactSet/\o.data=.set b c t/\aiR (aa5 prog w) b.toList/\(∀k,S k=true↔∃e∈b.toList,(aa5 prog w).is k e.2=true)/\b.size<acF/\t.fits b.size=true/\b.size=n/\Tb (!GS w) t
theorem sS.at{h':YV}(x:sS prog w h a S n)(k:∀o,h.get? a=Ya o->h'.get? a=Ya o):sS prog w h' a S n:=by
 obtain⟨o,b,c,t,ho,r⟩:=x;exact⟨o,b,c,t,k o ho,r⟩
theorem sS.congr{b:Int->Bool}{c:Nat}(x:sS prog w h a S n)(e:∀k,S k=b k)(d:n=c):sS prog w h a b c:=by
 have z:S=b:=funext e;rw[←z,←d];exact x
def o8(prog:Y0)(w:Y7)(es:Array (Int×Yd))(t:aea)(S:Int->Bool)(n:Nat):Prop:=
 aiR (aa5 prog w) es.toList/\(∀k,S k=true↔∃e∈es.toList,(aa5 prog w).is k e.2=true)/\es.size<acF/\t.fits es.size=true/\es.size=n/\Tb (!GS w) t
def FL(h:YV)(a:Ye)(es:Array (Int×Yd))(t:aea):Prop:=∃o b,h.get? a=Ya o/\o.ExactSet/\o.data=.set es b t
theorem FL.good(r:FL h a es t)(g:o8 prog w es t S n):sS prog w h a S n:=by
 obtain⟨o,b,c,d,e⟩:=r;exact⟨o,es,b,t,c,d,e,g⟩
theorem FL.put{Q:Unit->Yn->Prop}(r:FL s.heap a es t)(hz:Zm.size<acF)(h:∀h',aan a s.heap h'->FL h' a Zm t'->Q () {s with heap:=h'}):
  Ys (Yv prog w) A (storeSet a Zm t') Q E s:=by
 obtain⟨⟨c,d,b,g⟩,e,ho,f,hd⟩:=r;cases hd;exact wpAny_storeSet_of ho rfl (h _ (aaq ..) ⟨_,e+ 1,aar _ ho rfl,f,rfl⟩) (aeF hz)
theorem o8.mix(g:o8 prog w es t S n)(p:ai1 Zm.toList es.toList)(f:t'.fits Zm.size=true)(b:Tb (!GS w) t'):o8 prog w Zm t' S n:=by
 obtain⟨a,c,d,_,h,_⟩:=g;have z:Zm.size=es.size:=by simpa using p.length_eq
 exact⟨a.perm p,λk=>(c k).trans ⟨fun⟨e,u,v⟩=>⟨e,p.mem_iff.mpr u,v⟩,fun⟨e,u,v⟩=>⟨e,p.mem_iff.mp u,v⟩⟩,z▸d,f,z.trans h,b⟩
theorem o8.relaid(g:o8 prog w es t S n)(m:Nat):o8 prog w (ahc t es m).1 (ahc t es m).2.1 S n:=
 g.mix (relayAll_perm t es m) (relayAll_fits t es m) (NJ g.2.2.2.2.2 es m)
theorem o8.more(g:o8 prog w es t S n)(hk:(aa5 prog w).is k x=true)(c:x.scannable=true)(a:n+ 1<acF):
  o8 prog w (layNew t es ((aa5 prog w).hash k) x).1 (layNew t es ((aa5 prog w).hash k) x).2.1 (λb=>S b||decide (b=k)) (n+ 1):=by
 obtain⟨d,e,i,_,f,h⟩:=g;have p:ai1 _ (es.push ((aa5 prog w).hash k,x)).toList:=layNew_perm t es ((aa5 prog w).hash k) x;rw[agS]at p;have z:(layNew t es ((aa5 prog w).hash k) x).1.size=n+ 1:=by simpa [f]using p.length_eq
 exact⟨(d.push hk c).perm p,mem_push_iff hk e p,z▸a,layNew_fits t es _ x,z,Tn h es _ x⟩
theorem DS{Q:Unit->Yn->Prop}(q:Q () s):Ys (Yv prog w) A (match b with|true=>rule "set.scan.the-table-gave-way"|false=>pure ()) Q E s:=by
 cases b
 ·exact Yt q
 ·exact af3 q
theorem Q2{u:acT}{Q:Bool->Yn->Prop}(x:sS prog w s.heap a S n)(d:n+ 1<acF)(h:∀h' b,aan a s.heap h'->sS prog w h' a (λc=>S c||decide (c=k)) (if S k then n else n+ 1)->Q b {s with heap:=h'}):
  Ys (Yv prog w) A (aiu a (.int k u) ((aa5 prog w).hash k)) Q E s:=by
 obtain⟨o,l,p,t,ho,q,hd,g⟩:=x;have r:o8 prog w l t S n:=g;obtain⟨y,hm,H,B,hn,K⟩:=g;have C:(aa5 prog w).is k (.int k u)=true:=intKind_is _ _ _ _;rw[aiu,setAddHashedIn];apply aaI;apply Yg;apply aa3 ho hd B;dsimp only;rw[byScan_of rfl H y,if_pos rfl]
 wp_walk using wpAny_setScan_of C ho hd B y
 cases hr:List.findIdx? (λe=>(aa5 prog w).is k e.2) l.toList with
 |some j=>
  obtain⟨lt,is,_⟩:=List.findIdx?_eq_some_iff_getElem.mp hr;have f:S k=true:=(hm k).mpr ⟨_,Rk lt,is⟩
  wp_walk
  refine h s.heap false (.refl a _) (FL.good ⟨o,p,ho,q,hd⟩ ?_);rw[if_pos f,show(λc=>S c||decide (c=k))=S from funext λc=>?_]
  ·exact r
  ·by_cases e:c=k
   ·rw[e,f];rfl
   ·rw[decide_eq_false e,agf]
 |none=>
  have f:¬ S k=true:=λz=>by
   obtain⟨e,u,v⟩:=(hm k).mp z;exact absurd v (by simpa using List.findIdx?_eq_none_iff.mp hr e u)
  have i:=r.more C rfl d;rw[if_neg f]at h;dsimp only;generalize layNew t l ((aa5 prog w).hash k) (.int k u)=L at i⊢;obtain⟨m,M,wd,N⟩:=L;refine Yg (DS ?_);dsimp only;rw[hashByValue_scannable 8 (x:=.int k u) rfl];split
  all_goals
   refine Yg (Yt ?_);rw[if_pos (by rfl)];refine Yg (FL.put ⟨o,p,ho,q,hd⟩ i.2.2.1 λh1 D F=>?_);split
   ·have G:=i.relaid (SetTable.grown m.size);refine Yg (DS (Yg (FL.put (s:={s with heap:=h1}) F G.2.2.1 λh2 I J=>?_)))
    wp_walk
    exact h h2 true (D.trans I) (J.good G)
   ·wp_walk
    exact h h1 true D (F.good i)
theorem Ew(S I:Ye):ahX prog w (GV.«set.update.loop» ⟨[.ref S,.ref I],[]⟩) λA R s=>Ys (Yv prog w) A.in1 (aaA (.ref I)) (λr s=>match r with
  |none=>R (.ok (.ret .none)) s
  |some v=>Ys (Yv prog w) A.in1 (setAdd S v) (λ_ s=>Gr (Yv prog w) A (.builtin "set.update.loop" ⟨[.ref S,.ref I],[]⟩) R s) (λ_ _=>False) s) (λ_ _=>False) s:=by
 intro A R s nx;show Ys _ _ (aaA (.ref I) >>= _) _ _ s;apply Yg;refine oh nx (λr a h=>?_) λ_ _ z=>z.elim;rcases r with _|v
 ·wp_walk
  exact h
 ·wp_walk using oh h
  ·exact λ_ _ e=>Yt ⟨abA abM _,e⟩
  ·exact λ_ _ z=>z.elim
theorem NC{S:Ye}{fp f:List Ye}{P:Nat->Yd->Prop}{St:Nat->YV->Prop}(W:afi prog w A.in1 I fp f n P St)(l:S∉fp)(val:Nat->Int)(u:∀i v,P i v->∃t,v=.int (val i) t)(m:n+ 1<acF):
  ∀(k i:Nat) (s:Yn),n=i+ k->St i s.heap->sS prog w s.heap S (λc=>(aci val i).any (·==c)) (aci val i).length->
   (∀h' tk,(∀b o,b∉f->b≠S->s.heap.get? b=Ya o->h'.get? b=Ya o)->sS prog w h' S (λc=>(aci val n).any (·==c)) (aci val n).length->R (.ok (.ret .none)) {s with heap:=h',toks:=tk})->
   Gr (Yv prog w) A (.builtin "set.update.loop" ⟨[.ref S,.ref I],[]⟩) R s:=by
 have p:S∉f:=λz=>l (W.sub _ z);intro k
 induction k with
 |zero=>
  intro i s q st x fin;obtain rfl:n=i:=q;exact enter ac8 abM (Ew S I) (W.done s _ _ st λh tk kp=>fin h tk (λb o d _ e=>kp b o d e) (x.at λo e=>kp S o p e))
 |succ k ih=>
  intro i s q st x fin;refine enter ac8 abM (Ew S I) (W.item i s _ _ (by omega) st λv h tk pv g kp=>?_);obtain⟨t,rfl⟩:=u i v pv;have len:=firstMet_length_le val i;show Ys _ _ (setAdd S (.int (val i) t)) _ _ _;unfold setAdd;refine aaI (Yg ((aa5 prog w).pyHash (k:=val i) (intKind_is _ _ _ _) (Q2 (s:={s with heap:=h,toks:=tk+ 1}) (x.at λo e=>kp S o p e) (by omega) λh2 b r y=>?_)));refine ih (i+ 1) {s with heap:=h2,toks:=tk+ 1} (by omega) (W.frame _ _ _ g λb m o e=>(r.2 b λz=>l (z▸m)).trans e) (y.congr (λc=>?_) ?_) λh3 j B C=>fin h3 j (λb o d a e=>B b o d a ((r.2 b a).trans (kp b o d e))) C
  ·rw[agh,step_any]
  ·rw[agh,step_length]
theorem PN(a:Yd)(h:Q1 (.ref s.heap.objs.size) {s with heap:=s.heap.push {cls:=.type "set",dict:=Yb,data:=.set #[] 0 (.fresh 0 0 (!GS w))}}):
  Gr (Yv prog w) A (.call (.builtin "set.__new__") ⟨[.type "set",a],[]⟩) (aip Q1 E) s:=by
 refine aaW PySem.F.plain_set_new PySem.F.entry_set_new (ag1 (PySem.F.newCall_set_1 a) ?_);have sub:=sub_set_self;obtain⟨hp,g,d,tk,os⟩:=s
 wp_walk using abZ
 exact h
theorem FK{T d e:String}{a:List Yd}{Q:Yd->Yn->Prop}(ft:TypeCalled T d e)(ct:checkTypeCall T ⟨a,[]⟩=pure ())(new:Gr (Yv prog w) A.in1 (.call (.builtin d) ⟨.type T::a,[]⟩) (aip Q1 E) s)(init:∀v b,Q1 v b->b.TypeIs v T/\Gr (Yv prog w) A.in1 (.call (.builtin e) ⟨v::a,[]⟩) (aip (λr f=>r=.none/\Q v f) E) b):Ys (Yv prog w) A (call (.type T) a) Q E s:=by
 obtain⟨_,_,_⟩:=ft.mro;have:=ft.notType;have:=ft.canCreate;have:=ft.made;have:=ft.sub;refine adK (ahI (Yt ⟨ael _ (by decide +kernel),afh PySem.F.entry_type_call ?_⟩));rw[Around.under_plain (weight_type_call_type T a []) rfl]
 repeat' first|assumption|wp_step
 refine codeAny_mono new λr b h=>?_
 match r,h with
 | .error _,h=>exact h
 | .ok (.ret v),h=>
  obtain⟨ty,c⟩:=init v b h;have:=ft.init.lookup;have:=ft.init.bind v
  repeat' first|assumption|wp_step
  refine codeAny_mono c λr f h=>?_
  match r,h with
  | .error _,h=>exact h
  | .ok (.ret _),h=>
   obtain⟨rfl,_⟩:=h
   repeat' first|assumption|wp_step
end
theorem cP:ait "set_iterator" "__next__" "set_iterator.__next__":=
 .of (owner:="set_iterator") (n:="__next__") (by rw[ahJ,afI];kernel_rfl) (by decide +kernel) (by decide +kernel) (by decide +kernel) (by first|exact .inl (by decide +kernel)|exact .inr (by decide +kernel)) (by rw[acz];kernel_rfl)
theorem kL:acg aef "set_iterator.__next__"=Ya GV.«set_iterator.__next__»:=ag9 (by kernel_rfl)
theorem kG(a:Yd):abX "set_iterator.__next__" ⟨[a],[]⟩:=by unfold abX;kernel_rfl
theorem xk:ait "set_iterator" "__iter__" "set_iterator.__iter__":=
 .of (owner:="set_iterator") (n:="__iter__") (by rw[ahJ,afI];kernel_rfl) (by decide +kernel) (by decide +kernel) (by decide +kernel) (by first|exact .inl (by decide +kernel)|exact .inr (by decide +kernel)) (by rw[acz];kernel_rfl)
theorem Dx:acg aef "set_iterator.__iter__"=Ya GV.«dict_keyiterator.__iter__»:=ah3 (id':="dict_keyiterator.__iter__") (by kernel_rfl) rfl (by decide +kernel) (by kernel_rfl)
theorem Eg(a:Yd):abX "set_iterator.__iter__" ⟨[a],[]⟩:=by unfold abX;kernel_rfl
theorem EX:acg aef "set.__iter__"=Ya GV.«frozenset.__iter__»:=ah3 (id':="frozenset.__iter__") (by kernel_rfl) rfl (by decide +kernel) (by kernel_rfl)
noncomputable abbrev GD(w:Y7)(h:YV):YV:=h.push {cls:=.type "set",dict:=Yb,data:=.set #[] 0 (.fresh 0 0 (!GS w))}
section
theorem EB{l:Ye}{items:Array Yd}{Q:Yd->Yn->Prop}(r:A.handled=Yb)(hl:s.heap.IsList l items)(t:xy items.toList ns)(u:items.size+ 1<acF)(h:∀h' tk,sS prog w h' s.heap.objs.size (λy=>(aci (λi=>ns.getD i 0) items.size).any (·==y)) (aci (λi=>ns.getD i 0) items.size).length->(∀b o,s.heap.get? b=Ya o->h'.get? b=Ya o)->Q (.ref s.heap.objs.size) {s with heap:=h',toks:=tk}):
  Ys (Yv prog w) A (call (.type "set") [.ref l]) Q E s:=by
 obtain⟨⟨H,od,B,g⟩,d,j,nl,m⟩:=id hl;cases j;cases m;have p:l<s.heap.objs.size:=Yz d;refine FK agy (PySem.F.typeCall_set_1 _) (PN (.ref l) (Q1:=λv C=>v=.ref s.heap.objs.size/\C={s with heap:=GD w s.heap}) ⟨rfl,rfl⟩) ?_;rintro _ _ ⟨rfl,rfl⟩;have new:(GD w s.heap).get? s.heap.objs.size=Ya {cls:=.type "set",dict:=Yb,data:=.set #[] 0 (.fresh 0 0 (!GS w))}:=Yx _ rfl;have f:(GD w s.heap).get? l=Ya {cls:=.type "list",dict:=od,data:=.seq items nl,slots:=g}:=Yj _ d;have a:(GD w s.heap).objs.size=s.heap.objs.size+ 1:=aaV ..;have ty:BD {s with heap:=GD w s.heap} (.ref s.heap.objs.size) "set":=⟨_,new,rfl⟩;refine⟨ty,aaW agy.init.plain PySem.F.entry_set_init (check_set_init_1 ty ?_)⟩;have:=PySem.F.sub_list_set;have:=PySem.F.sub_list_frozenset;have nd:(aaG "list"==aaG "dict")=false:=by decide
 have c:∀b o,s.heap.get? b=Ya o->(GD w s.heap).get? b=Ya o:=λb o e=>Yj _ e;generalize GD w s.heap=h1 at new f a ty c⊢;have q:h1.IsList l items:=⟨_,f,rfl,nl,rfl⟩
 wp_walk using aa2 q
 have D:s.heap.objs.size∉[h1.objs.size,l]:=by
  rw[a];intro z;rcases Ym.mp z with z|z
  ·exact absurd z (YN (abF _))
  ·exact abJ p (Yi.mp z)
 refine NC (adN (by simpa using r) _ l (by rw[a];exact YN (abv p)) items) D (λi=>ns.getD i 0) (λi v F=>IntsAre.int_at t i v (by rw[sq];exact F)) u items.size 0 _ (by omega)
  ⟨⟨_,Yx _ rfl,rfl,rfl⟩,q.push _⟩ ⟨_,#[],0,_,Yj _ new,⟨rfl,rfl,rfl⟩,rfl,λe G=>by simp at G,λk=>by simp[firstMet_zero],by decide,by rfl,rfl,⟨List.Pairwise.nil,rfl⟩⟩ λh2 tk kp x=>?_
 wp_walk
 refine⟨rfl,h h2 tk x λb o e=>?_⟩;have n:=Yz e;refine kp b o (λz=>?_) (YN n) (Yj _ (c b o e));rw[Yi.mp z,a]at n;exact absurd n (ahK.mpr (aaU _))
end
section
theorem sR{α:Type}:∀{xs:List α} {i:Nat} (h:i<xs.length),(xs[i]::xs.eraseIdx i).Perm xs
 |x::xs,0,_=>.refl _
 |x::xs,i+ 1,h=>(afJ x (xs[i]'(afy h)) _).trans ((sR (xs:=xs) (i:=i) (afy h)).cons x)
theorem JA{a:Source}{Q:Nat->Yn->Prop}(hn:n≠0)(h:∀i d,i<n->Q i {s with drawn:=d}):Ys M A (choose a n) Q E s:=fun Γ p _=>by
 unfold choose;rw[Sem.wp_choose];exact⟨hn,h _ _ (aiZ _ (Nat.pos_of_ne_zero hn))⟩
theorem IG{α:Type}{M:aim}:∀(n:Nat) (xs:List α) (s:Yn) (Q:List α->Yn->Prop),xs.length=n->(∀ys d,ys.Perm xs->Q ys {s with drawn:=d})->Ys M A (aia n xs) Q E s
 |0,xs,s,Q,hl,h=>by
  have e:xs=[]:=aav hl;subst e;unfold aia;exact Yt (h [] s.drawn .nil)
 |n+ 1,[],s,Q,hl,h=>by cases hl
 |n+ 1,x::xs,s,Q,hl,h=>by
  unfold aia;refine Yg (JA (by simp) λi d a=>?_);rw[Yk a];dsimp only;refine Yg (IG n _ _ _ (by rw[aer a,hl];rfl) λys b c=>?_);exact Yt (h _ b ((c.cons _).trans (sR a)))
theorem Ig{α:Type}(f:Nat->Nat):∀(n k:Nat) (xs:List α) (out:Array α),xs.length=n->(pickOrder.go f n k xs out).toList.Perm (out.toList++xs)
 |0,k,xs,out,hl=>by
  have e:xs=[]:=aav hl;subst e;unfold pickOrder.go;rw[Y1]
 |n+ 1,k,xs,out,hl=>by
  unfold pickOrder.go;have a:f k%xs.length<xs.length:=aiZ _ (by omega);rw[Yk a];dsimp only;refine(Ig f n (k+ 1) _ _ (by rw[aer a,hl];rfl)).trans ?_;rw[agS,RW];exact aiS _ (sR a)
theorem Jk{α:Type}(f:Nat->Nat)(xs:Array α):(adD f xs).toList.Perm xs.toList:=by
 have:=Ig f xs.size 0 xs.toList #[] (by simp);simpa [adD]using this
end
section
noncomputable def xv(first:Yd)(i:Nat)(a:Ye)(n ep:Nat):pe:={cls:=.type "set_iterator",dict:=Yb,data:=.fields #[first,.int i 0,.ref a,.int n 0,.int ep 0],slots:=#[]}
theorem tE(h:YV)(b:h.get? I=Ya (xv first i a n ep))(k:Nat)(x:Yd):(h.update I (adv (·.setIfInBounds k x))).get? I=Ya {cls:=.type "set_iterator",dict:=Yb,data:=.fields ((#[first,.int i 0,.ref a,.int n 0,.int ep 0]:Array Yd).setIfInBounds k x),slots:=#[]}:=
 aar _ b rfl
theorem fh(b:s.heap.get? I=Ya (xv first i a es.size ep)):s.TypeIs (.ref I) "set_iterator":=⟨_,b,rfl⟩
theorem tU{c:Int}{nx:Nat}(b:s.heap.get? I=Ya (xv (.int c 0) i a es.size ep))(ho:s.heap.get? a=Ya o)(hd:o.data=.set es ep t)(e:t.fits es.size=true)(hn:∀(A:uc) (E:Yd->Yn->Prop) (d:Option (Yd×Nat)->Yn->Prop),d (Ya (x,nx)) s->Ys (Yv prog w) A (aeb a c.toNat i ep) d E s)(h:∀h',h'.get? I=Ya (xv (.int nx 0) (i+ 1) a es.size ep)->aan I s.heap h'->Q (Ya x) {s with heap:=h'}):Ys (Yv prog w) A (aaA (.ref I)) Q E s:=by
 unfold aaA;refine Yg (adw (abB (name:=aaa "__next__") (fh b) cP (abd cP (fh b) kL ?_ (kG _))));unfold GV.«set_iterator.__next__»;refine Yg (Yt (Yg (aec b rfl ?_)));show Ys _ _ (af4 a >>= _) _ _ _;refine Yg (ab6 ho hd e ?_);show Ys _ _ (if(((es.size:Nat):Int) !=((es.size:Nat):Int))=true then _ else _) _ _ _;rw[if_neg (by simp)];show Ys _ _ (aeb a c.toNat ((i:Int)).toNat ((ep:Int)).toNat >>= _) _ _ _;rw[YO,YO];refine Yg (hn _ _ _ ?_);show Ys _ _ (af5 (.ref I) 0 (aaY nx) >>= _) _ _ _;refine Yg (acA b rfl (by simp) ?_);have h1:=tE s.heap b 0 (aaY nx);refine Yg (acA (s:={s with heap:=s.heap.update I (adv (·.setIfInBounds 0 (aaY nx)))}) h1 rfl (by simp) ?_);refine Yt ⟨_,rfl,Yt (h _ ?_ ((aaq ..).trans (aaq ..)))⟩;exact aar _ h1 rfl
theorem E5{Q:adY->Yn->Prop}(c:A.handled=Yb)(h:∀h' e,(∀b o,s.heap.get? b=Ya o->h'.get? b=Ya o)->(∃o,h'.get? e=Ya o/\o.cls=.type "StopIteration")->E (.ref e) {s with heap:=h'}):
  Ys M A (newExc (.type "StopIteration") [] >>= λe=>ahd e) Q E s:=by
 refine Yg ?_;simp only[newExc,newTuple];refine Yg (aay ?_ (by size_fits));refine Yg (m:=ah4 _ _) (ag1 (a:=aaf) (by first|rfl|(simp only[ah4];rfl)) ?_);refine aay ?_ (by size_fits);refine agm c (h _ _ (λb o e=>Yj _ (Yj _ e)) ⟨_,Yx _ rfl,rfl⟩)
theorem uk{d:Int}(g:A.handled=Yb)(c:s.heap.get? I=Ya (xv (.int d 0) i a es.size ep))(ho:s.heap.get? a=Ya o)(hd:o.data=.set es ep t)(j:t.fits es.size=true)(hn:∀(A:uc) (E:Yd->Yn->Prop) (f:Option (Yd×Nat)->Yn->Prop),f Yb s->Ys (Yv prog w) A (aeb a d.toNat i ep) f E s)(h:∀h',(∀b o,b≠I->s.heap.get? b=Ya o->h'.get? b=Ya o)->Q Yb {s with heap:=h'}):Ys (Yv prog w) A (aaA (.ref I)) Q E s:=by
 unfold aaA;refine Yg (adw (abB (name:=aaa "__next__") (fh c) cP (abd cP (fh c) kL ?_ (kG _))));unfold GV.«set_iterator.__next__»;refine Yg (Yt (Yg (aec c rfl ?_)));show Ys _ _ (af4 a >>= _) _ _ _;refine Yg (ab6 ho hd j ?_);show Ys _ _ (if(((es.size:Nat):Int) !=((es.size:Nat):Int))=true then _ else _) _ _ _;rw[if_neg (by simp)];show Ys _ _ (aeb a d.toNat ((i:Int)).toNat ((ep:Int)).toNat >>= _) _ _ _;rw[YO,YO];refine Yg (hn _ _ _ ?_);show Ys _ _ (af5 (.ref I) 2 .none >>= _) _ _ _;refine Yg (acA c rfl (by simp) ?_);refine E5 (A:=A.in1) g λh' e kp k=>?_;obtain⟨l,m,n⟩:=k;refine Yg (ae1 (T:="StopIteration") (b:=true) ⟨l,m,n⟩ ah5 ?_);exact Yt (h h' λb ob p e=>kp b ob ((xp _ _ (Ne.symm p)).trans e))
theorem Cb{k:Nat}{hk:Int}(b:s.heap.get? I=Ya (xv (.ref tp) i a es.size ep))(ho:s.heap.get? a=Ya o)(hd:o.data=.set es ep t)(d:t.fits es.size=true)(e:s.heap.get? tp=Ya {cls:=.type "tuple",dict:=Yb,data:=.seq (ps.map fun(i:Nat)=>aaY i).toArray c,slots:=#[]})(hp:ps[i]?=Ya k)(f:es[k]?=Ya (hk,x))(h:∀h',h'.get? I=Ya (xv (.ref tp) (i+ 1) a es.size ep)->aan I s.heap h'->Q (Ya x) {s with heap:=h'}):Ys (Yv prog w) A (aaA (.ref I)) Q E s:=by
 unfold aaA;refine Yg (adw (abB (name:=aaa "__next__") (fh b) cP (abd cP (fh b) kL ?_ (kG _))));unfold GV.«set_iterator.__next__»;refine Yg (Yt (Yg (aec b rfl ?_)));show Ys _ _ (af4 a >>= _) _ _ _;refine Yg (ab6 ho hd d ?_);show Ys _ _ (if(((es.size:Nat):Int) !=((es.size:Nat):Int))=true then _ else _) _ _ _;rw[if_neg (by simp)];show Ys _ _ (agv (.ref tp) >>= _) _ _ _;refine Yg (ad9 e rfl ?_);have g:((ps.map fun(i:Nat)=>aaY i).toArray)[((i:Nat):Int).toNat]?=Ya (.int k 0):=by
  rw[YO,afK,Yy,hp];rfl
 dsimp only;rw[g];show Ys _ _ (aiv a ((k:Nat):Int).toNat ((ep:Nat):Int).toNat >>= _) _ _ _;rw[YO,YO];unfold aiv;refine Yg (Yg (aa3 ho hd d ?_));show Ys _ _ (if(ep !=ep)=true then _ else _) _ _ _;rw[if_neg (by simp)];refine Yg (Yt ?_);rw[f];refine Yt ?_;show Ys _ _ (af5 (.ref I) 1 (aaY ((i:Int)+ 1)) >>= _) _ _ _;refine Yg (acA b rfl (by simp) (Yt ⟨_,rfl,Yt (h _ ?_ (aaq ..))⟩));exact tE s.heap b 1 (aaY ((i:Int)+ 1))
theorem Cm(g:A.handled=Yb)(d:s.heap.get? I=Ya (xv (.ref tp) i a es.size ep))(ho:s.heap.get? a=Ya o)(hd:o.data=.set es ep t)(j:t.fits es.size=true)(k:s.heap.get? tp=Ya {cls:=.type "tuple",dict:=Yb,data:=.seq (ps.map fun(i:Nat)=>aaY i).toArray c,slots:=#[]})(hp:ps[i]?=Yb)(h:∀h',(∀b o,b≠I->s.heap.get? b=Ya o->h'.get? b=Ya o)->Q Yb {s with heap:=h'}):Ys (Yv prog w) A (aaA (.ref I)) Q E s:=by
 unfold aaA;refine Yg (adw (abB (name:=aaa "__next__") (fh d) cP (abd cP (fh d) kL ?_ (kG _))));unfold GV.«set_iterator.__next__»;refine Yg (Yt (Yg (aec d rfl ?_)));show Ys _ _ (af4 a >>= _) _ _ _;refine Yg (ab6 ho hd j ?_);show Ys _ _ (if(((es.size:Nat):Int) !=((es.size:Nat):Int))=true then _ else _) _ _ _;rw[if_neg (by simp)];show Ys _ _ (agv (.ref tp) >>= _) _ _ _;refine Yg (ad9 k rfl ?_);have l:((ps.map fun(i:Nat)=>aaY i).toArray)[((i:Nat):Int).toNat]?=none:=by
  rw[YO,afK,Yy,hp];rfl
 dsimp only;rw[l];show Ys _ _ (af5 (.ref I) 0 (aaY 0) >>= _) _ _ _;refine Yg (acA d rfl (by simp) ?_);have h1:=tE s.heap d 0 (aaY 0);refine Yg (acA (s:={s with heap:=s.heap.update I (adv (·.setIfInBounds 0 (aaY 0)))}) h1 rfl (by simp) ?_);refine E5 (A:=A.in1) g λh' e kp m=>?_;obtain⟨n,p,q⟩:=m;refine Yg (ae1 (T:="StopIteration") (b:=true) ⟨n,p,q⟩ ah5 ?_);exact Yt (h h' λb ob f e=>kp b ob ((xp _ _ (Ne.symm f)).trans ((xp _ _ (Ne.symm f)).trans e)))
theorem AO{Q:Option (Yd×Nat)->Yn->Prop}(b:GS w=true)(ho:s.heap.get? a=Ya o)(hd:o.data=.set es ep t)(c:t.fits es.size=true)(h:Q (((adD (w.params.setOrder a ep) es)[i]?).map λe=>(e.2,sl)) s):Ys (Yv prog w) A (aeb a sl i ep) Q E s:=by
 have d:w.params.followText "set-order"=true:=b;unfold aeb;refine Yg (aa3 ho hd c (Yg (Yg (abZ (Yt ?_)))));show Ys _ _ (if w.params.followText "set-order"=true then _ else _) _ _ _;rw[d,if_pos rfl];show Ys _ _ (if(ep !=ep)=true then _ else _) _ _ _;rw[if_neg (by simp)];refine Yg ?_;unfold setWalk;refine Yg (aa3 ho hd c (Yg (Yg (abZ (Yt ?_)))));show Ys _ _ (if w.params.followText "set-order"=true then _ else _) _ _ _;rw[d,if_pos rfl];exact Yg (abZ (Yt (Yt h)))
theorem FQ{Q:Option (Yd×Nat)->Yn->Prop}(b:GS w=false)(d:(!t.plain&&decide (es.size>1))=false)(hl:t.led=true)(ho:s.heap.get? a=Ya o)(hd:o.data=.set es ep t)(c:t.fits es.size=true)(h:Q (match es[xj t.place sl]?,t.place[xj t.place sl]? with|some (_,x),Ya j=>Ya (x,j+ 1)|_,_=>Yb) s):Ys (Yv prog w) A (aeb a sl i ep) Q E s:=by
 have e:w.params.followText "set-order"=false:=b;unfold aeb;refine Yg (aa3 ho hd c (Yg (Yg (abZ (Yt ?_)))));show Ys _ _ (if w.params.followText "set-order"=true then _ else _) _ _ _;rw[e,if_neg YZ];refine Yg (Yt ?_);show Ys _ _ (if(!t.plain&&decide (es.size>1))=true then _ else _) _ _ _;rw[d,if_neg YZ];refine Yg ?_;show Ys _ _ (if(!t.led&& !es.isEmpty)=true then _ else _) _ _ _;rw[hl];show Ys _ _ (if(false&& !es.isEmpty)=true then _ else _) _ _ _;rw[abV,if_neg YZ];exact Yt (Yt h)
end
section
theorem yn{Q:Yd->Yn->Prop}(b:s.heap.get? I=Ya (xv first i a es.size ep))(h:Q (.ref I) s):Ys (Yv prog w) A (adm (.ref I)) Q E s:=by
 refine acq (fh b) xk (abd xk (fh b) Dx ?_ (Eg _));show Ys _ _ (ret (.ref I)) _ _ s;exact Yt ⟨_,rfl,"set_iterator",_,fh b,cP.lookup,h⟩
theorem KL(u:A.handled=Yb)(b:GS w=true)(hd:o.data=.set es ep t)(j:t.fits es.size=true)(ne:a≠I):
  afi prog w A I [I,a] [I] ((adD (w.params.setOrder a ep) es).toList.map (·.2)).length (λi v=>((adD (w.params.setOrder a ep) es).toList.map (·.2))[i]?=Ya v)
   (λi h=>(∃sl:Nat,h.get? I=Ya (xv (.int sl 0) i a es.size ep))/\h.get? a=Ya o) where
 sub:=λb y=>Yi.mp y▸Yu
 frame:=λi h k st n=>⟨let ⟨sl,e⟩:=st.1;⟨sl,n I (by simp) _ e⟩,n a (by simp) _ st.2⟩
 item:=λi s _ _ B st d=>by
  obtain⟨⟨sl,f⟩,ho⟩:=st;have g:i<(adD (w.params.setOrder a ep) es).size:=by simpa using B
  refine tU (x:=((adD (w.params.setOrder a ep) es)[i]).2) (nx:=sl) f ho hd j (λA E C q=>AO b ho hd j ?_) λk e p=>d _ k s.toks ?_ ⟨⟨sl,e⟩,(p.2 a ne).trans ho⟩ λc r l m=>(p.2 c (λz=>l (by simp[z]))).trans m
  ·rw[YR g];exact q
  ·rw[Yy,sq,YR g];rfl
 done:=λs Q E st d=>by
  obtain⟨⟨sl,f⟩,ho⟩:=st;refine uk u f ho hd j (λA E C q=>AO b ho hd j ?_) λk kp=>d k s.toks λc r l m=>kp c r (λz=>l (by simp[z])) m;rw[aaN (by simp)];exact q
 self:=λi s Q E st d=>let ⟨⟨_,f⟩,_⟩:=st;yn f d
theorem Ml(C:A.handled=Yb)(b:GS w=false)(d:(!t.plain&&decide (es.size>1))=false)(tb:Tb (!GS w) t)(hd:o.data=.set es ep t)(g:t.fits es.size=true)(ne:a≠I):
  afi prog w A I [I,a] [I] (es.toList.map (·.2)).length (λi v=>(es.toList.map (·.2))[i]?=Ya v)
   (λi h=>(∃sl:Nat,xj t.place sl=i/\h.get? I=Ya (xv (.int sl 0) i a es.size ep))/\h.get? a=Ya o) where
 sub:=λb D=>Yi.mp D▸Yu
 frame:=λi h n st u=>⟨let ⟨sl,j,e⟩:=st.1;⟨sl,j,u I (by simp) _ e⟩,u a (by simp) _ st.2⟩
 item:=λi s _ _ F st k=>by
  obtain⟨⟨sl,j,l⟩,ho⟩:=st;have m:i<es.size:=by simpa using F
  have hl:t.led=true:=by rw[tb.2,b];rfl
  have hp:t.place.size=es.size:=by
   simp only[SetTable.fits,aas,beq_iff_eq,decide_eq_true_eq]at g;exact g.1
  have f:i<t.place.size:=by omega
  refine tU (x:=(es[i]).2) (nx:=t.place.getD i 0+ 1) l ho hd g (λA E G q=>FQ b d hl ho hd g ?_) λn e y=>k _ n s.toks ?_ ⟨⟨t.place.getD i 0+ 1,GA tb.1 f,e⟩,(y.2 a ne).trans ho⟩ λc B p r=>(y.2 c (λz=>p (by simp[z]))).trans r
  ·rw[YO,j,YR m,YR f];rw[YT,YR f]at q;exact q
  ·rw[Yy,sq,YR m];rfl
 done:=λs Q E st k=>by
  obtain⟨⟨sl,j,l⟩,ho⟩:=st;have hl:t.led=true:=by rw[tb.2,b];rfl
  refine uk C l ho hd g (λA E G q=>FQ b d hl ho hd g ?_) λn kp=>k n s.toks λc B p r=>kp c B (λz=>p (by simp[z])) r;rw[YO,j,aaN (by simp)];exact q
 self:=λi s Q E st k=>let ⟨⟨_,_,l⟩,_⟩:=st;yn l k
theorem FU(u:A.handled=Yb)(y:ps.Perm (Y8 es.size))(hd:o.data=.set es ep t)(q:t.fits es.size=true)(ne:a≠I)(B:tp≠I):
  afi prog w A I [I,a,tp] [I] (ps.map λi=>(es.getD i (0,.none)).2).length (λi v=>(ps.map λi=>(es.getD i (0,.none)).2)[i]?=Ya v)
   (λi h=>h.get? I=Ya (xv (.ref tp) i a es.size ep)/\h.get? a=Ya o/\h.get? tp=Ya {cls:=.type "tuple",dict:=Yb,data:=.seq (ps.map fun(i:Nat)=>aaY i).toArray c,slots:=#[]}) where
 sub:=λb C=>Yi.mp C▸Yu
 frame:=λi h f st k=>⟨k I (by simp) _ st.1,k a (by simp) _ st.2.1,k tp (by simp) _ st.2.2⟩
 item:=λi s _ _ g st d=>by
  obtain⟨l,ho,j⟩:=st;rw[Yf]at g;have hm:ps[i]<es.size:=aak.mp (y.mem_iff.mp (Rk g));refine Cb (x:=(es[ps[i]]).2) (hk:=(es[ps[i]]).1) l ho hd q j (Yk g) (YR hm) λf e m=>d _ f s.toks ?_ ⟨e,(m.2 a ne).trans ho,(m.2 tp B).trans j⟩ λc r n p=>(m.2 c (λz=>n (by simp[z]))).trans p;rw[Yy,Yk g,abS,YT,YR hm];rfl
 done:=λs Q E st d=>by
  obtain⟨l,ho,j⟩:=st;exact Cm u l ho hd q j (abi (by rw[Yf];exact Yl _)) λf kp=>d f s.toks λc r n p=>kp c r (λz=>n (by simp[z])) p
 self:=λi s Q E st d=>yn st.1 d
theorem F6(es:Array (Int×Yd)):(Y8 es.size).map (λi=>(es.getD i (0,aaf)).2)=es.toList.map (·.2):=by
 apply adl;intro i;rw[Yy,Yy,sq (xs:=es)];by_cases h:i<es.size
 ·rw[Yk (by rw[Rw];exact h),List.getElem_range,abS,YT,YR h];rfl
 ·rw[abi (by rw[Rw];omega),aaN (by omega)];rfl
theorem Od(r:A.handled=Yb)(ho:s.heap.get? a=Ya o)(q:o.ExactSet)(hd:o.data=.set es ep t)(f:t.fits es.size=true)(g:es.size<acF)(tb:Tb (!GS w) t){Q:Yd->Yn->Prop}
  (h:∀(h':YV) (d':aht) (I:Ye) (fp:List Ye) (vs:List Yd) (St:Nat->YV->Prop),(∀b o,s.heap.get? b=Ya o->h'.get? b=Ya o)->s.heap.objs.size<=I->(∀b∈fp,b=a∨s.heap.objs.size<=b)->vs.Perm (es.toList.map (·.2))->
   (∀A:uc,A.handled=Yb->afi prog w A I fp [I] vs.length (λi v=>vs[i]?=Ya v) St)->St 0 h'->Q (.ref I) {s with heap:=h',drawn:=d'}):Ys (Yv prog w) A (adm (.ref a)) Q E s:=by
 have j:s.TypeIs (.ref a) "set":=⟨o,ho,q.1⟩;have p:=Yz ho;refine acq j afL (abd afL j EX ?_ (PySem.F.args_set_iter_1 _));unfold GV.«frozenset.__iter__» Builtin.Frozenset.slot0 Builtin.Frozenset.addrOf Builtin.Frozenset.sizeOf;refine Yg (Yg (Yt (Yt (Yg (Yg (ab6 ho hd f (Yt ?_)))))));refine Yg ?_;unfold setDrawn;refine Yg (aa3 ho hd f (Yg (Yg (abZ (Yt (Yt ?_))))));show Ys _ _ (if(!GS w&&(!t.plain&&decide (es.size>1)))=true then _ else _) _ _ _;cases hc:(!GS w&&(!t.plain&&decide (es.size>1)))with
 |false=>
  rw[if_neg YZ];refine Yg (Yt (Yg ?_));unfold setEpoch;refine Yg (aa3 ho hd f (Yt ?_));refine Yg (aay (Yt ⟨_,rfl,"set_iterator",_,⟨_,Yx _ rfl,rfl⟩,cP.lookup,?_⟩));have nI:a≠s.heap.objs.size:=YN p;have d:∀b∈[s.heap.objs.size,a],b=a∨s.heap.objs.size<=b:=λb g=>by
   simp only[Ym,xu,or_false]at g;rcases g with z|z
   ·exact .inr (adJ z.symm)
   ·exact .inl z
  cases j:GS w with
  |true=>
   refine h _ s.drawn s.heap.objs.size [s.heap.objs.size,a] _ _ (λb o e=>Yj _ e) (Yl _) d ((Jk (w.params.setOrder a ep) es).map _) (λA k=>KL k j hd f nI) ⟨⟨0,Yx _ rfl⟩,Yj _ ho⟩
  |false=>
   have m:(!t.plain&&decide (es.size>1))=false:=by rw[j]at hc;exact hc
   refine h _ s.drawn s.heap.objs.size [s.heap.objs.size,a] _ _ (λb o e=>Yj _ e) (Yl _) d (.refl _) (λA k=>Ml k j m tb hd f nI) ⟨⟨0,GJ tb.1,Yx _ rfl⟩,Yj _ ho⟩
 |true=>
  rw[if_pos rfl];refine Yg (IG es.size (Y8 es.size) s _ (by rw[Rw]) λps d' n=>Yg ?_);refine afM (Yg ?_) ?_
  ·unfold setEpoch;have l:(s.heap.push {cls:=.type "tuple",data:=.seq (ps.map fun(i:Nat)=>aaY i).toArray}).get? a=Ya o:=Yj _ ho;refine Yg (aa3 l hd f (Yt ?_));refine Yg (aay (Yt ⟨_,rfl,"set_iterator",_,⟨_,Yx _ rfl,rfl⟩,cP.lookup,?_⟩));have sz:(s.heap.push {cls:=.type "tuple",data:=.seq (ps.map fun(i:Nat)=>aaY i).toArray}).objs.size=s.heap.objs.size+ 1:=aaV ..;refine h _ d' (s.heap.push {cls:=.type "tuple",data:=.seq (ps.map fun(i:Nat)=>aaY i).toArray}).objs.size [(s.heap.push {cls:=.type "tuple",data:=.seq (ps.map fun(i:Nat)=>aaY i).toArray}).objs.size,a,s.heap.objs.size] (ps.map λi=>(es.getD i (0,.none)).2) _
    (λb o e=>Yj _ (Yj _ e)) (by rw[sz];exact aaU _) (λb g=>?_) ?_ (λA k=>FU (c:=0) k n hd f (by rw[sz];exact YN (abv p)) (by rw[sz];exact YN (abF _)))
    ⟨Yx _ rfl,Yj _ l,Yj _ (Yx _ rfl)⟩
   ·simp only[Ym,xu,or_false]at g;rcases g with z|z|z
    ·exact .inr (by rw[z,sz];exact aaU _)
    ·exact .inl z
    ·exact .inr (adJ z.symm)
   ·exact(n.map _).trans (by rw[F6])
  ·rw[Yf,n.length_eq,Rw];exact aeF g
end
theorem yF{α:Type}[DecidableEq α]:∀{l m:List α},l.Nodup->(∀x∈l,x∈m)->m.length<=l.length->m.Perm l
 |[],m,_,_,h=>by
  have e:m=[]:=aav (Nat.le_zero.mp h);rw[e]
 |x::l,m,nd,sub,h=>by
  rw[vc]at nd;have d:=sub x Yu;have b:=af6 d;refine b.trans (ai2 x (yF nd.2 (λy c=>?_) ?_))
  ·have a:=sub y (Yo _ c);exact(adQ (show y≠x from λz=>nd.1 (z▸c))).mpr a
  ·have:=b.length_eq;rw[gm]at this h;omega
theorem xg(val:Nat->Int):∀i,(aci val i).Nodup
 |0=>ad7
 |i+ 1=>by
  rw[agh];unfold step_dedup;have a:=xg val i;by_cases h:List.any (aci val i) (·==val i)
  ·rw[if_pos h];exact a
  ·rw[if_neg h,jJ];refine⟨a,by simp,λx b y c e=>h ?_⟩;rw[ab0];refine⟨x,b,?_⟩;have d:=Yi.mp c;rw[e,d,beq_self_eq_true]
theorem CH(val:Nat->Int)(i:Nat)(k:Int):k∈aci val i↔∃j,j<i/\val j=k:=by
 have h:=firstMet_any val i k;rw[abQ,ab0,ab0]at h;constructor
 ·intro z;obtain⟨x,a,e⟩:=h.mp ⟨k,z,by simp⟩;obtain⟨j,b,c⟩:=YA.mp a;exact⟨j,aak.mp b,by rw[c];simpa using e⟩
 ·rintro⟨j,b,e⟩;obtain⟨x,a,d⟩:=h.mpr ⟨val j,YA.mpr ⟨j,aak.mpr b,rfl⟩,by simp[e]⟩;have:x=k:=by simpa using d
  rw[←this];exact a
section
theorem yT:∀{l:List (Int×Yd)},aiR (aa5 prog w) l->∃ns,xy (l.map (·.2)) ns/\∀k,k∈ns↔∃e∈l,(aa5 prog w).is k e.2=true
 |[],_=>⟨[],.nil,λk=>by simp⟩
 |e::l,h=>by
  obtain⟨ns,h1,h2⟩:=yT h.tail;obtain⟨⟨k,a,_⟩,_⟩:=h.head;obtain⟨t,d⟩:=agJ (k:=k) (v:=e.2) a;refine⟨k::ns,?_,λj=>?_⟩
  ·rw[YG,d];exact .cons k t h1
  ·rw[Ym,h2 j];constructor
   ·rintro(z|⟨b,c,q⟩)
    ·exact⟨e,Yu,by rw[z];exact a⟩
    ·exact⟨b,Yo _ c,q⟩
   ·rintro⟨b,c,q⟩;rcases Ym.mp c with z|z
    ·rw[z]at q;exact .inl ((aa5 prog w).inj e.2 j k q a)
    ·exact .inr ⟨b,z,q⟩
theorem JV{vs us:List Yd}(b:vs.Perm us)(h:xy us ns):∃a,xy vs a/\a.Perm ns:=by
 induction b generalizing ns with
 |nil=>exact⟨ns,h,.refl _⟩
 |cons x p ih=>
  cases h with
  |cons n t hr=>
   obtain⟨a,h1,h2⟩:=ih hr;exact⟨n::a,.cons n t h1,h2.cons n⟩
 |swap x y l=>
  cases h with
  |cons n t hr=>
   cases hr with
   |cons m u hr=>exact⟨_,.cons m u (.cons n t hr),afJ ..⟩
 |trans p q ih1 ih2=>
  obtain⟨a,h1,h2⟩:=ih2 h;obtain⟨c,h3,h4⟩:=ih1 h1;exact⟨c,h3,h4.trans h2⟩
theorem Nw{Q:Bool->Yn->Prop}(c:s.TypeIs (.ref a) "set")(h:Q false s):Ys (Yv prog w) A (aib (.ref a)) Q E s:=by
 show Ys _ _ (specialOf (.ref a) "__len__" >>= _) _ _ s;refine Yg (ahB c PySem.F.slot_set_len.lookup ?_);generalize hid:("set.__len__":String)=id0
 wp_delta
 rw[show splitId id0=Ya ("set","__len__")from by subst hid;decide +kernel];subst hid;refine Yg (ae1 (T:="set") (b:=true) c (by rw[acz];kernel_rfl) ?_);refine afj (λz=>absurd z (by decide)) (λ_=>?_);refine afj (λ_=>?_) (λz=>absurd (by decide +kernel) z);exact Yg (agu c (Yt h))
theorem L3{id:String}{B:GV}{a:Args}(d:acg aef id=Ya B)(hp:afH id=true)(h:Ys (Yv prog w) A.in1 (B a) (λf b=>match f with| .done f=>R (.ok f) b| .again c=>c.quiet=true/\Gr (Yv prog w) A c R b) (λe b=>R (.error e) b) s):Gr (Yv prog w) A (.builtin id a) R s:=
 afh d (by rw[Around.under_plainId hp];exact h)
theorem Fx{R:List Yd->Yn->Prop}(C:A.handled=Yb)(x:sS prog w s.heap a S n)(h:∀(h':YV) (d':aht) (tk:Nat) (vs:List Yd) (ns:List Int),(∀b o,s.heap.get? b=Ya o->h'.get? b=Ya o)->xy vs ns->ns.length=n->(∀k,k∈ns↔S k=true)->R vs {s with heap:=h',drawn:=d',toks:=tk}):
  Ys (Yv prog w) A (aiQ (.ref a)) R E s:=by
 obtain⟨o,es,ep,t,ho,D,hd,U,hm,y,V,hn,X⟩:=x;have L:=Yz ho;unfold aiQ;refine Yg (wpAny_runValue (L3 entry_proto_collect' PySem.F.plain_proto_collect (Yg (aay (Yt ⟨abA afd _,L3 entry_list_iadd' afd ?_⟩)))));have m:(s.heap.push {cls:=.type "list",data:=.seq ([]:List Yd).toArray}).get? s.heap.objs.size=Ya {cls:=.type "list",data:=.seq #[]}:=Yx _ rfl;have c:(s.heap.push {cls:=.type "list",data:=.seq ([]:List Yd).toArray}).get? a=Ya o:=Yj _ ho;have g:(s.heap.push {cls:=.type "list",data:=.seq ([]:List Yd).toArray}).objs.size=s.heap.objs.size+ 1:=aaV ..;have p:∀b ob,s.heap.get? b=Ya ob->(s.heap.push {cls:=.type "list",data:=.seq ([]:List Yd).toArray}).get? b=Ya ob:=λb ob e=>Yj _ e;show Ys _ A.in1 (aic (.ref s.heap.objs.size) (.ref a) (.ref s.heap.objs.size)) _ _ _;generalize s.heap.push {cls:=.type "list",data:=.seq ([]:List Yd).toArray}=H1 at m c g p⊢;show Ys _ _ (ahD (.ref a) >>= _) _ _ _;refine Yg (agu (T:="set") ⟨o,c,D.1⟩ ?_);have n1:ae2 (.ref s.heap.objs.size) (.ref a)=false:=by simp[ae2,abJ L]
 have n2:(aaG "set"==aaG "list")=false:=by decide
 have n3:(aaG "set"==aaG "tuple")=false:=by decide
 simp only[n1,n2,n3,agf,ac6,if_false];refine Yg (Od (s:={s with heap:=H1}) (A:=A.in1) C c D hd V y X λh2 Y I Z vs St F lI G M W st=>?_);refine Yg (aaI (Nw (s:={s with heap:=h2,drawn:=Y}) ⟨o,F _ _ c,D.1⟩ ?_));have r:=F _ _ m;have N:s.heap.objs.size∉Z:=λz=>by
  rcases G _ z with q|q
  ·exact absurd L (by rw[←q];exact Y9 _)
  ·rw[g]at q;exact absurd q (Nat.not_succ_le_self _)
 have d:vs.length=n:=by rw[M.length_eq,Yf,pk,hn]
 have nz:vs.length<=YB:=by rw[d,←hn];exact aeF y
 refine afj (λ_=>?_) (λz=>absurd (by decide) z);refine Yg (af3 (Yg ?_));show Ys _ _ (updateSeq s.heap.objs.size (·.push .none) >>= λ_=>updateSeq s.heap.objs.size (·.pop)) _ _ _;refine Yg (acW r rfl ?_);have u:=aar (aaz (·.push aaf)) r rfl;refine acW (hz:=by seq_fits) u rfl ?_;have H:=aar (aaz (·.pop)) u rfl;have v:∀b ob,b≠s.heap.objs.size->h2.get? b=Ya ob->((h2.update s.heap.objs.size (aaz (·.push aaf))).update s.heap.objs.size (aaz (·.pop))).get? b=Ya ob:=λb ob O e=>(xp _ _ (Ne.symm O)).trans ((xp _ _ (Ne.symm O)).trans e);refine Yt ⟨abA PySem.F.plain_extend_loop _,codeAny_extend_loopS (W A.in1 C).toS nz _ N _ vs.length 0 _ #[] _ rfl (cT _) ((W A.in1 C).frame 0 _ _ st λb y ob e=>v b ob (λz=>N (z▸y)) e) H (ItemsOf.nil _) λs' i c' l J f=>?_⟩;apply Yg (wpAny_load J _);have ea:i.toList=vs:=by
  apply adl;intro j;rw[sq];by_cases P:j<i.size
  ·rw[YR P];exact(f.2 j _ (YR P)).symm
  ·rw[aaN (by omega),abi (by rw[←f.1];omega)]
 obtain⟨ab,q1,q2⟩:=yT U;obtain⟨ns,Q,q4⟩:=JV M q1;have ln:ns.length=n:=by rw[←Q.length,d]
 have:=h s'.heap s'.drawn s'.toks vs ns (λb ob e=>l.heap b ob (λz=>?_) (v b ob (YN (Yz e)) (F b ob (p b ob e)))) Q ln (λk=>by rw[q4.mem_iff,q2 k,hm k])
 ·obtain⟨h',g',d',t',K⟩:=s';have eg:g'=s.gens:=l.gens;have eo:K=s.os:=l.os;subst eg eo;show Ys _ A (pure i.toList) _ _ _;rw[ea];exact Yt this
 ·have B:=Yz e;rcases Ym.mp z with z|z
  ·rw[z]at B;exact Y9 _ B
  ·rw[Yi.mp z]at B;have q:H1.objs.size<=I:=lI;rw[g]at q;exact absurd B (ahK.mpr (ir (aaU _) q))
end
end GX
namespace L2
open PySem PySem.Spec PyProof.Rows
noncomputable def Nj(P:Y0)(w:Y7)(a:Ye)(ks:List Int):HO:=.ext λh=>GX.sS P w h a (λk=>ks.any (·==k)) ks.length
section
variable{X:Cx}
theorem aO.draw{a:List (Ye×pe)}{σ:St}{H:Hp}{s:Yn}(I:aO X a σ H s)(d:aht):aO X a σ H {s with drawn:=d}:=⟨I.ok,I.os,I.bare,I.base,I.loc,I.cell,I.free,I.freeC,I.pin,I.hok,I.len⟩
theorem AE(d:X.calm=true):dO X (.type "set") (λxs H Q=>∃(p:Ye) (ns:List Int),xs=[.ref p]/\a9 X.K H p (ns.map V.int)/\ns.length<=1000/\∀(q:Ye) (ks:List Int),H q=Yb->ks.Nodup->(∀k,k∈ks↔k∈ns)->Q (.ref q) (upd H q (Nj X.prog X.w q ks))):=by
 intro z s σ H xs us Q I r h;obtain⟨p,ns,rfl,f,A,q⟩:=h;obtain⟨u,rfl,g⟩:=fG r;cases g;obtain⟨a,l,m,n⟩:=I.list f;have c:xy a ns:=jH l;have hl:a.length=ns.length:=c.length;refine GX.EB (items:=a.toArray) (ns:=ns) (I.ok.hd d) m.isList (by simpa using c) (by rw[YC,hl];unfold acF;omega) λt tk x kp=>?_;have sz:a.toArray.size=ns.length:=by rw[YC,hl]
 rw[sz]at x;have new:cD X.prog X.w (upd H s.heap.objs.size (Nj X.prog X.w s.heap.objs.size (aci (λi=>ns.getD i 0) ns.length))) t s.heap.objs.size (Nj X.prog X.w s.heap.objs.size (aci (λi=>ns.getD i 0) ns.length)):=by
  refine⟨x,?_,λh1 h2 y k=>y.at k⟩;obtain⟨o,_,_,_,ho,_⟩:=x;exact⟨o,ho⟩
 refine⟨.ref s.heap.objs.size,_,I.laid (t':=tk) kp (Yl _) new,rfl,q _ _ (I.hok.fresh (Yl _)) (GX.xg _ _) λk=>?_⟩;rw[GX.CH];constructor
 ·rintro⟨j,b,e⟩;rw[YM,Yk b]at e;have v:ns[j]=k:=e;rw[←v];exact Rk b
 ·intro w;obtain⟨j,b,e⟩:=ab5 w;refine⟨j,b,?_⟩;rw[YM,Yk b];exact e
theorem uv(o:X.calm=true):dO X (.builtin "sorted") (λxs H Q=>∃(a:Ye) (ks:List Int),xs=[.ref a]/\H a=Ya (Nj X.prog X.w a ks)/\ks.Nodup/\ks.length<64/\∀(l:Ye) (ns:List Int),H l=Yb->ns.Perm ks->ns.Pairwise (·<=·)->Q (.ref l) (upd H l (.lst (ns.map V.int)))):=by
 intro p s σ H xs us Q I r h;obtain⟨a,ks,rfl,ha,nd,b,q⟩:=h;obtain⟨u,rfl,t⟩:=fG r;cases t;have x:GX.sS X.prog X.w s.heap a (λk=>ks.any (·==k)) ks.length:=(I.hok a _ ha).1;refine GX.wg (agx _) (GX.Fx (A:=X.A.in1) (I.ok.hd o) x λc d tk v ns f g hl hm=>?_);have w:ns.Perm ks:=GX.yF nd (λk f=>(hm k).mpr (ab0.mpr ⟨k,f,by simp⟩)) (adJ hl);have i:v.length=ks.length:=by rw[g.length,hl]
 have j:aO X p σ H {s with heap:=c,drawn:=d,toks:=tk}:=(I.draw d).kept (t':=tk) f;refine AA (s:={s with heap:=c,drawn:=d,toks:=tk}) g (by rw[i];exact b) (by rw[i];exact xl (aF (by omega))) λh2 out m e y z B n C=>?_;have D:m.length<=YB:=by rw[n.length_eq,hl];exact xl (aF (by omega))
 exact⟨.ref c.objs.size,_,j.lay_ints (tk:=tk) y z B D,rfl,q _ m (j.hok.fresh (Yl _)) (n.trans w) C⟩
theorem G3(n:X.calm=true):dO X (.type "list") (λxs H Q=>∃(d:Ye) (m:List (Int×Int)),xs=[.ref d]/\Rd H d (.dK (dI m))/\m.length<=1000/\∀(l:Ye),H l=Yb->Q (.ref l) (upd H l (.lst ((m.map (·.1)).map V.int)))):=by
 intro C s σ H xs us Q I r h;obtain⟨d,m,rfl,hd,i,q⟩:=h;obtain⟨u,rfl,o⟩:=fG r;cases o;obtain⟨z,p,k,b,dd⟩:=kR I.hok hd;obtain⟨t,f⟩:=dd.dictAt;have hl:k.length=m.length:=by rw[←b.length,vj]
 refine ae3 (A:=X.A) (aha (knd:=bf X.prog X.w) (kvs:=k) (ep:=t) p) (I.ok.hd n) f (by rw[hl];exact xl (aF (by omega))) λD tk g c x y a=>?_;have B:xy g.toList (m.map (·.1)):=vR (P:=X.prog) (w:=X.w) b (by rw[pk];exact a.1) λj v e=>a.2 j v (by rw[←sq];exact e);exact⟨.ref s.heap.objs.size,_,I.lay_ints (tk:=tk) (e:=c) x y B (by rw[Yf];exact xl (aF (by omega))),rfl,q _ (I.hok.fresh (Yl _))⟩
end
end L2
namespace GX
open PySem PyProof.Rows
section
variable{prog:Y0}{w:Y7}{A:uc}{E:Yd->Yn->Prop}{s:Yn}{I:Ye}{fp wr:List Ye}{N:Nat}{P:Nat->Yd->Prop}{St:Nat->YV->Prop}
end
end GX
namespace L2
open PySem PySem.Spec PyProof.Rows
variable{X:Cx}{H:Hp}
section
theorem zL:∀{vs:List Yd} {ns:List Int},xy vs ns->∃ps:List (Int×acT),vs=ps.map (λp=>abe p.1 p.2)/\ps.map (·.1)=ns
 |_,_,.nil=>⟨[],rfl,rfl⟩
 |_,_,.cons n t h=>by
  obtain⟨ps,a,b⟩:=zL h;exact⟨(n,t)::ps,by rw[YG,←a],by rw[YG,b]⟩
theorem QD{ps:List (Int×acT)}{ns:List Int}(b:ps.map (·.1)=ns){j:Nat}(c:j<ps.length):agH ps.toArray j∈ns/\∀z∈ns,∃i,i<=ps.length-1/\agH ps.toArray i=z:=by
 have d:∀i (a:i<ps.length),agH ps.toArray i=(ps[i]).1:=λi a=>by simp[agH,a]
 constructor
 ·rw[d j c,←b];exact Y3 (Rk c)
 ·intro z f;rw[←b]at f;obtain⟨p,hp,e⟩:=YA.mp f;obtain⟨i,a,g⟩:=ab5 hp;exact⟨i,by omega,by rw[d i a,g,e]⟩
theorem JQ(l:X.calm=true):dO X (.builtin "min") (λxs H Q=>∃(p:Ye) (ns:List Int),xs=[.ref p]/\a9 X.K H p (ns.map V.int)/\ns≠[]/\∀b,b∈ns->(∀z∈ns,b<=z)->Q (.int b) H):=by
 intro G s σ H xs us Q I r h;obtain⟨p,ns,rfl,m,a,q⟩:=h;obtain⟨u,rfl,n⟩:=fG r;cases n;obtain⟨c,o,w,d⟩:=I.list m;obtain⟨ps,x,f⟩:=zL (jH o);have y:intItems ps.toArray=c.toArray:=by rw[x];simp[intItems]
 have A:0<ps.length:=by
  cases ps with
  |nil=>exact absurd f.symm a
  |cons _ _=>exact aiw _
 refine min_intList (xs:=ps.toArray) (I.ok.hd l) (by rw[y];exact w.isList) (by rw[YC];exact A) λv J tk g kp=>?_;obtain⟨B,k⟩:=argBest_lt (agH ps.toArray) (ps.toArray.size-1);rw[YC]at B k g;obtain⟨t,C⟩:=intItems_at g;obtain⟨D,E⟩:=QD f (show argBest (λi j=>decide (agH ps.toArray i<agH ps.toArray j)) (ps.length-1)<ps.length by omega);refine⟨.int _,H,I.kept (t':=tk) kp,⟨t,C⟩,q _ D λz d=>?_⟩;obtain⟨i,F,e⟩:=E z d;rw[←e];exact k i F
abbrev OJ(H:Hp):List V->List (List (Int×Int))->Prop:=YX λx m=>∃d,x=.ref d/\Rd H d (.dK (dI m))
theorem OJ.get:∀{xs:List V} {c:List (List (Int×Int))} {i:Nat} {x:V},OJ H xs c->xs[i]?=Ya x->∃m,c[i]?=Ya m/\∃d,x=.ref d/\Rd H d (.dK (dI m)):=by
 intro a b i x w
 induction w generalizing i with
 |nil=>exact λe=>by simp at e
 |cons r _ ih=>
  intro e;cases i with
  |zero=>simp at e;subst e;exact⟨_,rfl,r⟩
  |succ i=>
   obtain⟨p,h1,h2⟩:=ih (i:=i) (by simpa using e);exact⟨p,by simpa using h1,h2⟩
end
section
theorem aO.thaw{i:List (Ye×pe)}{σ:St}{s:Yn}{a:Ye}{o:pe}{kvs:List (bR×V)}(I:aO X i σ H s)(h:H a=Ya (.frz o (.dK kvs)))(n1:∀xs,X.H₀ a≠Ya (.tup xs))(n2:∀o u,X.H₀ a≠Ya (.frz o u))(n3:∀ps,X.H₀ a≠Ya (.tbl ps)):aO X i σ (upd H a (.dK kvs)) s:=by
 have ne:∀b,H b=Yb->b≠a:=λb q z=>by rw[z,h]at q;cases q
 have b:=I.base;refine⟨I.ok,I.os,I.bare,⟨b.keep,b.slot,λc g e n x=>?_,b.there,λc xs e=>?_,λc g u e=>?_,λc ps e=>?_⟩,I.loc,I.cell,by rw[ak (ne _ I.free)];exact I.free,λx c z=>by rw[ak (ne _ (I.freeC x c z))];exact I.freeC x c z,
  λp hp=>let ⟨p1,p2,p3⟩:=I.pin p hp;⟨p1,by rw[ak (ne _ p2)];exact p2,p3⟩,λc u e=>?_,I.len⟩
 ·have q:=b.free c g e n x;rw[ak (ne _ q)];exact q
 ·have f:c≠a:=λz=>n1 _ (z▸e);rw[ak f];exact b.tups c xs e
 ·have f:c≠a:=λz=>n2 _ _ (z▸e);rw[ak f];exact b.frzs c g u e
 ·have f:c≠a:=λz=>n3 _ (z▸e);rw[ak f];exact b.tbls c ps e
 ·by_cases j:c=a
  ·subst j;rw[af]at e;cases e;exact(I.hok c _ h).2
  ·rw[ak j]at e;refine(I.hok c u e).stay (λ_ _ _ q=>q) (λd q=>?_) λd xs q=>?_
   ·rw[ak (λz=>by rw[z,h]at q;cases q)];exact q
   ·rw[ak (λz=>by rw[z,h]at q;cases q)];exact q
def RX(t:TS):TS:=λD σ H=>∃a b,H a=Ya (.dK b)/\t {D with nx:=λd c=>(∃o,c a=Ya (.frz o (.dK b)))/\D.nx d (upd c a (.dK b)),rt:=λv c=>(∃o,c a=Ya (.frz o (.dK b)))/\D.rt v (upd c a (.dK b))} σ H
theorem HZ{st:Y4}{t:TS}(h:PS X st t):PS X st (RX t):=by
 intro g s σ H D I hw;obtain⟨a,i,ha,j⟩:=hw;have n1:∀b,X.H₀ a≠Ya (.tup b):=λb e=>by have:=I.base.tups a b e;rw[ha]at this;cases this
 have n2:∀o u,X.H₀ a≠Ya (.frz o u):=λo u e=>by have:=I.base.frzs a o u e;rw[ha]at this;cases this
 have n3:∀ps,X.H₀ a≠Ya (.tbl ps):=λps e=>by obtain⟨m,q⟩:=I.base.tbls a ps e;rw[ha]at q;cases q
 refine cL (h g s σ H _ I j) λf l q=>?_;cases f with
 |next=>
  obtain⟨c,k,d,⟨o,e⟩,n⟩:=q;exact⟨c,_,d.thaw e n1 n2 n3,n⟩
 |brk=>exact q
 |cont=>exact q
 |ret u=>
  obtain⟨v,c,k,d,r,⟨o,e⟩,n⟩:=q;exact⟨v,c,_,d.thaw e n1 n2 n3,r,n⟩
end
mutual
inductive Dp (K:Yc) (H:Hp):V->abo->Prop
 |none:Dp K H .non .none
 |bool (b:Bool):Dp K H (.bl b) (.bool b)
 |int (i:Int):Dp K H (.int i) (.int i)
 |str (x:Yp):Dp K H (.str x) (.str x)
 |tup {a:Ye} {xs:List V} {ds:List abo}:bJ K H a xs->CY K H xs ds->Dp K H (.ref a) (.tuple ds)
inductive CY (K:Yc) (H:Hp):List V->List abo->Prop
 |nil:CY K H [] []
 |cons {x:V} {xs:List V} {d:abo} {ds:List abo}:Dp K H x d->CY K H xs ds->CY K H (x::xs) (d::ds)
end
def VN(K:Yc)(H c:Hp):Prop:=∀a b,bJ K H a b->bJ K c a b
theorem VN.same{K:Yc}{H b:Hp}(e:aJ H b):VN K H b:=by
 rintro a c ((h|⟨o,h⟩)|h)
 ·exact .inl (.inl (e _ _ h))
 ·exact .inl (.inr ⟨o,e _ _ h⟩)
 ·exact .inr h
section
variable{X:Cx}{Za:List (Ye×pe)}{σ:St}{H:Hp}{s:Yn}
mutual
theorem Dp.reads(I:aO X Za σ H s):∀{x:V} {d:abo} {u:Yd},Dp X.K H x d->RelV x u->∃a,Reads s.heap u d a
 |_,_,_,.none,r=>by cases r;exact⟨_,.none⟩
 |_,_,_,.bool b,r=>by cases r;exact⟨_,.bool b⟩
 |_,_,_,.int i,r=>by obtain⟨t,rfl⟩:=r;exact⟨_,.int i t⟩
 |_,_,_,.str z,r=>by obtain⟨t,rfl⟩:=r;exact⟨_,.str z t⟩
 |_,_,_,.tup h t,r=>by
  cases r;obtain⟨f,g,⟨o,e,c,n,dd⟩,_⟩:=I.tuple h;obtain⟨a,q⟩:=CY.reads I t g;exact⟨_,.tuple e c dd (by simpa using q)⟩
theorem CY.reads(I:aO X Za σ H s):∀{xs:List V} {ds:List abo} {us:List Yd},CY X.K H xs ds->Vals xs us->∃a,ReadsAll s.heap us ds a
 |_,_,_,.nil,r=>by cases r;exact⟨_,.nil⟩
 |_,_,_,.cons h t,r=>by
  cases r with
  |cons r1 r2=>
   obtain⟨a,q⟩:=Dp.reads I h r1;obtain⟨bs,b⟩:=CY.reads I t r2;exact⟨_,.cons q b⟩
end
def Dl(K:Yc)(H:Hp)(x:V)(d:abo):Prop:=Dp K H x d∨∃a b c,x=.ref a/\d=.list c/\a9 K H a b/\CY K H b c
theorem Dl.reads(I:aO X Za σ H s){x:V}{d:abo}{u:Yd}(h:Dl X.K H x d)(r:RelV x u):∃b,Reads s.heap u d b:=by
 rcases h with h|⟨a,i,j,rfl,rfl,h,t⟩
 ·exact Dp.reads I h r
 ·cases r;obtain⟨f,g,⟨o,n,e,c,_,dd⟩,_⟩:=I.list h;obtain⟨b,q⟩:=CY.reads I t g;exact⟨_,.list e c dd (by simpa using q)⟩
def Sn(K:Yc):R2:=λx y H Q=>∃d e,Dl K H x d/\Dl K H y e/\d.canLay0=true/\e.canLay0=true/\min d.depth e.depth<=60/\Q (.bl (d.eqv e)) H
def Qc(K:Yc):R2:=λx y H Q=>∃d e,Dl K H x d/\Dl K H y e/\d.canLay0=true/\e.canLay0=true/\min d.depth e.depth<=60/\Q (.bl (!d.eqv e)) H
theorem QX(hu:X.A.units+ 64<aax):tH X (aai .Eq) (Sn X.K):=by
 intro i s σ H x y v u Q I a b h;obtain⟨d,e,h1,h2,c1,c,dp,q⟩:=h;obtain⟨j,f⟩:=h1.reads I a;obtain⟨bs,g⟩:=h2.reads I b;exact SeqAt.compareEq_reads f g c1 c (by omega) ⟨.bl _,H,I,rfl,q⟩
theorem Ql(hu:X.A.units+ 64<aax):tH X (aai .NotEq) (Qc X.K):=by
 intro i s σ H x y v u Q I a b h;obtain⟨d,e,h1,h2,c1,c,dp,q⟩:=h;obtain⟨j,f⟩:=h1.reads I a;obtain⟨bs,g⟩:=h2.reads I b;exact SeqAt.compareNe_reads f g c1 c (by omega) ⟨.bl _,H,I,rfl,q⟩
def Rt(K:Yc)(c:Bool):R2:=λx y H Q=>∃a e b d,y=.ref a/\(a9 K H a e∨bJ K H a e)/\CY K H e b/\Dp K H x d/\aae b=true/\d.canLay0=true/\d.depth<=60/\Q (.bl (if c then !(b.any λz=>z.eqv d)else b.any λz=>z.eqv d)) H
theorem XD(hu:X.A.units+ 64<aax):tH X (aai .In) (Rt X.K false):=by
 intro m s σ H x y v u Q I f g h;obtain⟨a,i,j,d,rfl,hs,hd,k,c1,c,dp,q⟩:=h;obtain⟨bs,e⟩:=k.reads I f;cases g;rcases hs with hs|hs
 ·obtain⟨l,b⟩:=Dl.reads I (x:=.ref a) (u:=.ref a) (.inr ⟨a,i,j,rfl,rfl,hs,hd⟩) rfl;exact SeqAt.in_list_reads b e c1 c (by omega) ⟨.bl _,H,I,rfl,q⟩
 ·obtain⟨l,b⟩:=Dp.reads I (x:=.ref a) (u:=.ref a) (.tup hs hd) rfl;exact SeqAt.in_tuple_reads b e c1 c (by omega) ⟨.bl _,H,I,rfl,q⟩
theorem Jx(hu:X.A.units+ 64<aax):tH X (aai .NotIn) (Rt X.K true):=by
 intro m s σ H x y v u Q I f g h;obtain⟨a,i,j,d,rfl,hs,hd,k,c1,c,dp,q⟩:=h;obtain⟨bs,e⟩:=k.reads I f;cases g;rcases hs with hs|hs
 ·obtain⟨l,b⟩:=Dl.reads I (x:=.ref a) (u:=.ref a) (.inr ⟨a,i,j,rfl,rfl,hs,hd⟩) rfl;exact SeqAt.notIn_list_reads b e c1 c (by omega) ⟨.bl _,H,I,rfl,q⟩
 ·obtain⟨l,b⟩:=Dp.reads I (x:=.ref a) (u:=.ref a) (.tup hs hd) rfl;exact SeqAt.notIn_tuple_reads b e c1 c (by omega) ⟨.bl _,H,I,rfl,q⟩
end
theorem Vf{K:Yc}{x y:V}{H:Hp}{Q:VK}{d:abo}(h1:Dl K H x d)(h2:Dl K H y d)(c:d.canLay0=true)(dp:d.depth<=60)(q:Q (.bl true) H):Sn K x y H Q:=
 ⟨d,d,h1,h2,c,c,by omega,by rw[SeqAt.eqv_refl d c];exact q⟩
theorem vi{K:Yc}{x y:V}{H:Hp}{Q:VK}{d:abo}(h1:Dl K H x d)(h2:Dl K H y d)(c:d.canLay0=true)(dp:d.depth<=60)(q:Q (.bl false) H):Qc K x y H Q:=
 ⟨d,d,h1,h2,c,c,by omega,by rw[SeqAt.eqv_refl d c];exact q⟩
theorem aC{H:Hp}{l:Ye}{o:HO}(h:H l=Yb):aJ H (upd H l o):=λb u e=>by rw[ak (ay e h)];exact e
def KS(d:Ye)(H a:Hp):Prop:=∀b,b≠d->a b=H b
theorem KS.upd{d:Ye}{H:Hp}{o:HO}:KS d H (L2.upd H d o):=λb h=>ak h
theorem KS.at{d b:Ye}{H a:Hp}{o:Option HO}(e:KS d H a)(n:b≠d)(h:H b=o):a b=o:=by rw[e b n];exact h
theorem KS.of{d b:Ye}{H a:Hp}{o u:HO}(e:KS d H a)(hd:H d=Ya u)(h:H b=Ya o)(n:o≠u):a b=Ya o:=e.at (bM h hd n) h
def X3(xs:List V)(H:Hp)(Q:VK):Prop:=xs.length<=YB/\∀p,H p=Yb->Q (.ref p) (upd H p (.tup xs))
def XX(xs:List V)(H:Hp)(Q:VK):Prop:=xs.length<=YB/\∀p,H p=Yb->Q (.ref p) (upd H p (.lst xs))
section
variable{D:qB}{σ:St}{H:Hp}{Q:VK}{K:Yc}
theorem zq{t u:TS}(h:t {D with nx:=u D} σ H):qy t u D σ H:=h
theorem Sx{a:TE}{g:TG}{u:TS}(h:a σ H λx b=>g x σ b (u D)):qy (Md a g) u D σ H:=h
theorem UM{a:TE}{u:TS}(h:a σ H λ_ b=>u D σ b):qy (N1 a) u D σ H:=h
theorem SV{td ty tv:TE}{u:TS}(h:ID td ty tv {D with nx:=u D} σ H):qy (ID td ty tv) u D σ H:=h
theorem SE{a:TI}{g:TG}{tb u:TS}(h:Py a g tb {D with nx:=u D} σ H):qy (Py a g tb) u D σ H:=h
theorem TJ{c:TT}{tb u:TS}(h:GZ c tb {D with nx:=u D} σ H):qy (GZ c tb) u D σ H:=h
theorem T6{ta tv:TE}{f:Yp}{u:TS}(h:Lw K ta tv f {D with nx:=u D} σ H):qy (Lw K ta tv f) u D σ H:=h
theorem SA{c:TT}{a:TE}{u:TS}(h:c σ H λb d=>if b=true then a σ d D.rt else u D σ d):qy (O6 c (SK a) IB) u D σ H:=h
theorem AW(I:St->Hp->Prop){t u:TS}(h2:∀a b,I a b->u D a b)(h:∀N:St->Hp->Prop,(∀a b,I a b->N a b)->t {D with nx:=N} σ H):qy t u D σ H:=h _ h2
theorem NR(h:D.nx σ H):IB D σ H:=h
theorem WU{a:TE}(h:a σ H D.rt):SK a D σ H:=h
theorem Ss{a:TE}(h:a σ H λ_ b=>D.nx σ b):N1 a D σ H:=h
theorem WQ{a:TE}{g:TG}(h:a σ H λx b=>g x σ b D.nx):Md a g D σ H:=h
theorem W8{c:TT}{t u:TS}(h:c σ H λb a=>if b=true then t D σ a else u D σ a):O6 c t u D σ H:=h
theorem WV(h:D.bk σ H):MH D σ H:=h
theorem TZ{i:Nat}{v:V}{R:St->Hp->Prop}(h:R (σ.set i (Ya v)) H):yt i v σ H R:=h
theorem Uv{R:St->Hp->Prop}(h:R σ H):Tv [] σ H R:=⟨rfl,h⟩
theorem PX{t:TG}{u:OM}{v:V}{r:List V}{R:St->Hp->Prop}(h:t v σ H λa b=>u r a b R):Ht t u (v::r) σ H R:=⟨v,r,rfl,h⟩
theorem UJ{n:Nat}{t:OM}{a:Ye}{xs:List V}{R:St->Hp->Prop}(h1:bJ K H a xs)(h2:xs.length=n)(h:t xs σ H R):QW K n t (.ref a) σ H R:=⟨a,xs,rfl,h1,h2,h⟩
theorem Vk{i:Nat}{v:V}(h1:σ[i]?=Ya (Ya v))(h:Q v H):Jw i σ H Q:=⟨v,h1,h⟩
theorem x_c{v:V}(h:Q v H):tC v σ H Q:=h
theorem Xw{r:R2}{ta tb:TE}(h:ta σ H λx a=>tb σ a λy b=>r x y b Q):Vc r ta tb σ H Q:=h
theorem XG{g:Int->Int->V}{i j:Int}(h:Q (g i j) H):Nx g (.int i) (.int j) H Q:=⟨i,j,rfl,rfl,h⟩
theorem x_I{C:Int->Int->Prop}{g:Int->Int->V}{i j:Int}(a:C i j)(h:Q (g i j) H):rI C g (.int i) (.int j) H Q:=⟨i,j,rfl,rfl,a,h⟩
theorem W7(i j:Int):decide (V.int i=V.int j)=decide (i=j):=by
 by_cases h:i=j
 ·subst h;rw[decide_eq_true rfl,decide_eq_true rfl]
 ·rw[decide_eq_false h,decide_eq_false (λe=>h (V.int.inj e))]
theorem WM(i j:Yp):decide (V.str i=V.str j)=decide (i=j):=by
 by_cases h:i=j
 ·subst h;rw[decide_eq_true rfl,decide_eq_true rfl]
 ·rw[decide_eq_false h,decide_eq_false (λe=>h (V.str.inj e))]
theorem V8{i j:Int}(h:Q (.bl (decide (i=j))) H):XA (.int i) (.int j) H Q:=⟨rfl,by rw[W7];exact h⟩
theorem V3{i j:Int}(h:Q (.bl (!decide (i=j))) H):XM (.int i) (.int j) H Q:=⟨rfl,by rw[W7];exact h⟩
theorem WI{i j:Yp}(h:Q (.bl (decide (i=j))) H):XA (.str i) (.str j) H Q:=⟨rfl,by rw[WM];exact h⟩
theorem Ws{i j:Yp}(h:Q (.bl (!decide (i=j))) H):XM (.str i) (.str j) H Q:=⟨rfl,by rw[WM];exact h⟩
theorem UQ{t:TE}{R:Bool->Hp->Prop}(h:t σ H λx a=>∃k,x=.bl k/\R k a):MX t σ H R:=h
theorem Wl{t:TE}{R:Bool->Hp->Prop}(h:t σ H λx a=>∃k,Nr K x a k/\R k a):Sz K t σ H R:=h
theorem x_b{t:TE}{R:Bool->Hp->Prop}(h:t σ H λx a=>∃k,x=.bl k/\R k a):tB t σ H R:=h
theorem Sl{c:Bool}{P:Bool->Prop}(h:P c):∃k,V.bl c=.bl k/\P k:=⟨c,rfl,h⟩
theorem Po{c:Bool}{P:Bool->Prop}(h:P c):∃k,Nr K (.bl c) H k/\P k:=⟨c,rfl,h⟩
theorem Vl{t u:TT}{R:Bool->Hp->Prop}(h:t σ H λc a=>if c=true then u σ a R else R false a):Wz t u σ H R:=h
theorem XW{t u:TT}{R:Bool->Hp->Prop}(h:t σ H λc a=>if c=true then R true a else u σ a R):X0 t u σ H R:=h
theorem Wj{t:TT}{R:Bool->Hp->Prop}(h:t σ H λc a=>R (!c) a):Vq t σ H R:=h
theorem TF{ta tb:TE}(h:ta σ H λx a=>∃c,x=.bl c/\if c=true then tb σ a Q else Q (.bl false) a):Ry ta tb σ H Q:=h
theorem VS{ta tb:TE}(h:ta σ H λx a=>∃c,x=.bl c/\if c=true then Q (.bl true) a else tb σ a Q):Vi ta tb σ H Q:=h
theorem Ud{ta:TE}(h:ta σ H λx a=>∃c,x=.bl c/\Q (.bl (!c)) a):RJ ta σ H Q:=h
theorem Vu{t:TT}{ta tb:TE}(h:t σ H λc a=>if c=true then ta σ a Q else tb σ a Q):X9 t ta tb σ H Q:=h
theorem VD{R:List V->Hp->Prop}(h:R [] H):CQ σ H R:=h
theorem TY{ta:TE}{tr:TA}{R:List V->Hp->Prop}(h:ta σ H λx a=>tr σ a λxs b=>R (x::xs) b):zu ta tr σ H R:=h
theorem WB{t:TA}(h:t σ H λxs a=>X3 xs a Q):UW t σ H Q:=h
theorem Vj{t:TA}(h:t σ H λxs a=>XX xs a Q):WA t σ H Q:=h
theorem Wn{xs:List V}(hl:xs.length<=YB)(h:∀p a,H p=Yb->aJ H a->a p=Ya (.tup xs)->Q (.ref p) a):X3 xs H Q:=⟨hl,λp hp=>h p _ hp (aC hp) af⟩
theorem Vn{xs:List V}(hl:xs.length<=YB)(h:∀p a,H p=Yb->aJ H a->a p=Ya (.lst xs)->Q (.ref p) a):XX xs H Q:=⟨hl,λp hp=>h p _ hp (aC hp) af⟩
theorem S8(h:∀p a,H p=Yb->aJ H a->a p=Ya (.dK (dI []))->Q (.ref p) a):LI σ H Q:=λp hp=>h p _ hp (aC hp) af
theorem To{sp:Sp}{a:List V}{E:XK}{t:TA}(h:t σ H λvs b=>sp (vs++a) b Q E):IC sp a E t σ H Q:=h
theorem XF{r:List V->Hp->VK->Prop}{t:TA}(h:t σ H λvs a=>r vs a Q):Xq r t σ H Q:=h
theorem Xy{r:V->Option Int->Option Int->Hp->VK->Prop}{a:TE}{tl b:TO}(h:a σ H λx c=>tl σ c λl d=>b σ d λu e=>r x l u e Q):X4 r a tl b σ H Q:=h
theorem L1{R:Option Int->Hp->Prop}(h:R Yb H):HE σ H R:=h
theorem SN{t:TE}{R:Option Int->Hp->Prop}(h:t σ H λx a=>∃i,x=.int i/\R (Ya i) a):RH t σ H R:=h
theorem Rc{c:Int}{P:Int->Prop}(h:P c):∃k,V.int c=.int k/\P k:=⟨c,rfl,h⟩
theorem Vt{a:Ye}{xs:List V}{lo c:Option Int}(h1:a9 K H a xs)(h:∀p b,H p=Yb->aJ H b->b p=Ya (.lst (uY xs lo c))->Q (.ref p) b):Uz K (.ref a) lo c H Q:=⟨a,xs,rfl,h1,λp hp=>h p _ hp (aC hp) af⟩
theorem WG{a:Ye}{xs:List V}{i:Int}{v:V}(h1:a9 K H a xs)(h2:uZ xs i=Ya v)(h:Q v H):QZ K (.ref a) (.int i) H Q:=⟨a,xs,i,v,rfl,rfl,h1,h2,h⟩
theorem VB{a:Ye}{xs:List V}{i:Int}{v:V}(h1:bJ K H a xs)(h2:uZ xs i=Ya v)(h:Q v H):Qd K (.ref a) (.int i) H Q:=⟨a,xs,i,v,rfl,rfl,h1,h2,h⟩
theorem SG{td ty:TE}(h:td σ H λx c=>ty σ c λy b=>∃a v,x=.ref a/\jc b a y (Ya v)/\Q v b):Rv td ty σ H Q:=h
theorem Tr{d:Ye}{m:List (Int×Int)}{k n:Int}{P:V->Prop}(hd:Rd H d (.dK (dI m)))(hk:wQ m k=Ya n)(h:P (.int n)):∃a v,V.ref d=.ref a/\jc H a (.int k) (Ya v)/\P v:=
 ⟨d,.int n,rfl,.inl ⟨_,YL k,hd,rfl,by rw[vY,hk];rfl⟩,h⟩
theorem J9(o:Option Int):(o.map V.int).isSome=o.isSome:=by cases o<;>rfl
theorem WN{td ty:TE}(h:ty σ H λy c=>td σ c λx b=>∃a o,x=.ref a/\jc b a y o/\Q (.bl o.isSome) b):Xb ty td σ H Q:=h
theorem M0{td ty:TE}(h:ty σ H λy c=>td σ c λx b=>∃a o,x=.ref a/\jc b a y o/\Q (.bl (!o.isSome)) b):IK ty td σ H Q:=h
theorem Pb{d:Ye}{m:List (Int×Int)}{k:Int}{P:Option V->Prop}(hd:Rd H d (.dK (dI m)))(h:P ((wQ m k).map V.int)):∃a o,V.ref d=.ref a/\jc H a (.int k) o/\P o:=
 ⟨d,_,rfl,.inl ⟨_,YL k,hd,rfl,(vY m k).symm⟩,h⟩
theorem Tx{td ty tv:TE}(h:tv σ H λv c=>td σ c λx d=>ty σ d λy e=>∃a b,x=.ref a/\Ab e a y v b/\D.nx σ b):ID td ty tv D σ H:=h
theorem OA{d:Ye}{m:List (Int×Int)}{k n:Int}{P:Hp->Prop}(hd:H d=Ya (.dK (dI m)))(nd:(m.map (·.1)).Nodup)(hl:m.length<YB)(h:∀b,KS d H b->b d=Ya (.dK (dI (dU m k n)))->P b):∃a c,V.ref d=.ref a/\Ab H a (.int k) (.int n) c/\P c:=
 ⟨d,_,rfl,.inl ⟨_,YL k,hd,rfl,by rw[vj];exact hl,rfl⟩,h _ .upd (by rw[af,Mx m k n nd])⟩
theorem WS{b:TI}{g:TG}{tb:TS}(h:b σ H λJ e=>∃W:Nat->Nat->St->Hp->Prop,(∃m,W 0 m σ e)/\∀i m σ H,W i m σ H->
 (J.stop i H/\D.nx σ H)∨(J.go i H/\∃N:St->Hp->Prop,(∀c a,N c a->∃d,d<m/\W (i+ 1) d c a)/\∀x a,J.yld i H x a->g x σ a λf j=>tb {D with nx:=N,ct:=N,bk:=D.nx} f j)):Py b g tb D σ H:=h
theorem Ro{tl:TE}{R:It->Hp->Prop}(h:tl σ H λx b=>∃a,x=.ref a/\(∃xs,a9 K b a xs)/\R (LC K a) b):KZ K tl σ H R:=h
theorem Sv{a:Ye}{xs:List V}{P:Ye->Prop}(hd:a9 K H a xs)(h:P a):∃b,V.ref a=.ref b/\(∃xs,a9 K H b xs)/\P b:=⟨a,rfl,⟨xs,hd⟩,h⟩
theorem S7{tl:TE}{R:It->Hp->Prop}(h:tl σ H λx b=>∃a,x=.ref a/\(∃xs,bJ K b a xs)/\R (MK K a) b):UG K tl σ H R:=h
theorem Ub{a:Ye}{xs:List V}{P:Ye->Prop}(hd:bJ K H a xs)(h:P a):∃b,V.ref a=.ref b/\(∃xs,bJ K H b xs)/\P b:=⟨a,rfl,⟨xs,hd⟩,h⟩
theorem VL{ta:TA}{R:It->Hp->Prop}(h:ta σ H λvs a=>∃j:Int,vs=[.int j]/\-(2^62)<=j/\j<2^62/\R (KU 0 j.toNat) a):RQ ta σ H R:=h
theorem Xu{T:String}{r:V->List V->Hp->VK->Prop}{to:TE}{t:TA}(h:to σ H λx a=>Uy K T x a/\t σ a λxs b=>r x xs b Q):Xk K T r to t σ H Q:=h
theorem Wg{T:String}{r:V->List V->Hp->VK->Prop}{to:TE}(h:to σ H λx a=>Uy K T x a/\r x [] a Q):Wo K T r to σ H Q:=h
theorem WJ{a:Ye}{xs:List V}{P:Prop}(hd:H a=Ya (.lst xs))(h:P):Uy K "list" (.ref a) H/\P:=⟨.inl ⟨rfl,_,a9.of hd⟩,h⟩
theorem K6{a:Ye}{xs:List V}{y:V}(hd:H a=Ya (.lst xs))(hl:xs.length<YB)(h:∀b,KS a H b->b a=Ya (.lst (xs++[y]))->Q .non b):x8 (.ref a) [y] H Q:=⟨a,xs,y,rfl,rfl,hd,hl,h _ .upd af⟩
theorem UO{a:List (Option Nat)}{d:TI}{g:TG}{tt:TT}{e:TE}(h:d σ H λJ f=>∀D,f D=Yb->∃W:Nat->Nat->St->Hp->Prop,(∃m,W 0 m (FH a σ) (upd f D (.lst [])))/\
 ∀i m j b,W i m j b->(J.stop i b/\Q (.ref D) b)∨(J.go i b/\∃N:St->Hp->Prop,(∀k l,N k l->∃n,n<m/\W (i+ 1) n k l)/\
  ∀x c,J.yld i b x c->fF g tt e D N x j c)):La a d g tt e σ H Q:=h
theorem TM{a:Ye}{kvs:List (bR×V)}{P:List (bR×V)->Prop}(hd:Rd H a (.dK kvs))(h:P kvs):∃p ys,[V.ref a]=[.ref p]/\Rd H p (.dK ys)/\P ys:=⟨a,kvs,rfl,hd,h⟩
end
theorem VE{A B:Prop}(h:B):if(!true)=true then A else B:=h
theorem W0{A B:Prop}(h:A):if(!false)=true then A else B:=h
theorem VP:(10:Int)^(18:Int).toNat=1000000000000000000:=by decide
theorem K7:(0:Int)<(10:Int)^(18:Int).toNat:=by rw[VP];decide
theorem Lm:(0:Int)<(10:Int)^(60:Int).toNat:=Int.pow_pos (by decide)
section
variable{X:Cx}{K:Yc}
theorem bG(a:X.K=K):KQ X (Qd K):=by subst a;exact LL
theorem bO(a:X.K=K):KQ X (QZ K):=by subst a;exact Iu
theorem mf(a:X.K=K):Vo X (Uz K):=by subst a;exact QC
theorem yi(a:X.K=K):Vo X (Qy K):=by subst a;exact SS
theorem U4(a:X.K=K)(hu:X.A.units+ 64<aax):tH X (aai .Eq) (Sn K):=by subst a;exact QX hu
theorem zS(a:X.K=K)(hu:X.A.units+ 64<aax):tH X (aai .NotEq) (Qc K):=by subst a;exact Ql hu
theorem Rq(a:X.K=K)(hu:X.A.units+ 64<aax):tH X (aai .NotIn) (Rt K true):=by subst a;exact Jx hu
def UR(K:Yc):List V->Hp->VK->Prop:=λb H Q=>∃p a,b=[.ref p]/\(a9 K H p a∨bJ K H p a)/\Q (.int a.length) H
theorem c8(a:X.K=K):dO X (.builtin "len") (UR K):=by subst a;exact BJ
def BN(K:Yc):List V->Hp->VK->Prop:=λb H Q=>∃p a,b=[.ref p]/\(a9 K H p a∨bJ K H p a)/\∀l,H l=Yb->Q (.ref l) (upd H l (.lst a))
theorem sI(a:X.K=K):dO X (.type "list") (BN K):=by subst a;exact B7
def FR(K:Yc):List V->Hp->VK->Prop:=λb H Q=>∃p a,b=[.ref p]/\((a9 K H p a/\∀l,H l=Yb->Q (.ref l) (upd H l (.tup a)))∨(bJ K H p a/\Q (.ref p) H))
theorem iQ(a:X.K=K):dO X (.type "tuple") (FR K):=by subst a;exact Al
def XB(K:Yc):List V->Hp->VK->Prop:=λa H Q=>∃(x:V) (t:Yd) (T:String) (b:Bool),a=[x,.ty T]/\ur K H x t/\afE K t (.type T)=Ya b/\Q (.bl b) H
theorem vm(a:X.K=K):dO X (.builtin "isinstance") (XB K):=by subst a;exact E7
theorem kM{es:List cb}{k:Nat}{t:OM}{n:Nat}{pos:abz}(b:X.K=K)(c:X.calm=true)(h:Wy X es t)(hn:(acH es X.env).length=n:=by rfl)(a:(acH es X.env).findIdx? (·.1)=none:=by rfl):PG X (.Tuple es k pos) (QW K n t):=by subst b;exact S9 c h hn a
theorem bo{a l:cb}{tl:TE}(b:X.K=K)(hl:PE X l tl):PI X a l (KZ K tl):=by subst b;exact Pm hl
theorem Im{a l:cb}{tl:TE}(b:X.K=K)(hl:PE X l tl):PI X a l (UG K tl):=by subst b;exact TR hl
theorem HI{a l:cb}{tl:TE}(b:X.K=K)(hl:PE X l tl):PI X a l (UN K tl):=by subst b;exact Uq hl
theorem Mh{x:Yp}{pos:abz}{t:TE}(a:X.K=K)(h:PE X (.Name x pos) t):PT X (.Name x pos) (Sz K t):=by
 subst a;exact Di h λ_=>rfl
theorem ny{o e:cb}{to:TE}{t:TA}{a b:abz}(c:X.K=K)(h:PE X (.Call (.Attribute o "append" a) [e] [] b) (Xk X.K "list" x8 to t)):PE X (.Call (.Attribute o "append" a) [e] [] b) (Xk K "list" x8 to t):=by subst c;exact h
end
section
variable{σ:St}{H:Hp}{Q:VK}{K:Yc}
theorem Q5{a:Ye}{xs:List V}(hd:bJ K H a xs)(h:Q (.int xs.length) H):UR K [.ref a] H Q:=⟨a,xs,rfl,.inr hd,h⟩
theorem Mb{a:Ye}{xs:List V}(hd:a9 K H a xs)(h:∀p b,H p=Yb->aJ H b->b p=Ya (.lst xs)->Q (.ref p) b):BN K [.ref a] H Q:=⟨a,xs,rfl,.inl hd,λp hp=>h p _ hp (aC hp) af⟩
theorem ME{a:Ye}{xs:List V}(hd:bJ K H a xs)(h:∀p b,H p=Yb->aJ H b->b p=Ya (.lst xs)->Q (.ref p) b):BN K [.ref a] H Q:=⟨a,xs,rfl,.inr hd,λp hp=>h p _ hp (aC hp) af⟩
theorem Q9{a:Ye}{xs:List V}(hd:a9 K H a xs)(h:∀p b,H p=Yb->aJ H b->b p=Ya (.tup xs)->Q (.ref p) b):FR K [.ref a] H Q:=⟨a,xs,rfl,.inl ⟨hd,λp hp=>h p _ hp (aC hp) af⟩⟩
end
theorem cY{H b:Hp}{a:Ye}{u:HO}(s:aJ H b)(h:Rd H a u):Rd b a u:=by
 rcases h with h|⟨o,h⟩
 ·exact .inl (s _ _ h)
 ·exact .inr ⟨o,s _ _ h⟩
theorem aN{α:Type}{ls:List α}{i:Nat}{n:α}(h:ls[i]?=Ya n):ls.take (i+ 1)=ls.take i++[n]:=by
 rw[afN,h];rfl
theorem gF{a:List Int}{i:Nat}{x:V}(h:(a.map V.int)[i]?=Ya x):∃n:Int,a[i]?=Ya n/\x=.int n:=by
 rw[Yy]at h;cases e:a[i]? with
 |none=>rw[e]at h;cases h
 |some n=>rw[e]at h;exact⟨n,rfl,(YF h).symm⟩
theorem HC{α:Type}{xs:List α}{i:Int}{v:α}(h0:0<=i)(h:xs[i.toNat]?=Ya v):uZ xs i=Ya v:=by
 obtain⟨n,rfl⟩:=aaF h0;exact cG h
abbrev Nm:=Int×Int×Int
noncomputable def xD(p:Nm):abo:=.tuple [.int p.1,.int p.2.1,.int p.2.2]
def xQ(H:Hp)(x:V)(p:Nm):Prop:=∃a,x=.ref a/\H a=Ya (.tup [.int p.1,.int p.2.1,.int p.2.2])
abbrev nv(H:Hp):List V->List Nm->Prop:=YX (xQ H)
def de(H c:Hp):Prop:=∀a b,H a=Ya (.tup b)->c a=Ya (.tup b)
theorem de.trans{c d e:Hp}(a:de c d)(b:de d e):de c e:=λ_ _ h=>b _ _ (a _ _ h)
theorem de.same{H a:Hp}(e:aJ H a):de H a:=λ_ _ h=>e _ _ h
theorem de.upd{H:Hp}{l:Ye}{o:HO}(h1:∀xs,H l≠Ya (.tup xs)):de H (upd H l o):=λa xs h=>by
 have:a≠l:=λe=>h1 xs (e▸h);rw[ak this];exact h
theorem de.lst{H:Hp}{l:Ye}{o:HO}{ys:List V}(h:H l=Ya (.lst ys)):de H (L2.upd H l o):=.upd (λ_ z=>by rw[h]at z;cases z)
theorem xQ.up{H b:Hp}(m:de H b){x:V}{p:Nm}(h:xQ H x p):xQ b x p:=by
 obtain⟨a,e,h⟩:=h;exact⟨a,e,m _ _ h⟩
theorem nv.up{H a:Hp}(m:de H a):∀{xs:List V} {ns:List Nm},nv H xs ns->nv a xs ns
 |_,_,.nil=>.nil
 |_,_,.cons r t=>.cons (r.up m) (nv.up m t)
theorem nv.get{H:Hp}:∀{xs:List V} {ns:List Nm} {i:Nat} {x:V},nv H xs ns->xs[i]?=Ya x->∃p,ns[i]?=Ya p/\xQ H x p:=by
 intro a b i x w
 induction w generalizing i with
 |nil=>exact λe=>by simp at e
 |cons r _ ih=>
  intro e;cases i with
  |zero=>simp at e;subst e;exact⟨_,rfl,r⟩
  |succ i=>
   obtain⟨p,h1,h2⟩:=ih (i:=i) (by simpa using e);exact⟨p,by simpa using h1,h2⟩
theorem nv.len{H:Hp}{xs:List V}{ns:List Nm}(h:nv H xs ns):xs.length=ns.length:=Y2 h
theorem nv.at{H:Hp}{xs:List V}{ns:List Nm}{i:Nat}(h:nv H xs ns)(a:i<ns.length):∃x,xs[i]?=Ya x/\xQ H x ns[i]:=by
 have b:i<xs.length:=by rw[h.len];exact a
 obtain⟨p,e,r⟩:=h.get (Yk b);rw[Yk a]at e;cases e;exact⟨_,Yk b,r⟩
theorem nv.snoc{H:Hp}:∀{xs:List V} {ns:List Nm} {x:V} {p:Nm},nv H xs ns->xQ H x p->nv H (xs++[x]) (ns++[p]):=by
 intro a b c d w h
 induction w with
 |nil=>exact .cons h .nil
 |cons r _ ih=>exact .cons r ih
theorem xQ.dp{K:Yc}{H:Hp}{x:V}{p:Nm}(h:xQ H x p):Dp K H x (xD p):=by
 obtain⟨a,rfl,h⟩:=h;exact .tup (bJ.of h) (.cons (.int _) (.cons (.int _) (.cons (.int _) .nil)))
theorem nv.dps{K:Yc}{H:Hp}:∀{xs:List V} {ns:List Nm},nv H xs ns->CY K H xs (ns.map xD)
 |_,_,.nil=>.nil
 |_,_,.cons r t=>.cons r.dp (nv.dps t)
theorem F7(p:Nm):(xD p).canLay0=true:=rfl
theorem Cg:∀ns:List Nm,aae (ns.map xD)=true
 |[]=>rfl
 |p::ns=>by rw[YG,aa8,F7,Cg ns];rfl
theorem HP:∀ns:List Nm,abp (ns.map xD)<=1
 |[]=>by rw[acw,PyData.depthAll.eq_1];omega
 |p::ns=>by
  have e:abp ((p::ns).map xD)=max (xD p).depth (abp (ns.map xD)):=rfl;rw[e];have:=HP ns;have:(xD p).depth=1:=rfl;omega
theorem Ex(ns:List Nm):(acP (ns.map xD)).canLay0=true:=by rw[adZ];exact Cg ns
theorem DE(ns:List Nm):(acP (ns.map xD)).depth<=60:=by
 have e:(acP (ns.map xD)).depth=abp (ns.map xD)+ 1:=rfl;have:=HP ns;omega
section
variable{σ:St}{H:Hp}{Q:VK}{K:Yc}{X:Cx}
theorem Hu(a:X.K=K):KQ X (XN K):=by subst a;exact Tp
theorem Wc{a:Ye}{xs:List V}{i:Int}{v:V}(h1:a9 K H a xs∨bJ K H a xs)(h2:uZ xs i=Ya v)(h:Q v H):XN K (.ref a) (.int i) H Q:=by
 rcases h1 with h1|h1
 ·exact .inl ⟨a,xs,i,v,rfl,rfl,h1,h2,h⟩
 ·exact .inr (.inl ⟨a,xs,i,v,rfl,rfl,h1,h2,h⟩)
theorem QY{a:Ye}{xs:List V}(hd:a9 K H a xs∨bJ K H a xs)(h:Q (.int xs.length) H):UR K [.ref a] H Q:=⟨a,xs,rfl,hd,h⟩
end
theorem M7{P:Prop}(h:P):V.non=V.non/\P:=⟨rfl,h⟩
section
variable{X:Cx}{CX:MN}{k:Nat}{f C:Ye}{fd:YE}{ps:List Yp}{sp:Sp}{Zl:List V}{ds:List Yd}{E:XK}{x m:Yp}{p pos Ze:abz}{e o:cb}{es:List cb}{ta:TE}{t:TA}
structure LG(K:Yc)(C:Ye)(m:Yp)(f:Ye):Prop where
 ga:agM K (.ref C) "__getattribute__"=Ya (Ya (.builtin "type.__getattribute__"))
 rd:PySem.W.readsIn K C (.type "type")=true
 at_:PySem.W.findCls K (.ref C) (.type "type") m=Ya (.val (.ref f))
 hd:aeQ (.ref f)=true
 kp:abE K (.ref f)=true
theorem Ol{pl:aex Bool}(w:Gl X x)(hm:X.mg x=Ya (.ref C))(c:LG X.K C m f)(F:aH X.prog X.w X.K X.mg X.base bx k f fd ps sp)(y:Binds X.K fd ps [])(z:cZ k X.A)(ha:PA X (e::es) t)
  (a:(x==("__debug__":Yp))=false:=by decide)
  (b:YW (e::es) X.env=(false,lr e X.env)::YW es X.env:=by rfl) (d:(aad pos (YW es X.env)).any (·.1)=false:=by rfl)
  (A:lr (.Call (.Attribute (.Name x p) m Ze) (e::es) [] pos) X.env=(do
   let ov←lr (.Name x p) X.env
   adA Ze.atName
   let (f,first)←acu [ov] (ac2 ov m pl)
   ad3 pos f first (aad pos (YW (e::es) X.env)) (abl pos (aaC [] X.env))):=by rfl):
  PE X (.Call (.Attribute (.Name x p) m Ze) (e::es) [] pos) (IC sp [] E0 t):=by
 intro l s σ H Q I h;refine abg (pl:=pl) (cL (HD (v:=.ref C) w hm rfl a l s σ H (λv g=>v=.ref C/\t σ g λi n=>sp (i++[]) n Q E0) I ⟨rfl,h⟩) λu G B=>?_) A;obtain⟨x,g,j,D,ex,q⟩:=B;subst ex;obtain rfl:u=YH C:=D;refine PySem.W.method_cls j.kIn c.ga (PySem.W.cls_value j.kIn c.rd c.at_ c.hd ?_);refine abK (first:=[]) (h₀:=X.base) I.ok.mod.kin c.kp (cL (ha pos l _ σ g _ (j.tok _) q) λus J ⟨i,n,o,r,E⟩=>⟨o.kIn,?_⟩) b d;exact sW (us:=us) (vs:=i) F z y .nil oF o r E
def bT(P:Y0)(w:Y7)(K:Yc)(mg:Yp->Option Yd)(base:YV)(k:Nat)(m:Yp)(a:List (Ye×Sp)):Prop:=
 ∀cs∈a,∃f fd ps,A0 K cs.1/\bE K cs.1 m f/\aH P w K mg base bx k f fd ps cs.2/\Binds K fd ps []
theorem bT.nil{P:Y0}{w:Y7}{K:Yc}{mg:Yp->Option Yd}{base:YV}:bT P w K mg base k m []:=λ_ h=>nomatch h
theorem bT.cons{P:Y0}{w:Y7}{K:Yc}{mg:Yp->Option Yd}{base:YV}{a:List (Ye×Sp)}(c:A0 K C)(hm:bE K C m f)(F:aH P w K mg base bx k f fd ps sp)(b:Binds K fd ps [])(r:bT P w K mg base k m a):bT P w K mg base k m ((C,sp)::a):=by
 intro cs h;rcases Ym.mp h with rfl|h
 ·exact⟨f,fd,ps,c,hm,F,b⟩
 ·exact r cs h
def Va(b:List (Ye×Sp))(m:Yp)(t:TA)(σ:St)(x:V)(H:Hp)(Q:VK):Prop:=
 ∃cs∈b,∃a c fs,x=.ref a/\H a=Ya (.ins cs.1 c fs)/\fs.lookup m=Yb/\t σ H λd e=>cs.2 (x::(d++[])) e Q E0
def GG(a:List (Ye×Sp))(m:Yp)(ta:TE)(t:TA):TE:=λσ H Q=>ta σ H λx b=>Va a m t σ x b Q
theorem bV{pl:aex Bool}{i:List (Ye×Sp)}(M:bT X.prog X.w X.K X.mg X.base k m i)(v:PE X o ta)(w:cZ k X.A)(ha:PA X (e::es) t)
  (b:YW (e::es) X.env=(false,lr e X.env)::YW es X.env:=by rfl) (d:(aad pos (YW es X.env)).any (·.1)=false:=by rfl)
  (y:lr (.Call (.Attribute o m Ze) (e::es) [] pos) X.env=(do
   let ov←lr o X.env
   adA Ze.atName
   let (f,first)←acu [ov] (ac2 ov m pl)
   ad3 pos f first (aad pos (YW (e::es) X.env)) (abl pos (aaC [] X.env))):=by rfl):
  PE X (.Call (.Attribute o m Ze) (e::es) [] pos) (GG i m ta t):=by
 intro j s σ H Q I h;refine abg (pl:=pl) (cL (v j s σ H _ I h) λu z A=>?_) y;obtain⟨x,B,n,C,cs,g,a,K,fs,ex,D,l,q⟩:=A;subst ex;obtain rfl:u=YH a:=C;obtain⟨f,fd,ps,c,hm,F,E⟩:=M cs g;refine jM n D c hm l ?_;refine abK (first:=[.ref a]) (h₀:=X.base) I.ok.mod.kin hm.kp (cL (ha pos j z σ B _ n q) λus L ⟨G,N,p,r,J⟩=>⟨p.kIn,?_⟩) b d;exact sW (us:=.ref a::us) (vs:=.ref a::G) F w E .nil oF p (.cons rfl r) J
theorem bp{pl:aex Bool}{e:List (Ye×Sp)}(M:bT X.prog X.w X.K X.mg X.base k m e)(g:PE X o ta)(i:cZ k X.A)
  (j:lr (.Call (.Attribute o m Ze) [] [] pos) X.env=(do
   let ov←lr o X.env
   adA Ze.atName
   let (f,first)←acu [ov] (ac2 ov m pl)
   ad3 pos f first (aad pos (YW [] X.env)) (abl pos (aaC [] X.env))):=by rfl):
  PE X (.Call (.Attribute o m Ze) [] [] pos) (GG e m ta CQ):=by
 intro n s σ H Q I h;refine abg (pl:=pl) (cL (g n s σ H _ I h) λu w p=>?_) j;obtain⟨x,y,b,r,cs,d,a,z,fs,ex,t,l,q⟩:=p;subst ex;obtain rfl:u=YH a:=r;obtain⟨f,fd,ps,c,hm,F,v⟩:=M cs d;refine jM b t c hm l ?_;exact agk (first:=[.ref a]) b.kIn hm.kp (sW (us:=[.ref a]) (vs:=[.ref a]) F i v .nil oF b (.cons rfl .nil) q)
end
section
variable{X:Cx}{K:Yc}
theorem aL{e:cb}{ta:TE}{f:Yp}{pos:abz}(a:X.K=K)(b:PE X e ta)(c:abb e f X.env (lr e X.env)=lr e X.env):PE X (.Attribute e f pos) (SX K ta f):=by subst a;exact UK b c
theorem cM{o a:cb}{ta tv:TE}{f:Yp}{pos b:abz}(c:X.K=K)(ha:PE X o ta)(d:PE X a tv)(hs:adz a (Ya (.Attribute o f b)) pos.line X.env=pure false):PS X (.Assign [.Attribute o f b] a pos) (Lw K ta tv f):=by subst c;exact Uu ha d hs
end
section
variable{D:qB}{σ:St}{H:Hp}{Q:VK}{K:Yc}
def WK(K:Yc)(f:Yp)(x:V)(H:Hp)(Q:VK):Prop:=∃a C b fs v,x=.ref a/\H a=Ya (.ins C b fs)/\A0 K C/\cJ K C f/\fs.lookup f=Ya v/\Q v H
theorem VQ{ta:TE}{f:Yp}(h:ta σ H λx a=>WK K f x a Q):SX K ta f σ H Q:=h
theorem UD{f:Yp}{a C b:Ye}{fs:List (Yp×V)}{v:V}(e:H a=Ya (.ins C b fs))(c:A0 K C)(n:cJ K C f)(l:fs.lookup f=Ya v)(h:Q v H):WK K f (.ref a) H Q:=⟨a,C,b,fs,v,rfl,e,c,n,l,h⟩
def X1(K:Yc)(f:Yp)(y x:V)(H:Hp)(R:Hp->Prop):Prop:=∃a C b fs,x=.ref a/\H a=Ya (.ins C b fs)/\A0 K C/\cJ K C f/\fs.length<1000/\R (upd H a (.ins C b (dQ f y fs)))
theorem Tf{ta tv:TE}{f:Yp}(h:tv σ H λy a=>ta σ a λx b=>X1 K f y x b λc=>D.nx σ c):Lw K ta tv f D σ H:=h
theorem Vy{f:Yp}{y:V}{a C b:Ye}{fs:List (Yp×V)}{R:Hp->Prop}(e:H a=Ya (.ins C b fs))(c:A0 K C)(n:cJ K C f)(hl:fs.length<1000)(h:∀d,KS a H d->d a=Ya (.ins C b (dQ f y fs))->R d):X1 K f y (.ref a) H R:=⟨a,C,b,fs,rfl,e,c,n,hl,h _ .upd af⟩
theorem OT{a:List (Ye×Sp)}{m:Yp}{ta:TE}{t:TA}(h:ta σ H λx b=>Va a m t σ x b Q):GG a m ta t σ H Q:=h
theorem vv{c:List (Ye×Sp)}{m:Yp}{t:TA}{C a b:Ye}{sp:Sp}{fs:List (Yp×V)}(e:H a=Ya (.ins C b fs))(l:fs.lookup m=Yb)(h:t σ H λvs d=>sp (.ref a::(vs++[])) d Q E0):Va ((C,sp)::c) m t σ (.ref a) H Q:=
 ⟨(C,sp),Yu,a,b,fs,rfl,e,l,h⟩
theorem v7{a:List (Ye×Sp)}{m:Yp}{t:TA}{cs:Ye×Sp}{x:V}(h:Va a m t σ x H Q):Va (cs::a) m t σ x H Q:=by
 obtain⟨c,h1,h2⟩:=h;exact⟨c,Yo _ h1,h2⟩
def X6(C:Ye)(sp:Sp)(vs:List V)(H:Hp)(Q:VK):Prop:=∀x a,H x=Yb->H a=Yb->a≠x->sp (.ref x::(vs++[])) (upd (upd H a (.own x)) x (.ins C a [])) (λv b=>v=.non/\Q (.ref x) b) E0
theorem Sh{C:Ye}{sp:Sp}{t:TA}(h:t σ H λvs a=>X6 C sp vs a Q):Sb C sp [] E0 t σ H Q:=h
theorem XT{C:Ye}{sp:Sp}{vs:List V}(h:∀x a c,H x=Yb->aJ H c->c x=Ya (.ins C a [])->sp (.ref x::(vs++[])) c (λv f=>v=.non/\Q (.ref x) f) E0):X6 C sp vs H Q:=by
 intro x a nx d g;refine h x a _ nx (λb o e=>?_) af;rw[ak (ay e nx),ak (ay e d)];exact e
end
theorem Xz{f b c:St->Hp->Prop}{r:VK}{σ:St}{H:Hp}(h:f σ H):qB.nx ⟨f,r,b,c⟩ σ H:=h
theorem VT{σ:St}{H:Hp}{R:Bool->Hp->Prop}(h:R true H):Uj σ H R:=h
theorem Tz{g:TG}{tt:TT}{c:TE}{D:Ye}{N:St->Hp->Prop}{x:V}{σ:St}{H:Hp}(h:g x σ H λa f=>tt a f λb d=>if b=true then c a d λy e=>∃ys,e D=Ya (.lst ys)/\ys.length<YB/\N a (upd e D (.lst (ys++[y])))else N a d):fF g tt c D N x σ H:=h
theorem SJ{D:qB}{σ:St}{H:Hp}{c:TT}{u:TS}(h:c σ H λb a=>if b=true then False else u D σ a):qy (O6 c Ln IB) u D σ H:=h
theorem Mq{H b:Hp}(s:aJ H b){xs:List V}{ps:List (Int×Int)}(r:jW H xs ps):jW b xs ps:=r.mono λa xs e=>s a _ e
theorem NH{K:Yc}{H b:Hp}{a:Ye}{xs:List V}(e:aJ H b)(h:bJ K H a xs):bJ K b a xs:=by
 rcases h with(h|⟨o,h⟩)|h
 ·exact .inl (.inl (e _ _ h))
 ·exact .inl (.inr ⟨o,e _ _ h⟩)
 ·exact .inr h
theorem MO{H a:Hp}(s:aJ H a){xs:List V}{b:List (List (Int×Int))}(r:OJ H xs b):OJ a xs b:=YX.mapP r λ_ _ ⟨d,e,q⟩=>⟨d,e,cY s q⟩
structure Ck(m:List (Int×Int)):Prop where
 nd:(m.map (·.1)).Nodup
 nn:∀p∈m,0<=p.2
 rg:∀p∈m,0<=p.1/\p.1<63
noncomputable def B5:List Int:=(Y8 63).map fun(h:Nat)=>(h:Int)
theorem Cu{k:Int}:k∈B5↔0<=k/\k<63:=by
 unfold B5;rw[YA];constructor
 ·rintro⟨n,hn,rfl⟩;have:=aak.mp hn;omega
 ·rintro⟨h0,h1⟩;exact⟨k.toNat,aak.mpr (by omega),by omega⟩
theorem Lg{α:Type}[DecidableEq α]:∀{l m:List α},l.Nodup->(∀x∈l,x∈m)->l.length<=m.length
 |[],m,_,_=>cT _
 |x::l,m,nd,sub=>by
  rw[vc]at nd;have b:=sub x Yu;have c:=af6 b;have:=Lg (l:=l) (m:=m.erase x) nd.2 λy a=>(adQ (show y≠x from λz=>nd.1 (z▸a))).mpr (sub y (Yo _ a));have q:=c.length_eq;rw[gm]at q⊢;omega
theorem iY{l:List Int}(nd:l.Nodup)(h:∀k∈l,0<=k/\k<63):l.length<64:=by
 have:=Lg nd (m:=B5) λk a=>Cu.mpr (h k a);unfold B5 at this;rw[Yf,Rw]at this;omega
theorem Ck.keys{m:List (Int×Int)}(c:Ck m):∀k∈m.map (·.1),0<=k/\k<63:=λk a=>by
 obtain⟨p,hp,e⟩:=YA.mp a;rw[←e];exact c.rg p hp
theorem Ck.len{m:List (Int×Int)}(c:Ck m):m.length<64:=by
 have:=iY c.nd c.keys;rw[Yf]at this;exact this
theorem Ck.nil:Ck []:=⟨ad7,(λp hp=>nomatch hp),(λp hp=>nomatch hp)⟩
theorem Ck.ct{m:List (Int×Int)}(c:Ck m)(k:Int):0<=ct m k:=by
 unfold L2.ct;cases e:wQ m k with
 |none=>exact aat _
 |some v=>exact c.nn _ (GN e)
theorem lJ{m:List (Int×Int)}{k:Int}(h:k∉m.map (·.1)):ct m k=0:=by
 unfold ct;rw[HX h];rfl
theorem VG{m:List (Int×Int)}{k:Int}(h:ct m k≠0):k∈m.map (·.1):=by
 by_cases z:k∈m.map (·.1)
 ·exact z
 ·exact absurd (lJ z) h
theorem V7{m:List (Int×Int)}{k:Int}(h:k∈m.map (·.1)):wQ m k=Ya (ct m k):=by
 obtain⟨v,e⟩:=Qu h;unfold ct;rw[e];rfl
theorem My{m:List (Int×Int)}(nd:(m.map (·.1)).Nodup){p:Int×Int}(h:p∈m):ct m p.1=p.2:=by
 unfold ct;rw[RC (k:=p.1) (v:=p.2) nd h];rfl
theorem Ck.put{m:List (Int×Int)}(c:Ck m){k v:Int}(h0:0<=k)(h1:k<63)(a:0<=v):Ck (dU m k v):=
 ⟨LN m k v c.nd,λp hp=>by
  rcases ux m k v p hp with z|z
  ·rw[z];exact a
  ·exact c.nn p z,λp hp=>by
  rcases ux m k v p hp with z|z
  ·rw[z];exact⟨h0,h1⟩
  ·exact c.rg p z⟩
theorem lH(m:List (Int×Int))(k v j:Int):ct (dU m k v) j=if j=k then v else ct m j:=by
 unfold ct;rw[NV];split<;>rfl
structure Td(m:List (Int×Int)):Prop extends Ck m where
 ps:∀p∈m,0<p.2
theorem Td.nil:Td []:=⟨Ck.nil,(λp hp=>nomatch hp)⟩
theorem Td.pos{m:List (Int×Int)}(t:Td m){k:Int}(h:k∈m.map (·.1)):0<L2.ct m k:=by
 obtain⟨p,hp,e⟩:=YA.mp h;rw[←e,My t.nd hp];exact t.ps p hp
def Ou(a:List (List (Int×Int)))(k b:Int):Prop:=(∃m∈a,ct m k=b)/\∀m∈a,ct m k<=b
def Gf(a:List (List (Int×Int)))(k b:Int):Prop:=(∃m∈a,ct m k=b)/\∀m∈a,b<=ct m k
noncomputable def cov(m n:List (Int×Int)):Bool:=(Y8 63).all fun(h:Nat)=>decide (ct n h<=ct m h)
theorem QB{m n:List (Int×Int)}(a:Ck m)(b:Ck n):cov m n=true↔∀k,ct n k<=ct m k:=by
 unfold cov;rw[ae4];constructor
 ·intro h k;by_cases c:0<=k/\k<63
  ·have:=of_decide_eq_true (h k.toNat (aak.mpr (by omega)));rw[show((k.toNat:Nat):Int)=k by omega]at this;exact this
  ·rw[lJ (λz=>c (b.keys k z))];exact a.ct k
 ·intro h n _;exact decide_eq_true (h n)
noncomputable def fj(ps:List (Int×Int)):List (Int×Int):=ps.filter λp=>decide (0<p.2)
theorem Q6{ps:List (Int×Int)}{p:Int×Int}(h:0<p.2):fj (ps++[p])=fj ps++[p]:=by
 unfold fj;rw[YS,aac,decide_eq_true h];rfl
theorem Sf{ps:List (Int×Int)}{p:Int×Int}(h:¬ 0<p.2):fj (ps++[p])=fj ps:=by
 unfold fj;rw[YS,aac,decide_eq_false h];exact Y1 _
theorem BF{ps:List (Int×Int)}(h:(ps.map (·.1)).Nodup):((fj ps).map (·.1)).Nodup:=by
 unfold fj;exact h.sublist ((ab7).map _)
theorem Rf(ps:List (Int×Int)):(fj ps).length<=ps.length:=YQ _ _
noncomputable def IU(S:List Int)(f:Int->Int):List (Int×Int):=S.map λk=>(k,f k)
theorem mw(S:List Int)(f:Int->Int):(IU S f).map (·.1)=S:=by
 unfold IU;rw[rl];exact adp _
theorem Lb{S:List Int}{f:Int->Int}(nd:S.Nodup)(rg:∀k∈S,0<=k/\k<63):Td (fj (IU S f)):=by
 have mem:∀p∈fj (IU S f),0<p.2/\p.1∈S:=λp hp=>by
  have h:=YU.mp hp;refine⟨of_decide_eq_true h.2,?_⟩;have:=Y3 (f:=(·.1)) h.1;rw[mw]at this;exact this
 exact⟨⟨BF (by rw[mw];exact nd),λp hp=>aix (mem p hp).1,λp hp=>rg _ (mem p hp).2⟩,λp hp=>(mem p hp).1⟩
theorem NU{S:List Int}{f:Int->Int}(nd:S.Nodup)(k:Int)(hk:k∈S)(h0:0<=f k):ct (fj (IU S f)) k=f k:=by
 by_cases h:0<f k
 ·have hm:(k,f k)∈fj (IU S f):=YU.mpr ⟨Y3 (f:=λk=>(k,f k)) hk,decide_eq_true h⟩;exact My (p:=(k,f k)) (BF (by rw[mw];exact nd)) hm
 ·have e:f k=0:=by omega
  rw[e];apply lJ;intro z;obtain⟨p,hp,a⟩:=YA.mp z;have q:=YU.mp hp;obtain⟨b,_,c⟩:=YA.mp q.1;have:=of_decide_eq_true q.2;rw[←c]at a this;have a:b=k:=a;rw[a]at this;exact h this
theorem Hy{S:List Int}{f:Int->Int}{k:Int}(hk:k∉S):ct (fj (IU S f)) k=0:=by
 apply lJ;intro z;apply hk;have:k∈(IU S f).map (·.1):=((ab7).map _).subset z;rw[mw]at this;exact this
theorem two{m n:List (Int×Int)}{k:Int}:(∃x∈[m,n],k∈x.map (·.1))↔k∈m.map (·.1)∨k∈n.map (·.1):=by simp
noncomputable def sN(m:List (Int×Int))(S:List Int):List (Int×Int):=(S.filter λk=>decide (0<ct m k)).map λk=>(k,ct m k)
theorem Ie{m:List (Int×Int)}{S:List Int}{k:Int}(h:0<ct m k):sN m (S++[k])=sN m S++[(k,ct m k)]:=by
 unfold sN;rw[YS,Yr,aac,decide_eq_true h];rfl
theorem NB{m:List (Int×Int)}{S:List Int}{k:Int}(h:¬ 0<ct m k):sN m (S++[k])=sN m S:=by
 unfold sN;rw[YS,Yr,aac,decide_eq_false h];exact Y1 _
theorem Qr(m:List (Int×Int))(S:List Int):(sN m S).length<=S.length:=by
 unfold sN;rw[Yf];exact YQ _ _
theorem Pd(m:List (Int×Int))(h:Int):((eK (dI m) (YL h:bR)).getD (.int 0))=V.int (ct m h):=by
 rw[vY];unfold ct;cases wQ m h<;>rfl
noncomputable def tG(n c k w cs:V):List (Yp×V):=[("number",n),("caller",c),("count",k),("word",w),("causes",cs)]
theorem QO(n c k w cs:V):dQ "causes" cs (dQ "word" w (dQ "count" k (dQ "caller" c (dQ "number" n []))))=tG n c k w cs:=by
 have e:∀(a b:Yp),decide (a=b)=false->a≠b:=λa b h=>of_decide_eq_false h;simp only[dQ,tG,if_neg (e "number" "caller" (by decide +kernel)),if_neg (e "number" "count" (by decide +kernel)),if_neg (e "caller" "count" (by decide +kernel)),if_neg (e "number" "word" (by decide +kernel)),if_neg (e "caller" "word" (by decide +kernel)),if_neg (e "count" "word" (by decide +kernel)),if_neg (e "number" "causes" (by decide +kernel)),if_neg (e "caller" "causes" (by decide +kernel)),if_neg (e "count" "causes" (by decide +kernel)),if_neg (e "word" "causes" (by decide +kernel))]
theorem Hk{n c k w cs:V}:(tG n c k w cs).lookup ("number":Yp)=Ya n:=by kernel_rfl
theorem Gh{n c k w cs:V}:(tG n c k w cs).lookup ("caller":Yp)=Ya c:=by kernel_rfl
theorem Jv{n c k w cs:V}:(tG n c k w cs).lookup ("count":Yp)=Ya k:=by kernel_rfl
theorem Oo{n c k w cs:V}:(tG n c k w cs).lookup ("word":Yp)=Ya w:=by kernel_rfl
theorem F2{n c k w cs:V}:(tG n c k w cs).lookup ("causes":Yp)=Ya cs:=by kernel_rfl
theorem LK{n c k w cs:V}:(tG n c k w cs).lookup ("free":Yp)=none:=by kernel_rfl
theorem Ft{n c k w cs:V}:(tG n c k w cs).lookup ("in_turn":Yp)=none:=by kernel_rfl
theorem y4{n c k w cs:V}:(tG n c k w cs).lookup ("asks_place":Yp)=none:=by kernel_rfl
theorem Lu{n c k w cs:V}:(tG n c k w cs).lookup ("kind":Yp)=none:=by kernel_rfl
theorem uU{n c k w cs:V}:(tG n c k w cs).lookup ("name":Yp)=none:=by kernel_rfl
theorem Mu{n c k w cs:V}:(tG n c k w cs).lookup ("rank":Yp)=none:=by kernel_rfl
theorem Mf{n c k w cs:V}:(tG n c k w cs).lookup ("told":Yp)=none:=by kernel_rfl
theorem Pz{K:Yc}{H:Hp}{Q:VK}{a:Ye}{kd:Yp}(h:kd="own"∨kd="heard"∨kd="one")(ha:bJ K H a [.str "own",.str "heard",.str "one"])(q:Q (.bl false) H):Rt K true (.str kd) (.ref a) H Q:=by
 refine⟨a,_,_,_,rfl,.inr ha,.cons (.str _) (.cons (.str _) (.cons (.str _) .nil)),.str kd,by kernel_rfl,?_,by show 0<=60;decide,?_⟩
 ·rcases h with rfl|rfl|rfl<;>kernel_rfl
 ·have e:(([.str "own",.str "heard",.str "one"]:List abo).any λz=>z.eqv (.str kd))=true:=by rcases h with rfl|rfl|rfl<;>kernel_rfl
  show Q (.bl (!_)) H;rw[e];exact q
theorem VV:decide (("heard":Yp)="own")=false:=by decide +kernel
theorem VF:decide (("one":Yp)="own")=false:=by decide +kernel
theorem Xe:decide (("one":Yp)="heard")=false:=by decide +kernel
theorem VA:decide (("own":Yp)="own")=true:=by decide +kernel
theorem WH:decide (("heard":Yp)="heard")=true:=by decide +kernel
noncomputable def Xg(p:Int×Int):abo:=.tuple [.int p.1,.int p.2]
theorem jW.dps{K:Yc}{H:Hp}:∀{xs:List V} {ps:List (Int×Int)},jW H xs ps->CY K H xs (ps.map Xg)
 |_,_,.nil=>.nil
 |_,_,.cons r t=>by
  obtain⟨a,rfl,h⟩:=r;exact .cons (.tup (bJ.of h) (.cons (.int _) (.cons (.int _) .nil))) (jW.dps t)
theorem Ca:∀ps:List (Int×Int),aae (ps.map Xg)=true
 |[]=>rfl
 |p::ps=>by rw[YG,aa8,Ca ps];rfl
theorem Ir{K:Yc}{H:Hp}{Q:VK}{a b:Ye}{xs:List V}{ds:List abo}(ha:a9 K H a xs)(c:CY K H xs ds)(hl:aae ds=true)(f:a9 K H b [])(q:Q (.bl (!decide (ds=[]))) H):Qc K (.ref a) (.ref b) H Q:=by
 refine⟨.list ds,.list [],.inr ⟨_,_,_,rfl,rfl,ha,c⟩,.inr ⟨_,_,_,rfl,rfl,f,.nil⟩,by rw[adZ];exact hl,rfl,by have:(acP []).depth=1:=rfl;omega,?_⟩;have e:(acP ds).eqv (.list [])=decide (ds=[]):=by
  cases ds with
  |nil=>rfl
  |cons d ds=>rw[decide_eq_false (by intro z;cases z)];rfl
 rw[e];exact q
theorem DU{H:Hp}{Q:VK}{a b:Ye}{xs zs:List V}(h1:H a=Ya (.lst xs))(h2:H b=Ya (.lst zs))(hl:xs.length+ zs.length<=1000)(h:∀p c,H p=Yb->aJ H c->c p=Ya (.lst (xs++zs))->Q (.ref p) c):V0 (.ref a) (.ref b) H Q:=⟨a,b,xs,zs,rfl,rfl,h1,h2,xl (aF hl),λp hp=>h p _ hp (aC hp) af⟩
def KR(d:Ye)(B H:Hp):Prop:=∀b o,b≠d->B b=Ya o->H b=Ya o
theorem KR.refl(d:Ye)(B:Hp):KR d B B:=λ_ _ _ h=>h
structure i9(K:Yc)(C:Ye):Prop where
 cl:A0 K C
 n1:cJ K C "number"
 n2:cJ K C "caller"
 n3:cJ K C "count"
 n4:cJ K C "word"
 n5:cJ K C "causes"
noncomputable def dG(m:List (Int×V)):List (bR×V):=m.map λp=>(YL p.1,p.2)
theorem sQ(m:List (Int×V)):(dG m).length=m.length:=Yf ..
noncomputable def RI:List (Int×V)->Int->Option V
 |[],_=>Yb
 |p::m,k=>if p.1=k then Ya p.2 else RI m k
theorem Gm:∀(m:List (Int×V)) (k:Int),eK (dG m) (YL k:bR)=RI m k
 |[],_=>rfl
 |p::m,k=>by
  show eK ((YL p.1,p.2)::dG m) (YL k)=_;unfold RI;by_cases e:p.1=k
  ·rw[if_pos e,dM (by rw[e])]
  ·rw[if_neg e,dE (λz=>e (aaL z)),Gm m k]
noncomputable def xC:List (Int×V)->Int->V->List (Int×V)
 |[],k,v=>[(k,v)]
 |p::m,k,v=>if p.1=k then(p.1,v)::m else p::xC m k v
theorem vP:∀(m:List (Int×V)) (k:Int) (v:V) (p:Int×V),p∈xC m k v->p=(k,v)∨p∈m
 |[],k,v,p,h=>.inl (by simpa [xC]using h)
 |q::m,k,v,p,h=>by
  have a:p∈(if q.1=k then(q.1,v)::m else q::xC m k v):=h;by_cases e:q.1=k
  ·rw[if_pos e]at a;rcases Ym.mp a with z|z
   ·exact .inl (by rw[z,e])
   ·exact .inr (Yo _ z)
  ·rw[if_neg e]at a;rcases Ym.mp a with z|z
   ·exact .inr (by rw[z];exact Yu)
   ·rcases vP m k v p z with z|z
    ·exact .inl z
    ·exact .inr (Yo _ z)
theorem Oy(k:Int):∀m:List (Int×V),((dG m).any λa=>decide (a.1=(YL k:bR)))=m.any λp=>decide (p.1=k)
 |[]=>rfl
 |p::m=>by
  show(decide ((YL p.1:bR)=YL k)||(dG m).any _)=(decide (p.1=k)||m.any _);rw[Oy k m];congr 1;rw[decide_eq_decide];exact⟨λh=>aaL h,λh=>congrArg _ h⟩
theorem zX:∀(m:List (Int×V)) (k:Int) (v:V),(m.any λp=>decide (p.1=k))=false->xC m k v=m++[(k,v)]
 |[],_,_,_=>rfl
 |p::m,k,v,h=>by
  rw[aca,af2]at h;show(if p.1=k then(p.1,v)::m else p::xC m k v)=_;rw[if_neg (of_decide_eq_false h.1),zX m k v h.2];rfl
theorem D8:∀(m:List (Int×V)) (k:Int) (v:V),(m.map (·.1)).Nodup->(m.any λp=>decide (p.1=k))=true->xC m k v=m.map λp=>if p.1=k then(p.1,v)else p
 |[],_,_,_,h=>by cases h
 |p::m,k,v,nd,h=>by
  rw[YG,vc]at nd;show(if p.1=k then(p.1,v)::m else p::xC m k v)=(if p.1=k then(p.1,v)else p)::m.map _;by_cases e:p.1=k
  ·rw[if_pos e,if_pos e];congr 1;have:m.map (λp=>if p.1=k then(p.1,v)else p)=m.map id:=aap λq a=>by
    rw[if_neg (λz=>nd.1 (by rw[e,←z];exact Y3 a))];rfl
   rw[this,adp]
  ·rw[if_neg e,if_neg e,D8 m k v nd.2 (by
    rw[aca,decide_eq_false e,aeo]at h;exact h)]
theorem Lq(m:List (Int×V))(k:Int)(v:V)(nd:(m.map (·.1)).Nodup):hJ (dG m) (YL k:bR) (v)=dG (xC m k v):=by
 unfold hJ;rw[Oy];cases e:m.any λp=>decide (p.1=k)with
 |false=>
  rw[zX m k v e];unfold dG;rw[Yr];rfl
 |true=>
  rw[D8 m k v nd e];unfold dG;rw[rl,if_pos rfl,rl];apply aap;intro p _;show(if(YL p.1:bR)=YL k then((YL p.1:bR),v)else(YL p.1,p.2))=((YL (if p.1=k then(p.1,v)else p).1:bR),(if p.1=k then(p.1,v)else p).2);by_cases z:p.1=k
  ·rw[if_pos (congrArg _ z),if_pos z]
  ·rw[if_neg (λq=>z (aaL q)),if_neg z]
section
variable{X:Cx}
theorem zg{α β:Type}{R:α->β->Prop}:∀{xs:List α} {ys:List β},xs.length=ys.length->(∀(i:Nat) x y,xs[i]?=Ya x->ys[i]?=Ya y->R x y)->YX R xs ys:=by
 intro xs
 induction xs with
 |nil=>
  intro ys h _;cases ys with
  |nil=>exact .nil
  |cons _ _=>cases h
 |cons x xs ih=>
  intro ys h k;cases ys with
  |nil=>cases h
  |cons y ys=>exact .cons (k 0 x y rfl rfl) (ih (adO h) λi a b ha c=>k (i+ 1) a b (by simpa using ha) (by simpa using c))
theorem FN:∀(ns:List Int) (n:Nat),n<=ns.length->preSum (λi=>ns.getD i 0) n=(ns.take n).sum:=by
 intro ns n
 induction n with
 |zero=>intro _;rfl
 |succ n ih=>
  intro h;show preSum _ n+ ns.getD n 0=_;rw[ih (by omega),afN,afk];have:n<ns.length:=h;rw[YM,Yk this];simp
theorem JD(j:X.calm=true):dO X (.builtin "sum") (λxs H Q=>∃(p:Ye) (ns:List Int),xs=[.ref p]/\a9 X.K H p (ns.map V.int)/\Q (.int ns.sum) H):=by
 intro B s σ H xs us Q I r h;obtain⟨p,ns,rfl,k,q⟩:=h;obtain⟨u,rfl,l⟩:=fG r;cases l;obtain⟨a,f,d,C⟩:=I.list k;have hl:a.toArray.size=ns.length:=by rw[YC,←f.length,Yf]
 have hp:p<s.heap.objs.size:=let ⟨_,z,_⟩:=d.isList;Yz z;refine call_sum_walkG (aa2 d.isList ?_);refine⟨s.heap.objs.size,[s.heap.objs.size,p],[s.heap.objs.size],a.toArray.size,_,_,λi=>ns.getD i 0,rfl,adN (A:=X.A.in1) (I.ok.hd j) _ p (YN hp) a.toArray,
  ⟨⟨_,Yx _ rfl,rfl,rfl⟩,d.isList.push _⟩,λb c=>?_,λi v m=>?_,λD tk n kp=>?_⟩
 ·rw[aaV];rcases Ym.mp c with z|z
  ·rw[z];exact abF _
  ·rw[Yi.mp z];exact abv hp
 ·have g:a[i]?=Ya v:=by simpa using m
  have c:i<ns.length:=by
   have:=(Yh.mp g).1;rw[←hl,YC];exact this
  obtain⟨u,hu,w⟩:=f.get (i:=i) (x:=V.int ns[i]) (by rw[Yy,Yk c];rfl);rw[g]at hu;cases hu;obtain⟨t,rfl⟩:=w;refine⟨t,?_⟩;show abe ns[i] t=abe (ns.getD i 0) t;rw[YM,Yk c,ae0]
 ·refine⟨.int ns.sum,H,I.kept (t':=tk) λb o e=>kp b o ?_ (Yj _ e),⟨n,?_⟩,q⟩
  ·intro z;have y:b=s.heap.objs.size:=by simpa using z
   exact absurd (Yz e) (by rw[y];exact Y9 _)
  ·rw[hl,FN ns ns.length (Yl _),YI]
abbrev EA(H:Hp):List V->List (Int×V)->Prop:=YX λx p=>∃a,x=.ref a/\H a=Ya (.tup [.int p.1,p.2])
theorem Ky{j:List (Ye×pe)}{σ:St}{H:Hp}{s:Yn}(I:aO X j σ H s):∀{xs:List V} {us:List Yd} {ps:List (Int×V)},EA H xs ps->Vals xs us->
  ∃d:List (bR×Yd),KV (dG ps) d/\d.length=us.length/\∀(i:Nat) v,us[i]?=Ya v->∃a f k x o c,v=.ref a/\d[i]?=Ya (k,x)/\(bf X.prog X.w).is k f=true/\s.heap.get? a=Ya o/\o.cls=.type "tuple"/\o.data=.seq #[f,x] c:=by
 intro xs us ps w
 induction w generalizing us with
 |nil=>
  intro w;cases w;exact⟨[],.nil,rfl,λi v e=>by simp at e⟩
 |@cons x p xs ps h t ih=>
  intro w;cases w with|cons r q=>
  rename_i u us;obtain⟨d,l,m,y⟩:=ih q;obtain⟨a,rfl,ha⟩:=h;obtain rfl:u=YH a:=r;obtain⟨_,b,z,o,ho,A,n,hd,_⟩:[V.int p.1,p.2].length<=YB/\∃b:List Yd,Vals [V.int p.1,p.2] b/\mO s.heap a b.toArray:=I.hok a _ ha;obtain⟨F,g,rfl,B,C⟩:=Aw z;obtain⟨D,rfl⟩:=B;refine⟨(YL p.1,g)::d,.cons ⟨rfl,C⟩ l,congrArg (·+ 1) m,λi v e=>?_⟩;cases i with
  |zero=>
   have E:YH a=v:=YF e;subst E;exact⟨a,_,_,g,o,n,rfl,rfl,ph X.prog X.w p.1 D,ho,A,hd⟩
  |succ i=>exact y i v e
theorem AQ:∀(ps a:List (Int×V)),((a++ps).map (·.1)).Nodup->vB (dG a) (dG ps)=dG (a++ps)
 |[],a,_=>by rw[Y1];rfl
 |p::ps,a,h=>by
  have e:vB (dG a) (dG (p::ps))=vB (hJ (dG a) (YL p.1:bR) p.2) (dG ps):=rfl;have h1:(a.map (·.1)).Nodup:=by rw[Yr]at h;exact(jJ.mp h).1
  have h2:p.1∉a.map (·.1):=by
   rw[Yr,YG]at h;intro z;exact(jJ.mp h).2.2 _ z _ Yu rfl
  rw[e,Lq a p.1 p.2 h1,zX a p.1 p.2 (by
   rw[aeA];intro q b;exact λz=>h2 (by rw[←of_decide_eq_true z];exact Y3 b)),AQ ps (a++[p]) (by rw[RW];exact h),RW]
  rfl
theorem Gi(d:X.calm=true):dO X (.type "dict") (λxs H Q=>∃(a:Ye) (ys:List V) (ps:List (Int×V)),xs=[.ref a]/\H a=Ya (.lst ys)/\EA H ys ps/\(ps.map (·.1)).Nodup/\ps.length<=1000/\∀p,H p=Yb->Q (.ref p) (upd H p (.dK (dG ps)))):=by
 intro o s σ H xs us Q I r h;obtain⟨a,ys,ps,rfl,ha,hp,nd,hl,q⟩:=h;obtain⟨u,rfl,f⟩:=fG r;cases f;obtain⟨z,g,n,i,b,e⟩:=I.lstM ha;obtain⟨j,k,l,m⟩:=Ky I hp i;refine GX.uq (knd:=bf X.prog X.w) (I.ok.hd d) e (by rw[←b];exact z) l m λt tk kp dd=>?_;have c:KV (dG ps) (aeS [] j):=by
  have:=KV.merge k (show KV (dG []) []from .nil);rw[AQ ps [] (by simpa using nd)]at this;exact this
 refine⟨.ref s.heap.objs.size,_,I.laid (t':=tk) kp (Yl _) (Gn ?_ (beq_eq_false_iff_ne.mpr (Ne.symm (YN I.big))) c dd),rfl,q _ (I.hok.fresh (Yl _))⟩;rw[sQ];exact xl (aF hl)
end
section
variable{D:qB}{σ:St}{H:Hp}{Q:VK}
theorem thaw_same{d:Ye}{H A:Hp}{u:HO}(s:KR d H A)(h:H d=Ya u):aJ H (upd A d u):=λb o e=>by
 by_cases z:b=d
 ·subst z;rw[h]at e;cases e;exact af
 ·rw[ak z];exact s b o z e
theorem VW{d:Ye}{m:List (Int×V)}{k:Int}{v:V}{P:V->Prop}(hd:Rd H d (.dK (dG m)))(hk:RI m k=Ya v)(h:P v):∃a v,V.ref d=.ref a/\jc H a (.int k) (Ya v)/\P v:=
 ⟨d,v,rfl,.inl ⟨_,YL k,hd,rfl,by rw[Gm,hk]⟩,h⟩
theorem U2{d:Ye}{m:List (Int×V)}{k:Int}{P:Option V->Prop}(hd:Rd H d (.dK (dG m)))(h:P (RI m k)):∃a o,V.ref d=.ref a/\jc H a (.int k) o/\P o:=⟨d,_,rfl,.inl ⟨_,YL k,hd,rfl,(Gm m k).symm⟩,h⟩
theorem QT{d:Ye}{m:List (Int×V)}{k:Int}{v:V}{P:Hp->Prop}(hd:H d=Ya (.dK (dG m)))(nd:(m.map (·.1)).Nodup)(hl:m.length<YB)(h:∀b,KS d H b->b d=Ya (.dK (dG (xC m k v)))->P b):∃a c,V.ref d=.ref a/\Ab H a (.int k) v c/\P c:=
 ⟨d,_,rfl,.inl ⟨_,YL k,hd,rfl,by rw[sQ];exact hl,rfl⟩,h _ .upd (by rw[af,Lq m k v nd])⟩
end
theorem Og{n h:Int}(h0:0<=n)(h1:0<=h):(!decide (V.int (Builtin.bitAnd n (2^h.toNat))=V.int 0))=n.toNat.testBit h.toNat:=by
 have a:(0:Int)<=2^h.toNat:=Ge _;have b:((2:Int)^h.toNat).toNat=2^h.toNat:=by
  have:((2:Int)^h.toNat)=((2^h.toNat:Nat):Int):=by push_cast;rfl
  rw[this,YO]
 rw[aiL h0 a,b];cases q:n.toNat.testBit h.toNat with
 |false=>
  rw[(GB.Hz _ _).mpr q];rfl
 |true=>
  have z:¬ (n.toNat &&& 2^h.toNat=0):=λz=>by rw[(GB.Hz _ _).mp z]at q;cases q
  have c:¬ V.int ((n.toNat &&& 2^h.toNat:Nat):Int)=V.int 0:=λe=>z (by injection e with e;omega);rw[decide_eq_false c];rfl
noncomputable def y9(n:Int)(i:Nat):List Int:=((Y8 i).filter λh=>n.toNat.testBit h).map (fun(h:Nat)=>(h:Int))
theorem LP(n:Int)(i:Nat):(y9 n i).length<=i:=by
 unfold y9;rw[Yf];have:=YQ (λh=>n.toNat.testBit h) (Y8 i);rw[Rw]at this;exact this
theorem Lh{n:Int}{i:Nat}(h:n.toNat.testBit i=true):y9 n (i+ 1)=y9 n i++[(i:Int)]:=by
 unfold y9;rw[acX,YS,Yr,aac,h];rfl
theorem Pq{n:Int}{i:Nat}(h:n.toNat.testBit i=false):y9 n (i+ 1)=y9 n i:=by
 unfold y9;rw[acX,YS,Yr,aac,h];exact Y1 _
theorem Jg{n:Int}(h0:0<=n)(h1:n<9223372036854775808):aaw n<=63/\y9 n (aaw n)=GB.hl n:=by
 have a:n.natAbs=n.toNat:=by omega
 have l:n.toNat<2^63:=by
  have:(2:Nat)^63=9223372036854775808:=by decide
  omega
 have b:aaw n<=63:=aiF (by rw[a];exact l);refine⟨b,?_⟩;unfold y9 GB.hl;rw[GB.Qz b];unfold aaw;by_cases z:n=0
 ·subst z;decide
 ·have c:(n==0)=false:=by simpa using z
  rw[c,a];exact Nat.lt_log2_self
theorem za:∀{l m:List Nat},l.Pairwise (·<·)->m.Pairwise (·<·)->(∀x,x∈l↔x∈m)->l=m
 |[],[],_,_,_=>rfl
 |[],y::m,_,_,h=>absurd ((h y).mpr Yu) (by simp)
 |x::l,[],_,_,h=>absurd ((h x).mp Yu) (by simp)
 |x::l,y::m,hl,hm,h=>by
  rw[ac7]at hl hm;have e:x=y:=by
   rcases Ym.mp ((h x).mp Yu)with z|z
   ·exact z
   ·rcases Ym.mp ((h y).mpr Yu)with w|w
    ·exact w.symm
    ·have:=hm.1 x z;have:=hl.1 y w;omega
  subst e;rw[za hl.2 hm.2 λz=>?_];constructor
  ·intro a;rcases Ym.mp ((h z).mp (Yo _ a))with w|w
   ·subst w;exact absurd (hl.1 _ a) (Y9 _)
   ·exact w
  ·intro a;rcases Ym.mp ((h z).mpr (Yo _ a))with w|w
   ·subst w;exact absurd (hm.1 _ a) (Y9 _)
   ·exact w
theorem Em{α:Type}{P:List α->Prop}(h0:P [])(h1:∀l a,P l->P (l++[a]))(l:List α):P l:=by
 have b:∀r:List α,P r.reverse:=by
  intro r
  induction r with
  |nil=>exact h0
  |cons a r ih=>rw[agT];exact h1 _ _ ih
 have:=b l.reverse;rw[List.reverse_reverse]at this;exact this
theorem SR:∀(l:List Nat) (b:Nat),l.Pairwise (·<·)->(∀x∈l,x<b)->(l.map λh=>2^h).sum<2^b:=by
 refine Em ?_ ?_
 ·intro b _ _;exact Nat.two_pow_pos b
 ·intro l h a b hp c;rw[adP]at hp;have h1:=a h hp.1 λx d=>hp.2.2 x d h (by simp);have h2:h<b:=c h (by simp);rw[Yr,afk];have h3:2^(h+ 1)<=2^b:=af1 (by decide) h2;rw[Nat.pow_succ]at h3;simp only[YG,acw,aes,aiy];omega
theorem Ru:∀(l:List Nat),l.Pairwise (·<·)->(l.map λh=>2^h).sum=GB.Gd l:=by
 refine Em ?_ ?_
 ·intro _;rfl
 ·intro l h a hp;rw[adP]at hp;have h1:=SR l h hp.1 λx b=>hp.2.2 x b h (by simp);have e:=a hp.1;rw[Yr,afk];unfold GB.Gd at e⊢;rw[aeG,←e];simp only[YG,acw,aes,aiy,abn,List.foldl_nil];have:=Nat.two_pow_add_eq_or_of_lt h1 1;rw[Nat.mul_one]at this;rw[Nat.add_zero,Nat.add_comm,this,Nat.or_comm]
structure Hs(hs:List Int):Prop where
 up:hs.Pairwise (·<·)
 rg:∀h∈hs,0<=h/\h<63
theorem Hs.nat{hs:List Int}(c:Hs hs):∃l:List Nat,hs=l.map (fun(h:Nat)=>(h:Int))/\l.Pairwise (·<·)/\∀x∈l,x<63:=by
 refine⟨hs.map abN,?_,?_,?_⟩
 ·rw[rl]
  conv=>lhs;rw[←adp hs]
  refine aap λh d=>?_;have:=(c.rg h d).1;show h=((h.toNat:Nat):Int);omega
 ·rw[abw];refine c.up.imp_of_mem fun{a b} ha f h=>?_;have:=(c.rg a ha).1;omega
 ·intro x e;obtain⟨h,d,rfl⟩:=YA.mp e;have:=c.rg h d;omega
theorem ES:∀l:List Nat,(l.map fun(h:Nat)=>(h:Int)).sum=((l.sum:Nat):Int)
 |[]=>rfl
 |x::l=>by rw[YG,aes,aes,ES l];omega
theorem Hs.set{hs:List Int}(c:Hs hs):0<=(hs.map λh=>1*(2:Int)^h.toNat).sum/\(hs.map λh=>1*(2:Int)^h.toNat).sum<9223372036854775808/\GB.hl (hs.map λh=>1*(2:Int)^h.toNat).sum=hs:=by
 obtain⟨l,rfl,up,rg⟩:=c.nat
 have e:((l.map fun(h:Nat)=>(h:Int)).map λh=>1*(2:Int)^h.toNat).sum=((GB.Gd l:Nat):Int):=by
  rw[←Ru l up,←ES,rl,rl];congr 1;refine aap λh _=>?_;show 1*(2:Int)^((h:Int)).toNat=((2^h:Nat):Int);rw[YO,ag2]
  push_cast
  rfl
 have lt:GB.Gd l<2^63:=GB.OQ rg;have a:(2:Nat)^63=9223372036854775808:=by decide
 rw[e];refine⟨by omega,by omega,?_⟩;unfold GB.hl;rw[YO];congr 1;refine za (GB.j0 _) up λx=>?_;rw[GB.DI,GB.DF];constructor
 ·rintro⟨_,h⟩;exact of_decide_eq_true h
 ·intro h;exact⟨rg x h,decide_eq_true h⟩
structure Hm(K:Yc)(C:Ye):Prop where
 cl:A0 K C
 n1:cJ K C "learnt"
theorem Kh{d:V}:([(("learnt":Yp),d)]:List (Yp×V)).lookup ("learnt":Yp)=Ya d:=by kernel_rfl
theorem NW{d:V}:([(("learnt":Yp),d)]:List (Yp×V)).lookup ("learn":Yp)=none:=by kernel_rfl
theorem NX{d:V}:([(("learnt":Yp),d)]:List (Yp×V)).lookup ("floor":Yp)=none:=by kernel_rfl
theorem K5{d:V}:([(("learnt":Yp),d)]:List (Yp×V)).lookup ("reach":Yp)=none:=by kernel_rfl
theorem QU{d:V}:([(("learnt":Yp),d)]:List (Yp×V)).lookup ("sure":Yp)=none:=by kernel_rfl
abbrev sG(H:Hp):List (Int×V)->List (Int×List (Int×Int))->Prop:=YX λq e=>q.1=e.1/\∃r,q.2=.ref r/\H r=Ya (.dK (dI e.2))
structure mi(K:Yc)(mg:Yp->Option Yd)(H:Hp)(p d:Ye)(rs:List (Int×V))(tb:List (Int×List (Int×Int))):Prop where
 ob:∃C dx,mg "Known"=Ya (.ref C)/\H p=Ya (.ins C dx [("learnt",.ref d)])
 dc:H d=Ya (.dK (dG rs))
 rw:sG H rs tb
 hs:Hs (tb.map (·.1))
 td:∀e∈tb,Td e.2
 ap:∀q∈rs,q.2≠V.ref d
theorem sG.keys{H:Hp}:∀{rs:List (Int×V)} {tb:List (Int×List (Int×Int))},sG H rs tb->rs.map (·.1)=tb.map (·.1):=by
 intro a b w
 induction w with
 |nil=>rfl
 |cons h _ ih=>rw[YG,YG,h.1,ih]
noncomputable def tbl:List (Int×List (Int×Int))->Int->Option (List (Int×Int))
 |[],_=>Yb
 |e::tb,h=>if e.1=h then Ya e.2 else tbl tb h
theorem sG.lk{H:Hp}:∀{rs:List (Int×V)} {tb:List (Int×List (Int×Int))} (h:Int),sG H rs tb->(RI rs h=Yb/\tbl tb h=Yb)∨∃r m,RI rs h=Ya (.ref r)/\tbl tb h=Ya m/\H r=Ya (.dK (dI m)):=by
 intro rs tb h w
 induction w with
 |nil=>exact .inl ⟨rfl,rfl⟩
 |@cons q e rs tb k t ih=>
  obtain⟨a,r,b,c⟩:=k;unfold RI tbl;by_cases z:e.1=h
  ·rw[if_pos (a.trans z),if_pos z];exact .inr ⟨r,e.2,by rw[b],rfl,c⟩
  ·rw[if_neg (λw=>z (a.symm.trans w)),if_neg z];exact ih
theorem tbl_mem:∀{tb:List (Int×List (Int×Int))} {h:Int} {m:List (Int×Int)},tbl tb h=Ya m->(h,m)∈tb
 |e::tb,h,m,q=>by
  unfold tbl at q;by_cases z:e.1=h
  ·rw[if_pos z]at q;cases q;rw[←z];exact Yu
  ·rw[if_neg z]at q;exact Yo _ (tbl_mem q)
theorem tbl_key:∀{tb:List (Int×List (Int×Int))} {h:Int},(tbl tb h).isSome=true↔h∈tb.map (·.1)
 |[],h=>by simp[tbl]
 |e::tb,h=>by
  unfold tbl;rw[YG,Ym];by_cases z:e.1=h
  ·rw[if_pos z];exact⟨λ_=>.inl z.symm,λ_=>rfl⟩
  ·rw[if_neg z,tbl_key];exact⟨.inr,λq=>q.resolve_left λw=>z w.symm⟩
noncomputable def um(tb:List (Int×List (Int×Int)))(h:Int)(m:List (Int×Int)):List (Int×List (Int×Int)):=tb.map λe=>if e.1=h then(e.1,m)else e
theorem vN(tb:List (Int×List (Int×Int)))(h:Int)(m:List (Int×Int)):(um tb h m).map (·.1)=tb.map (·.1):=by
 unfold um;rw[rl];refine aap λe _=>?_;show(if e.1=h then(e.1,m)else e).1=e.1;split<;>rfl
theorem ub(h:Int)(m:List (Int×Int))(j:Int):∀tb:List (Int×List (Int×Int)),tbl (um tb h m) j=if j=h/\(tbl tb h).isSome then Ya m else tbl tb j
 |[]=>by simp[um,tbl]
 |e::tb=>by
  have a:=ub h m j tb;have b:um (e::tb) h m=(if e.1=h then(e.1,m)else e)::um tb h m:=rfl;rw[b];by_cases z:e.1=h
  ·rw[if_pos z];unfold tbl;rw[if_pos z];by_cases w:e.1=j
   ·rw[if_pos w,if_pos ⟨w.symm.trans z,rfl⟩]
   ·rw[if_neg w,if_neg w,a,if_neg (λq=>w (z.trans q.1.symm)),if_neg (λq=>w (z.trans q.1.symm))]
  ·rw[if_neg z];unfold tbl;rw[if_neg z];by_cases w:e.1=j
   ·rw[if_pos w,if_pos w,if_neg (λq=>z (w.trans q.1))]
   ·rw[if_neg w,if_neg w,a]
noncomputable def UT(d:Ye)(o:pe)(kvs:List (bR×V)):It:=
 ⟨λi H=>i<kvs.length/\H d=Ya (.frz o (.dK kvs)),λi H x a=>a=H/\∃k,kvs[i]?=Ya (k,x),λi H=>kvs.length<=i/\H d=Ya (.frz o (.dK kvs))⟩
theorem IW{P:Y0}{w:Y7}{K:Yc}{L:cb}{d it:Ye}{o:pe}{kvs:List (bR×V)}{vs:List (bR×Yd)}{ep:Nat}(g:KV kvs vs)(B:∀h:YV,h.get? d=Ya o->h.DictAt (bf P w) d vs ep):
  Turn P w K L (UT d o kvs) [it] it (λi h=>h.IsValIter it d i vs.length ep) where
 mem:=by simp
 obj:=λi h st b a=>by
  have e:b=it:=by simpa using a
  subst e;obtain⟨o,e,c,dd⟩:=st;exact⟨o,e,λv z=>by rw[dd]at z;cases z⟩
 keep:=λi h l st k=>let ⟨o,e,c,dd⟩:=st;⟨o,k it (by simp) o e,c,dd⟩
 item:=by
  intro X n hw p C i D s σ H E I m st q;subst n hw p;obtain⟨F,hd⟩:=q;have f:s.heap.get? d=Ya o:=(show s.heap.get? d=Ya o/\_ from I.hok d _ hd).1;have G:kvs[i]?=Ya kvs[i]:=Yk F;obtain⟨u,hu,M⟩:=g.get (k:=kvs[i].1) (v:=kvs[i].2) G;obtain⟨r,t,N,x,y,A⟩:=m it (by simp);refine wpAny_pyNext_values_item st (B _ f) hu λl j O=>?_;have Q:aO X D σ H {s with heap:=l}:=I.turned (t':=s.toks) (λb o a e=>(O.2 b a).trans e) r t x y A;obtain⟨S,e,c,dd⟩:=id j;exact⟨u,rfl,EJ (s:={s with heap:=l}) e c dd (by decide) ⟨kvs[i].2,H,Q,M,⟨rfl,kvs[i].1,G⟩,j,λb a=>(m b a).1⟩⟩
 done:=by
  intro X n hw p C i D s σ H E I m st q;subst n hw p;obtain⟨F,hd⟩:=q;have f:s.heap.get? d=Ya o:=(show s.heap.get? d=Ya o/\_ from I.hok d _ hd).1;obtain⟨r,t,N,x,y,A⟩:=m it (by simp);have J:kvs.length=vs.length:=KV.length g;exact wpAny_pyNext_values_end (I.ok.hd C) st (B _ f) (abi (by omega)) λl R=>⟨rfl,I.turned (t':=s.toks) (λb o a e=>R b o a e) r t x y A⟩
 self:=λ_ _ _ _ _ st h=>af7 st h
section
variable{X:Cx}
def Sa(td:TE):TI:=λσ H R=>td σ H λx b=>∃d a,x=.ref d/\b d=Ya (.dK a)/\∀o,R (UT d o a) (upd b d (.frz o (.dK a)))
theorem QP{y e:cb}{r t:abz}{td:TE}(A:PE X e td)(f:abb e "values" X.env (lr e X.env)=lr e X.env:=by rfl)(g:(r.endLine==t.line)=true:=by rfl):
  PI X y (.Call (.Attribute e "values" r) [] [] t) (Sa td):=by
 intro l s σ H R I h;refine ab9 f g (cL (A l s σ H _ I h) λv a B=>?_);obtain⟨x,m,n,C,d,c,ex,hd,q⟩:=B;subst ex;obtain rfl:v=YH d:=C;obtain⟨z,u,k,i,dd⟩:=HN n.hok hd;obtain⟨h1,h2⟩:=vI (T:="dict") n (x:=.ref d) rfl (.inr (.inr (.inl ⟨rfl,.inl ⟨c,hd⟩⟩)));refine⟨"dict","dict.values",aaE,abq,ac9,h1,h2,aaM rfl (acR ?_)⟩;refine acy abq h1 aeI (aet _) (agU (bf X.prog X.w) d u) ⟨⟨k,dd⟩,?_⟩;have j:(a.heap.push {cls:=.type "dict_values",data:=.fields #[.ref d]}).DictOf (bf X.prog X.w) d k:=dd.push _;obtain⟨o,D,E,ho,rr⟩:=id j;have w:∀h:YV,h.get? d=Ya o->h.DictAt (bf X.prog X.w) d k E:=λh F=>⟨o,D,F,rr⟩;have G:aO X l σ m {a with heap:=a.heap.push {cls:=.type "dict_values",data:=.fields #[.ref d]}}:=n.kept (t':=a.toks) λb ob e=>Yj _ e;have J:(a.heap.push {cls:=.type "dict_values",data:=.fields #[.ref d]}).IsValuesView a.heap.objs.size d:=⟨_,Yx _ rfl,rfl,rfl⟩;show Ys _ _ (adm (.ref a.heap.objs.size)) _ _ _;refine wpAny_pyIter_values J (w _ ho) ?_;have p:aO X l σ (upd m d (.frz o (.dK c))) {a with heap:=a.heap.push {cls:=.type "dict_values",data:=.fields #[.ref d]}}:=
  G.write (t':=a.toks) (x:=d) (e:=d) (by rw[hd];trivial) (.inl rfl) (λ_ _ _ e=>e) ⟨o,ho⟩ ⟨ho,z,u,k,i,j⟩
 refine⟨_,[_],_,UT d o c,upd m d (.frz o (.dK c)),rfl,p.kept (t':=a.toks) λb ob e=>Yj _ e,IW i w,⟨_,Yx _ rfl,rfl,rfl⟩,λb K=>?_,q o⟩;have L:b=(a.heap.push {cls:=.type "dict_values",data:=.fields #[.ref d]}).objs.size:=by simpa using K
 subst L;exact p.fpOk (Yl _) (p.hok.fresh (Yl _))
end
theorem Ku{d:Ye}{o:pe}{kvs:List (bR×V)}{g:TG}{tt:TT}{j:TE}{σ:St}{H:Hp}{D:Ye}{Qe:Hp->Prop}(a:Nat->St->Hp->Prop)(h0:a 0 σ H)(hl:∀i σ H,i<=kvs.length->a i σ H->H d=Ya (.frz o (.dK kvs)))
  (hs:∀i k v σ H,kvs[i]?=Ya (k,v)->a i σ H->fF g tt j D (a (i+ 1)) v σ H) (hd:∀σ H,a kvs.length σ H->Qe H):
  ∃W:Nat->Nat->St->Hp->Prop,(∃m,W 0 m σ H)/\∀i m h b,W i m h b->((UT d o kvs).stop i b/\Qe b)∨((UT d o kvs).go i b/\∃N:St->Hp->Prop,(∀l n,N l n->∃r,r<m/\W (i+ 1) r l n)/\
   ∀x c,(UT d o kvs).yld i b x c->fF g tt j D N x h c):=by
 refine⟨λi m σ H=>m=kvs.length-i/\i<=kvs.length/\a i σ H,⟨kvs.length,by simp,cT _,h0⟩,?_⟩;rintro i m σ H ⟨rfl,s,p⟩;have q:=hl i σ H s p;by_cases f:i<kvs.length
 ·refine .inr ⟨⟨f,q⟩,a (i+ 1),λh b t=>⟨kvs.length-(i+ 1),by omega,rfl,f,t⟩,λx b y=>?_⟩;obtain⟨rfl,k,u⟩:=y;exact hs i k x σ _ u p
 ·have e:i=kvs.length:=by omega
  subst e;exact .inl ⟨⟨Yl _,q⟩,hd σ H p⟩
def XC(J:Ye->pe->List (bR×V)->It)(x:V)(H:Hp)(R:It->Hp->Prop):Prop:=∃d a,x=.ref d/\H d=Ya (.dK a)/\∀o,R (J d o a) (upd H d (.frz o (.dK a)))
theorem QR{td:TE}{σ:St}{H:Hp}{R:It->Hp->Prop}(h:td σ H λx a=>XC UT x a R):Sa td σ H R:=h
theorem V1{J:Ye->pe->List (bR×V)->It}{H:Hp}{d:Ye}{kvs:List (bR×V)}{R:It->Hp->Prop}(hd:H d=Ya (.dK kvs))(h:∀o A,A d=Ya (.frz o (.dK kvs))->KR d H A->R (J d o kvs) A):XC J (.ref d) H R:=
 ⟨d,kvs,rfl,hd,λo=>h o _ af λb u n e=>by rw[ak n];exact e⟩
def XY(K:Yc)(x:V)(H:Hp)(R:It->Hp->Prop):Prop:=∃a,x=.ref a/\(((∃b,a9 K H a b)/\R (LC K a) H)∨((∃b,bJ K H a b)/\R (MK K a) H))
theorem SH{K:Yc}{tl:TE}{σ:St}{H:Hp}{R:It->Hp->Prop}(h:tl σ H λx a=>XY K x a R):UN K tl σ H R:=h
theorem OE{K:Yc}{a:Ye}{xs:List V}{g:TG}{tb:TS}{D:qB}{σ:St}{H:Hp}(e:a9 K H a xs∨bJ K H a xs)(c:Nat->St->Hp->Prop)(h0:c 0 σ H)(hl:∀i d b,i<=xs.length->c i d b->aJ H b)
  (hs:∀i x σ H,xs[i]?=Ya x->c i σ H->g x σ H λf h=>tb {D with nx:=c (i+ 1),ct:=c (i+ 1),bk:=D.nx} f h) (hd:∀σ H,c xs.length σ H->D.nx σ H):
  XY K (.ref a) H λJ l=>∃W:Nat->Nat->St->Hp->Prop,(∃m,W 0 m σ l)/\∀i m σ H,W i m σ H->
   (J.stop i H/\D.nx σ H)∨(J.go i H/\∃N:St->Hp->Prop,(∀d b,N d b->∃k,k<m/\W (i+ 1) k d b)/\∀x b,J.yld i H x b->g x σ b λf h=>tb {D with nx:=N,ct:=N,bk:=D.nx} f h):=by
 rcases e with e|e
 ·exact⟨a,rfl,.inl ⟨⟨_,e⟩,mG c h0 (λi d b j p=>(hl i d b j p).seq e) hs hd⟩⟩
 ·exact⟨a,rfl,.inr ⟨⟨_,e⟩,CB c h0 (λi d b j p=>VN.same (hl i d b j p) _ _ e) hs hd⟩⟩
theorem Ni{t:TS}{D:qB}{σ:St}{H:Hp}{d:Ye}{kvs:List (bR×V)}(hd:H d=Ya (.dK kvs))(h:t {D with nx:=λb a=>(∃o,a d=Ya (.frz o (.dK kvs)))/\D.nx b (upd a d (.dK kvs)),rt:=λv a=>(∃o,a d=Ya (.frz o (.dK kvs)))/\D.rt v (upd a d (.dK kvs))} σ H):RX t D σ H:=⟨d,kvs,hd,h⟩
section
variable{X:Cx}
end
section
variable{X:Cx}
noncomputable def IF(v d:Ye):HO:=.ext λh=>h.IsValuesView v d
theorem Gu:Ww X "dict.values" (λx vs H Q=>∃d kvs,x=.ref d/\vs=[]/\H d=Ya (.dK kvs)/\∀v,H v=Yb->Q (.ref v) (upd H v (IF v d))):=by
 intro m s σ H x n v us Q I a c h;obtain⟨d,kvs,rfl,rfl,hd,q⟩:=h;cases a;cases c;obtain⟨z,f,vs,g,dd⟩:=HN I.hok hd;obtain⟨h1,h2⟩:=vI (T:="dict") I (x:=.ref d) rfl (.inr (.inr (.inl ⟨rfl,.inl ⟨kvs,hd⟩⟩)));refine acy abq h1 aeI (aet _) (agU (bf X.prog X.w) d f) ⟨⟨vs,dd⟩,?_⟩;refine⟨.ref s.heap.objs.size,_,I.laid (o:=IF s.heap.objs.size d) (t':=s.toks) (λb ob e=>Yj _ e) (Yl _) ⟨⟨_,Yx _ rfl,rfl,rfl⟩,⟨_,Yx _ rfl⟩,λh1 h2 ⟨o,i,j,l⟩ k=>⟨o,k o i,j,l⟩⟩,rfl,q _ (I.hok.fresh (Yl _))⟩
theorem Hb(B:X.calm=true):dO X (.type "list") (λxs H Q=>∃(v d:Ye) (kvs:List (bR×V)),xs=[.ref v]/\H v=Ya (IF v d)/\Rd H d (.dK kvs)/\kvs.length<=1000/\∀l,H l=Yb->Q (.ref l) (upd H l (.lst (kvs.map (·.2))))):=by
 intro J s σ H xs us Q I r h;obtain⟨v,d,kvs,rfl,C,hd,b,q⟩:=h;obtain⟨u,rfl,D⟩:=fG r;cases D;obtain⟨z,K,n,f,dd⟩:=kR I.hok hd;obtain⟨E,t⟩:=dd.dictAt;have hl:n.length=kvs.length:=(KV.length f).symm;have w:s.heap.IsValuesView v d:=(I.hok v _ C).1;refine ae3 (A:=X.A) (PySem.W.kdl_values (knd:=bf X.prog X.w) (kvs:=n) (ep:=E)) (I.ok.hd B) ⟨w,t⟩ (by rw[hl];exact xl (aF (by omega))) λL tk g c y F a=>?_;refine⟨.ref s.heap.objs.size,_,I.laid (o:=.lst (kvs.map (·.2))) (t':=tk) y (Yl _) ⟨by rw[Yf];exact xl (aF b),g.toList,c,zg ?_ λi x u j hu=>?_,F⟩,rfl,q _ (I.hok.fresh (Yl _))⟩
 ·have e:g.toList.length=n.length:=by rw[pk];exact a.1
  rw[Yf,e,hl]
 ·rw[sq]at hu;obtain⟨k,y⟩:=a.2 i u hu;rw[Yy]at j;cases e:kvs[i]? with
  |none=>rw[e]at j;cases j
  |some p=>
   rw[e]at j;cases j;obtain⟨M,m,G⟩:=f.get (k:=p.1) (v:=p.2) e;rw[y]at m;cases m;exact G
theorem Vp{K:Yc}{H:Hp}{a:Ye}{kvs:List (bR×V)}{P:Prop}(hd:H a=Ya (.dK kvs))(h:P):Uy K "dict" (.ref a) H/\P:=⟨.inr (.inr (.inl ⟨rfl,.inl ⟨kvs,hd⟩⟩)),h⟩
end
section
variable{X:Cx}
def V9:R2:=λx y H Q=>∃(a c:Ye) (m:List (Int×Int)),x=.ref a/\y=.ref c/\Rd H a (.dK (dI m))/\Rd H c (.dK [])/\Q (.bl (!m.isEmpty)) H
theorem Ue(hu:X.A.units<aax):tH X (aai .NotEq) V9:=by
 intro A s σ H x y v u Q I e f h;obtain⟨a,c,m,rfl,rfl,ha,g,q⟩:=h;cases e;cases f;obtain⟨_,i,j,b,k⟩:=kR I.hok ha;obtain⟨_,l,n,d,o⟩:=kR I.hok (show Rd H c (.dK (dI []))from g);have t:j.length=m.length:=by rw[←b.length,vj]
 have w:n.length=0:=by rw[←d.length,vj];rfl
 refine PySem.W.keq_ne i l k o hu (r:=true) (λz=>HJ d b (λp hp=>?_)) ⟨.bl (!m.isEmpty),H,I,?_,q⟩
 ·have:m.length=0:=by omega
  rw[aaZ.mp this]at hp;cases hp
 ·rw[t,w];cases m<;>rfl
end
theorem GY{d:Ye}{o:pe}{kvs:List (bR×V)}{g:TG}{tt:TT}{n:TE}{σ:St}{H:Hp}{D:Ye}{Qe:Hp->Prop}(b:Nat->St->Hp->Prop)(h0:b 0 σ H)(hl:∀i σ H,i<=kvs.length->b i σ H->H d=Ya (.frz o (.dK kvs)))
  (hs:∀i k v t σ H j,kvs[i]?=Ya (k,v)->b i σ H->H t=Yb->aJ H j->j t=Ya (.tup [kV k,v])->fF g tt n D (b (i+ 1)) (.ref t) σ j) (hd:∀σ H,b kvs.length σ H->Qe H):
  ∃W:Nat->Nat->St->Hp->Prop,(∃m,W 0 m σ H)/\∀i m l c,W i m l c->((TH d o kvs).stop i c/\Qe c)∨((TH d o kvs).go i c/\∃N:St->Hp->Prop,(∀r s,N r s->∃u,u<m/\W (i+ 1) u r s)/\
   ∀x f,(TH d o kvs).yld i c x f->fF g tt n D N x l f):=by
 refine⟨λi m σ H=>m=kvs.length-i/\i<=kvs.length/\b i σ H,⟨kvs.length,by simp,cT _,h0⟩,?_⟩;rintro i m σ H ⟨rfl,z,p⟩;have q:=hl i σ H z p;by_cases h:i<kvs.length
 ·refine .inr ⟨⟨h,q⟩,b (i+ 1),λl c A=>⟨kvs.length-(i+ 1),by omega,rfl,h,A⟩,λx c y=>?_⟩;obtain⟨k,v,a,B,w,rfl,rfl⟩:=y;exact hs i k v a σ _ _ B p w (aC w) af
 ·have e:i=kvs.length:=by omega
  subst e;exact .inl ⟨⟨Yl _,q⟩,hd σ H p⟩
theorem Ms{td:TE}{σ:St}{H:Hp}{R:It->Hp->Prop}(h:td σ H λx a=>XC TH x a R):MQ td σ H R:=h
theorem JJ{d:V}:([(("learnt":Yp),d)]:List (Yp×V)).lookup ("listed":Yp)=none:=by kernel_rfl
theorem LU{d:V}:([(("learnt":Yp),d)]:List (Yp×V)).lookup ("merge":Yp)=none:=by kernel_rfl
theorem WL{H:Hp}{Q:VK}{a c:Ye}{m:List (Int×Int)}(ha:Rd H a (.dK (dI m)))(b:Rd H c (.dK []))(h:Q (.bl (!m.isEmpty)) H):V9 (.ref a) (.ref c) H Q:=⟨a,c,m,rfl,rfl,ha,b,h⟩
end L2
namespace GX
open PySem
section
variable{prog:Y0}{w:Y7}{A:uc}{E:Yd->Yn->Prop}{s:Yn}{K:Type}[DecidableEq K]{knd:aee prog w K}
end
end GX
namespace L2
open PySem PySem.Spec PyProof.Rows
section
variable{X:Cx}
end
end L2
namespace GX
open PySem PyProof.Rows
end GX
namespace L2
open PySem PySem.Spec PyProof.Rows
theorem cR{α β:Type}{F:α->β->Prop}:∀{l:List α} {m:List β} {i:Nat} {a:α},YX F l m->l[i]?=Ya a->∃b,m[i]?=Ya b/\F a b:=by
 intro a b i x w
 induction w generalizing i with
 |nil=>exact λe=>by simp at e
 |cons r _ ih=>
  intro e;cases i with
  |zero=>simp at e;subst e;exact⟨_,rfl,r⟩
  |succ i=>
   obtain⟨p,h1,h2⟩:=ih (i:=i) (by simpa using e);exact⟨p,by simpa using h1,h2⟩
section
variable{X:Cx}
end
end L2
namespace HT
open PySem PyProof.Rows
section
open PySem.SeqAt
open PySem.AutoSeq1 (wpAny_loadPart')
open PySem.MeetsSeq PySem.MeetsSeq2 PySem.MeetsSeq3
end
section
variable{prog:Y0}{w:Y7}{A:uc}{E:Yd->Yn->Prop}{s:Yn}
end
end HT
namespace L2
open PySem PySem.Spec PyProof.Rows
section
variable{X:Cx}
end
section
variable{me hd ba ye vo re ag v:V}
end
end L2
namespace GX
open PySem PyProof.Rows
variable{prog:Y0}{w:Y7}{A:uc}{n:Nat}{b:Ye}
section
variable{R:acv->Yn->Prop}{I d:Ye}{fp wr:List Ye}{P:Nat->Yd->Prop}{St:Nat->YV->Prop}{K:Type}[DecidableEq K]{knd:aee prog w K}
noncomputable def jb(b:List (List K×Ye×Yd)):List (List K×Ye×Yd):=b.foldl (λa p=>acx a p.1 p.2.1 p.2.2) []
theorem BO(a:List (List K×Ye×Yd))(p:List K×Ye×Yd):jb (a++[p])=acx (jb a) p.1 p.2.1 p.2.2:=by
 unfold jb;rw[aeG];rfl
theorem Fy{xs:List (List K×Ye×Yd)}{k:List K}{v:Yd}{x:List K×Ye×Yd}(h:x∈acx xs k b v):(∃y∈xs,y.1=x.1/\y.2.1=x.2.1)∨x=(k,b,v):=by
 unfold acx at h;by_cases z:(aeH xs k).isSome=true
 ·rw[if_pos z]at h;obtain⟨y,a,e⟩:=YA.mp h;refine .inl ⟨y,a,?_⟩;rw[←e];unfold putAt;split<;>exact⟨rfl,rfl⟩
 ·rw[if_neg z]at h;rcases YD.mp h with q|q
  ·exact .inl ⟨x,q,rfl,rfl⟩
  ·exact .inr (Yi.mp q)
theorem Fc(xs:List (List K×Ye×Yd))(k:List K)(b:Ye)(v:Yd):(acx xs k b v).length<=xs.length+ 1:=by
 unfold acx;split
 ·rw[Yf];omega
 ·rw[Yq];exact Yl _
theorem pI{G:List K->Ye->Prop}:∀(b a:List (List K×Ye×Yd)),(∀x∈a,G x.1 x.2.1)->(∀p∈b,G p.1 p.2.1)->(∀x∈b.foldl (λa p=>acx a p.1 p.2.1 p.2.2) a,G x.1 x.2.1)/\(b.foldl (λa p=>acx a p.1 p.2.1 p.2.2) a).length<=a.length+ b.length
 |[],a,ha,_=>⟨ha,Yl _⟩
 |p::b,a,ha,h=>by
  have hp:=h p Yu;have:=pI (G:=G) b (acx a p.1 p.2.1 p.2.2) (λx c=>by
   rcases Fy c with⟨y,d,f,g⟩|e
   ·have:=ha y d;rw[f,g]at this;exact this
   ·rw[e];exact hp) (λq i=>h q (Yo _ i))
  refine⟨this.1,?_⟩;have l:=Fc a p.1 p.2.1 p.2.2;have j:=this.2;simp only[abn,gm];omega
theorem Fz{h h':YV}{k:List K}(x:acK knd h k b)(e:∀o,h.get? b=Ya o->h'.get? b=Ya o):acK knd h' k b:=by
 obtain⟨o,a,n,ho,r⟩:=x;exact⟨o,a,n,e o ho,r⟩
def DT(knd:aee prog w K)(h:YV)(d:Ye)(xs:List (List K×Ye×Yd)):Prop:=∃o a b,h.get? d=Ya o/\o.ExactDict/\o.data=.dict a b/\a.toList=xs.map (afT (abf knd))/\(xs.map (·.1)).Nodup
theorem Jz(W:afi prog w A.in1 I fp wr n P St)(nd:d∉fp)(h₀:YV)(f:List (List K×Ye×Yd))(hn:f.length=n)(hz:n<=YB)(hu:(abf knd).room A.in1)
  (O:∀p∈f,acK knd h₀ p.1 p.2.1/\p.2.1≠d/\p.2.1∉wr)
  (T:∀i v,P i v->∃a k b x o c,v=.ref a/\f[i]?=Ya (k,b,x)/\h₀.get? a=Ya o/\o.cls=.type "tuple"/\o.data=.seq #[.ref b,x] c/\a≠d/\a∉wr):
  ∀(k i:Nat) (s:Yn) (t:acT),n=i+ k->St i s.heap->(∀b o,b∉wr->b≠d->h₀.get? b=Ya o->s.heap.get? b=Ya o)->DT knd s.heap d (jb (f.take i))->
  (∀h' tk,(∀b o,b∉wr->b≠d->h₀.get? b=Ya o->h'.get? b=Ya o)->DT knd h' d (jb f)->R (.ok (.ret .none)) {s with heap:=h',toks:=tk})->
  Gr (Yv prog w) A (.builtin "dict.update.loop" ⟨[.ref d,.ref I,.int i t,.none],[]⟩) R s:=by
 have U:d∉wr:=λz=>nd (W.sub _ z);have l:∀(h:YV) (j:Nat),(∀b o,b∉wr->b≠d->h₀.get? b=Ya o->h.get? b=Ya o)->∀x∈jb (f.take j),acK knd h x.1 x.2.1:=λh j kp=>(pI (G:=λk b=>acK knd h k b) (f.take j) [] (λx y=>(nomatch y)) (λp hp=>by
  obtain⟨C,E,F⟩:=O p (acL hp);exact Fz C λo e=>kp _ o F E e)).1
 intro k i s t V st kp dd fin;refine Ob (D:=λi h=>(∀b o,b∉wr->b≠d->h₀.get? b=Ya o->h.get? b=Ya o)/\DT knd h d (jb (f.take i))) W nd ?_ ?_ k i s t V st ⟨kp,dd⟩ λh tk q=>fin h tk q.1 ?_
 ·rintro i h h' ⟨kp,od,m,u,ho,r⟩ q;exact⟨λb o B g e=>q b o B (kp b o B g e),od,m,u,q d od U ho,r⟩
 ·rintro i v s pv ⟨kp,od,m,u,ho,H,J,L,M⟩;obtain⟨a,k,b,x,o,c,rfl,y,ha,X,hd,Y,N⟩:=T i v pv;obtain⟨C,E,F⟩:=O _ (Yw y);have len:=(pI (G:=λ_ _=>True) (f.take i) [] (λ_ _=>trivial) λ_ _=>trivial).2;refine⟨a,o,.ref b,x,c,rfl,kp a o N Y ha,X,hd,λQ q=>wpAny_dictSet_heap (knd:=abf knd) hu (Fz C λo e=>kp _ o F E e) ⟨od,m,u,ho,H,J,L,l s.heap i kp,M⟩ (λh2 Z S=>q h2 ⟨λb o B g e=>(S.2 b g).trans (kp b o B g e),?_⟩ S.2 _) (ir len (by rw[mr,aa4];omega))⟩;obtain⟨od,m,u,ho,H,J,L,_,M⟩:=Z;rw[afN,y,Option.toList_some,BO];exact⟨od,m,u,ho,H,J,L,M⟩
 ·have z:=q.2;rwa [←hn,YI]at z
end
section
variable{E:Yd->Yn->Prop}{s:Yn}{K:Type}[DecidableEq K]{knd:aee prog w K}
theorem Ao{l:Ye}{vs:List Yd}{j:List (List K×Ye×Yd)}{Q:Yd->Yn->Prop}(L:A.handled=Yb)(hu:(abf knd).room A.in1.in1)(hl:s.heap.get? l=Ya {cls:=.type "list",dict:=Yb,data:=.seq vs.toArray n,slots:=#[]})(hz:vs.length<=YB)(t:j.length=vs.length)(O:∀p∈j,acK knd s.heap p.1 p.2.1)(P:∀(i:Nat) v,vs[i]?=Ya v->∃a k b x o c,v=.ref a/\j[i]?=Ya (k,b,x)/\s.heap.get? a=Ya o/\o.cls=.type "tuple"/\o.data=.seq #[.ref b,x] c)(h:∀h' tk,(∀b o,s.heap.get? b=Ya o->h'.get? b=Ya o)->DT knd h' s.heap.objs.size (jb j)->Q (.ref s.heap.objs.size) {s with heap:=h',toks:=tk}):
  Ys (Yv prog w) A (call (.type "dict") [.ref l]) Q E s:=by
 have f:(Kx s.heap).get? l=Ya {cls:=.type "list",dict:=Yb,data:=.seq vs.toArray n,slots:=#[]}:=Yj _ hl;refine yO (T:="list") ⟨_,f,rfl⟩ (by decide) (HV L f λh1 CV D=>⟨rfl,?_⟩);have u:=D l _ f;have F:l<h1.objs.size:=Yz u;have ld:l<s.heap.objs.size:=Yz hl;have M:h1.IsList l vs.toArray:=⟨_,u,rfl,n,rfl⟩;have N:DT knd h1 s.heap.objs.size []:=by
  obtain⟨od,B,C,ho,R,S,U,_,V⟩:=Heap.DictOfH.new (knd:=abf knd) s.heap;exact⟨od,B,C,D _ _ ho,R,S,U,V⟩
 have y:s.heap.objs.size<h1.objs.size:=by
  obtain⟨od,B,C,ho,r⟩:=N;exact Yz ho
 have X:∀{b:Ye},b<h1.objs.size->b≠h1.objs.size:=λz=>YN z;have G:∀{b:Ye},b<s.heap.objs.size->b∉[h1.objs.size]:=fun{b} Y z=>by
  have g:b=h1.objs.size:=by simpa using z
  exact absurd (aeR Y y) (by rw[g];exact Y9 _)
 refine aa2 (s:={s with heap:=h1,toks:=CV}) M ?_;have W:=adN (prog:=prog) (w:=w) (A:=A.in1.in1) L h1.objs.size l (X F) vs.toArray;refine Jz (A:=A.in1) (knd:=knd) W (d:=s.heap.objs.size) ?_ s.heap j (by rw[t,YC]) (by rw[YC];exact hz) hu (λp hp=>?_) (λi v Z=>?_) vs.toArray.size 0 _ 0 (by omega)
  ⟨⟨_,Yx _ rfl,rfl,rfl⟩,M.push _⟩ (λb o _ nb e=>Yj _ (D b o (Yj _ e))) ?_ λh2 H k2 d2=>?_
 ·intro z;have g:s.heap.objs.size=h1.objs.size∨s.heap.objs.size=l:=by simpa using z
  rcases g with g|g
  ·exact absurd y (by rw[g];exact Y9 _)
  ·exact absurd ld (by rw[g];exact Y9 _)
 ·have q:=O p hp;obtain⟨o,I,m,ho,r⟩:=id q;exact⟨q,YN (Yz ho),G (Yz ho)⟩
 ·obtain⟨a,k,b,x,o,c,e1,e2,J,e5,e6⟩:=P i v (by simpa using Z);exact⟨a,k,b,x,o,c,e1,e2,J,e5,e6,YN (Yz J),G (Yz J)⟩
 ·obtain⟨od,B,C,ho,r⟩:=N;exact⟨od,B,C,Yj _ ho,r⟩
 ·exact⟨rfl,h h2 H (λb o e=>k2 b o (G (Yz e)) (YN (Yz e)) e) d2⟩
end
end GX
namespace L2
open PySem PySem.Spec PyProof.Rows
variable{X:Cx}{Za:List (Ye×pe)}{σ:St}{H:Hp}{s:Yn}{l f a:Ye}{xs:List V}{its vs:List Yd}{ks:List (List Int)}{k n:Nat}{fd:YE}{ps:List Yp}{sp:Sp}{Q E:Yd->Yn->Prop}{A:uc}{te td:TE}{prog:Y0}{w:Y7}{P:adY->Yn->Prop}{p:Array Nat}
abbrev E8(H:Hp):List V->List (List bR×V)->Prop:=YX λx q=>∃a b,x=.ref a/\H a=Ya (.tup [.ref b,q.2])/\H b=Ya (.tup (q.1.map kV))
noncomputable def ju(ps:List (List bR×V)):List (List bR×V):=ps.foldl (λa p=>hJ a p.1 p.2) []
section
theorem Jq(I:aO X Za σ H s):∀{xs:List V} {us:List Yd} {ps:List (List bR×V)},E8 H xs ps->Vals xs us->
  ∃d:List (List bR×Ye×Yd),YX (fun(p:List bR×V) (q:List bR×Ye×Yd)=>p.1=q.1/\H q.2.1=Ya (.tup (p.1.map kV))/\RelV p.2 q.2.2) ps d/\d.length=us.length/\∀(i:Nat) v,us[i]?=Ya v->∃a k b x o c,v=.ref a/\d[i]?=Ya (k,b,x)/\s.heap.get? a=Ya o/\o.cls=.type "tuple"/\o.data=.seq #[.ref b,x] c:=by
 intro xs us ps w
 induction w generalizing us with
 |nil=>
  intro w;cases w;exact⟨[],.nil,rfl,λi v e=>by simp at e⟩
 |@cons x p xs ps h t ih=>
  intro w;cases w with|cons r q=>
  rename_i u us;obtain⟨d,g,j,l⟩:=ih q;obtain⟨a,b,rfl,ha,m⟩:=h;obtain rfl:u=YH a:=r;obtain⟨_,its,y,o,ho,z,n,hd,_⟩:[V.ref b,p.2].length<=YB/\∃its:List Yd,Vals [V.ref b,p.2] its/\mO s.heap a its.toArray:=I.hok a _ ha;obtain⟨A,f,rfl,B,C⟩:=Aw y;obtain rfl:A=YH b:=B;refine⟨(p.1,b,f)::d,.cons ⟨rfl,m,C⟩ g,congrArg (·+ 1) j,λi v e=>?_⟩;cases i with
  |zero=>
   have D:YH a=v:=YF e;subst D;exact⟨a,p.1,b,f,o,n,rfl,rfl,ho,z,hd⟩
  |succ i=>exact l i v e
theorem P0:∀{ps:List (List bR×V)} {b:List (List bR×Ye×Yd)},YX (fun(p:List bR×V) (q:List bR×Ye×Yd)=>p.1=q.1/\H q.2.1=Ya (.tup (p.1.map kV))/\RelV p.2 q.2.2) ps b->∀{a:List (List bR×V)} {xs:List (List bR×Ye×Yd)},KT H a xs->
  KT H (ps.foldl (λa p=>hJ a p.1 p.2) a) (b.foldl (λa p=>acx a p.1 p.2.1 p.2.2) xs):=by
 intro ps b w
 induction w with
 |nil=>exact λh=>h
 |@cons p q ps b w t ih=>
  obtain⟨c,d,e⟩:=w;intro a xs h;rw[abn,abn];refine ih ?_;rw[←c];exact h.put p.1 d e
theorem GO(ps:List (List bR×V)):∀a:List (List bR×V),(ps.foldl (λa p=>hJ a p.1 p.2) a).length<=a.length+ ps.length:=by
 induction ps with
 |nil=>intro a;exact Yl _
 |cons p ps ih=>
  intro a;have h1:=ih (hJ a p.1 p.2);have h2:=qR a p.1 p.2;simp only[abn,gm];omega
theorem wD(k:X.calm=true)(hu:X.A.units+ 2<aax):dO X (.type "dict") (λxs H Q=>∃(a:Ye) (ys:List V) (ps:List (List bR×V)),xs=[.ref a]/\H a=Ya (.lst ys)/\E8 H ys ps/\ps.length<=1000/\∀p,H p=Yb->Q (.ref p) (upd H p (.dT (ju ps)))):=by
 intro v s σ H xs us Q I r h;obtain⟨a,ys,ps,rfl,ha,hp,hl,q⟩:=h;obtain⟨u,rfl,w⟩:=fG r;cases w;obtain⟨z,y,n,A,d,e⟩:=I.lstM ha;obtain⟨g,i,B,C⟩:=Jq I hp A;have D:∀p∈g,acK (bf X.prog X.w) s.heap p.1 p.2.1:=by
  have all:∀{l:List (List bR×V)} {m:List (List bR×Ye×Yd)},YX (fun(p:List bR×V) (q:List bR×Ye×Yd)=>p.1=q.1/\H q.2.1=Ya (.tup (p.1.map kV))/\RelV p.2 q.2.2) l m->∀x∈m,acK (bf X.prog X.w) s.heap x.1 x.2.1:=by
   intro l m q
   induction q with
   |nil=>intro x f;exact nomatch f
   |@cons a b as bs h t ih=>
    intro x f;rcases Ym.mp f with z|z
    ·rw[z,←h.1];exact key_of I.hok h.2.1
    ·exact ih x z
  exact all i
 refine GX.Ao (knd:=bf X.prog X.w) (I.ok.hd k) ?_ e (by rw[←d];exact z) B D C λE tk kp dd=>?_
 ·exact hu
 have N:aO X v σ H {s with heap:=E,toks:=tk}:=I.kept kp;obtain⟨o,F,G,ho,J,K,L,M⟩:=dd;refine⟨.ref s.heap.objs.size,_,I.laid (o:=.dT (ju ps)) (t':=tk) kp (Yl _) ⟨?_,beq_eq_false_iff_ne.mpr (Ne.symm (YN I.big)),GX.jb g,?_,o,F,G,ho,J,K,L,M⟩,rfl,q _ (I.hok.fresh (Yl _))⟩
 ·have:=GO ps [];rw[aa4]at this;exact xl (aF (by unfold ju;omega))
 ·refine(P0 i .nil).keeps λc O j=>?_;rw[ak (ay j (I.hok.fresh (Yl _)))];exact j
end
noncomputable abbrev Cx.one(X:Cx):Cx:={X with A:=X.A.in1,xe:=λ_ _=>False}
section
theorem aO.one(I:aO X Za σ H s):aO X.one Za σ H s:=
 ⟨⟨I.ok.mod,I.ok.kind,I.ok.glob,I.ok.blt,I.ok.above,I.ok.inj,I.ok.has,I.ok.cab,I.ok.hd,I.ok.frames,I.ok.stk,I.ok.exf,I.ok.bs,I.ok.bsz,I.ok.noex,I.ok.exfs,I.ok.funs,I.ok.frf⟩,I.os,I.bare,I.base,I.loc,I.cell,I.free,I.freeC,I.pin,I.hok,I.len⟩
theorem aO.back(ok:X.Ok)(I:aO X.one Za σ H s):aO X Za σ H s:=
 ⟨ok,I.os,I.bare,I.base,I.loc,I.cell,I.free,I.freeC,I.pin,I.hok,I.len⟩
end
theorem Hq:∀a:List Int,HT.eJ a a=false
 |[]=>rfl
 |x::a=>by rw[HT.nr,if_pos rfl];exact Hq a
theorem Fp:∀{a b:List Int},HT.eJ a b=true->HT.eJ b a=false
 |[],[],h=>by cases h
 |[],_::_,_=>rfl
 |_::_,[],h=>by cases h
 |x::a,y::b,h=>by
  rw[HT.nr]at h⊢;by_cases z:x=y
  ·rw[if_pos z]at h;rw[if_pos z.symm];exact Fp h
  ·rw[if_neg z]at h;rw[if_neg (λw=>z w.symm)];have h:=of_decide_eq_true h;exact decide_eq_false (by omega)
theorem HK:∀{a b c:List Int},HT.eJ a b=true->HT.eJ c b=false->HT.eJ a c=true
 |[],[],_,h,_=>by cases h
 |_::_,[],_,h,_=>by cases h
 |[],_::_,[],_,h=>by cases h
 |[],_::_,_::_,_,_=>rfl
 |x::a,y::b,[],h,h2=>by cases h2
 |x::a,y::b,z::c,h,h2=>by
  rw[HT.nr]at h h2⊢;by_cases e:x=y
  ·rw[if_pos e]at h;by_cases d:z=y
   ·rw[if_pos d]at h2;rw[if_pos (e.trans d.symm)];exact HK h h2
   ·rw[if_neg d]at h2;have h2:=of_decide_eq_false h2;rw[if_neg (λw=>d (w.symm.trans e))];exact decide_eq_true (by omega)
  ·rw[if_neg e]at h;have h:=of_decide_eq_true h;by_cases d:z=y
   ·rw[if_neg (λw=>e (w.trans d))];exact decide_eq_true (by omega)
   ·rw[if_neg d]at h2;have h2:=of_decide_eq_false h2;rw[if_neg (by omega)];exact decide_eq_true (by omega)
section
theorem T4(a v d:Yd):abX "min" ⟨[a],[(aaa "key",v),(aaa "default",d)]⟩:=by unfold abX;kernel_rfl
theorem Uo(d:Yd)(hh:X.A.handled=Yb)(hu:X.A.units+ 2<aax)(F:aH X.prog X.w X.K X.mg X.base bx k f fd ps sp)(hr:cZ k X.A.in1)(B:Binds X.K fd ps [])(M:aO X Za σ H s)(rv:Vals xs its)(lk:xs.length=ks.length)(lst:∀s g,aO X Za σ g s->aJ H g->s.heap.IsList l its.toArray)(KY:∀(i:Nat) x k S (Q':VK),xs[i]?=Ya x->ks[i]?=Ya k->aJ H S->(∀C t,aJ S C->bJ X.K C t (k.map V.int)->Q' (.ref t) C)->sp [x] S Q' E0)(hD:xs=[]->∀s',aO X Za σ H s'->Q d s')(hR:∀(i:Nat) v T s' g,its[i]?=Ya v->ks[i]?=Ya T->(∀(j':Nat) D,ks[j']?=Ya D->HT.eJ D T=false/\(j'<i->HT.eJ T D=true))->aO X Za σ g s'->aJ H g->Q v s'):
  Ys (Yv X.prog X.w) X.A (call (.builtin "min") [.ref l] [(aaa "key",.ref f),(aaa "default",d)]) Q E s:=by
 have lx:=rv.length;have fp:∀x g,x=s.heap.objs.size∨x=s.heap.objs.size+ 1->g x=Yb->t8 X Za g x:=λx g w n=>M.fpOk (by rcases w with rfl|rfl<;>omega) n;refine GX.Ar GX.Bj GX.EF afw afx (ko:=Ya (.ref f)) (d:=Ya d) (vs:=its) hh rfl (T4 _ _ _) (lst s H M (.refl _)) (bt:=λi j=>HT.eJ (ks.getD i []) (ks.getD j []))
  (G:=λL s'=>∃g,aO X Za σ g s'/\(aJ H g/\(L=[]->g=H))/\(∀x,x=s.heap.objs.size∨x=s.heap.objs.size+ 1->g x=Yb)/\∀p∈L,∃t k,p.2=.ref t/\ks[p.1]?=Ya k/\bJ X.K g t (k.map V.int))
  ⟨λi=>Hq _,λi j=>Fp,λa b c=>HK,?_,?_,?_,?_,?_,?_⟩ ?_ ?_ ?_
 ·exact λp q L s' ⟨g,a,b,c,e⟩=>⟨g,a,⟨b.1,λz=>nomatch z⟩,c,λq U=>e q (Yo _ U)⟩
 ·exact λp L s' ⟨g,a,b,c,e⟩=>⟨g,a,⟨b.1,λz=>nomatch z⟩,c,λq U=>e q (Yi.mp U▸Yu)⟩
 ·rintro x L s' h tk w ⟨g,a,b,c,e⟩ kp;obtain⟨f0,f1,f2,f3,f4,f5⟩:=fp x g w (c x w);exact⟨g,a.turned (it:=x) kp f0 f1 f3 f4 f5,b,c,e⟩
 ·exact λL s' ⟨g,a,b,_⟩=>lst s' g a b.1
 ·rintro L s' j v a c m ⟨g,I,⟨N,_⟩,nn,J⟩ O hS hI;obtain⟨oI,gI,cI,dI⟩:=id hI;have w:j<xs.length:=by have:=(Yh.mp O).1;omega
  obtain⟨v',W,rx⟩:=rv.get (Yk w);cases O.symm.trans W;have hk:ks[j]?=Ya (ks[j]'(lk▸w)):=Yk _;have Y:∀b∈[s.heap.objs.size+ 1,s.heap.objs.size],b=s.heap.objs.size∨b=s.heap.objs.size+ 1:=λb B=>by simp at B;exact B.symm
  have IP:=I.pinned (fp:=[s.heap.objs.size+ 1,s.heap.objs.size]) (λb B=>fp b g (Y b B) (nn b (Y b B))) λb B=>by
   rcases Y b B with rfl|rfl
   ·exact⟨oI,gI,λz e=>by rw[dI]at e;cases e⟩
   ·exact⟨_,hS,λz e=>nomatch e⟩
  refine oh (sW (X:=X.one) (vs:=[xs[j]]) (us:=[v]) (Q:=λz C=>∃t,z=.ref t/\aJ g C/\bJ X.K C t ((ks[j]'(lk▸w)).map V.int)) (E:=E0) (Zl:=[]) (ds:=[]) F hr B .nil (λ_ _ _ _ _ _ _ q=>q.elim) IP.one (.cons rx .nil) (by
   rw[Y1];exact KY j _ _ g _ (Yk w) hk N λC t P h4=>⟨t,rfl,P,h4⟩)) ?_ λ_ _ q=>q.elim
  rintro u s2 ⟨z,C,R,rz,t,rfl,P,ht⟩;cases rz;have R:=aO.back M.ok R;have at_:∀b o,b∈[s.heap.objs.size+ 1,s.heap.objs.size]->s'.heap.get? b=Ya o->s2.heap.get? b=Ya o/\C b=none:=λb o B e=>
   let r:=R.pin (b,o) (YK _ (YK _ (hX B e)))
   ⟨r.1,r.2.1⟩
  have aS:=at_ _ _ (by simp) hS;have aI:=at_ _ _ (by simp) gI;refine⟨⟨C,R.unpinned,⟨N.trans P,λz=>nomatch z⟩,λx w=>?_,λp hp=>?_⟩,aS.1,oI,aI.1,cI,dI⟩
  ·rcases w with rfl|rfl
   ·exact aI.2
   ·exact aS.2
  ·rcases Ym.mp hp with rfl|hp
   ·exact⟨t,_,rfl,hk,ht⟩
   ·obtain⟨t',D,K,Z,e3⟩:=J p hp;exact⟨t',D,K,Z,VN.same P _ _ e3⟩
 ·rintro i j y y' s' ⟨g,I,_,nn,J⟩;obtain⟨t1,k1,rfl,K,h1⟩:=J (j,y) (by simp);obtain⟨t2,k2,rfl,Z,h2⟩:=J (i,y') (by simp);obtain⟨ia,ra,pa,_⟩:=I.tuple h1;obtain⟨ib,rb,pb,_⟩:=I.tuple h2;refine HT.Gs (A:=X.A.in1) pa pb (jH ra) (jH rb) (by show X.A.units+ 1<aax;omega) ⟨?_,rfl⟩;simp[YM,K,Z]
 ·exact λh kp=>⟨H,M.kept (t':=s.toks) kp,⟨.refl _,λ_=>rfl⟩,λx w=>M.hok.fresh (by rcases w with rfl|rfl<;>omega),by simp⟩
 ·exact λe=>⟨d,rfl,λs' ⟨g,a,b,_⟩=>hD (aav (by rw[lx,e];rfl)) s' (b.2 rfl▸a)⟩
 ·rintro i v y s' O ft ⟨g,I,⟨N,_⟩,nn,J⟩;obtain⟨t,D,_,K,_⟩:=J (i,y) (by simp);refine hR i v D s' g O K (λj k2 hj=>?_) I N;have b:=ft j (by have:=(Yh.mp hj).1;omega);simpa [YM,K,hj]using b
end
theorem cZ.one(r:cZ (k+ 1) A):cZ k A.in1:=⟨r.hd,by have:=r.dp;show A.depth+ 3*k+ 5<ad4;omega,by have:=r.un;show A.units+ 1+ 16*k+ 200<aax;omega⟩
def UA(K:Yc)(sp:Sp)(x y:V)(b:Hp)(Q:VK):Prop:=∃(l:Ye) (a:List V) (c:List (List Int)),x=.ref l/\a9 K b l a/\a.length=c.length/\(∀x∈a,∃p,x=V.ref p)/\
 (∀(i:Nat) (x:V) (k:List Int) (d:Hp) (h:VK),a[i]?=Ya x->c[i]?=Ya k->aJ b d->(∀e t,aJ d e->bJ K e t (k.map V.int)->h (.ref t) e)->sp [x] d h E0)/\(a=[]->Q y b)/\
 ∀(i:Nat) (v:V) (f:List Int) (j:Hp),a[i]?=Ya v->c[i]?=Ya f->(∀(m:Nat) g,c[m]?=Ya g->HT.eJ g f=false/\(m<i->HT.eJ f g=true))->aJ b j->Q v j
def RE(K:Yc)(sp:Sp)(a td:TE):TE:=λσ H Q=>a σ H λx b=>td σ b λy c=>UA K sp x y c Q
theorem JF:∀{xs:List V} {a b:List Yd},Vals xs a->Vals xs b->(∀x∈xs,∃p,x=V.ref p)->a=b:=by
 intro xs a b w
 induction w generalizing b with
 |nil=>
  intro w _;cases w;rfl
 |cons r1 t1 ih=>
  intro w h;cases w with|cons r2 t2=>
  obtain⟨p,rfl⟩:=h _ Yu;rw[ih t2 λy c=>h y (Yo _ c)];cases r1;cases r2;rfl
section
theorem Jr{K:Yc}{e dflt:cb}{p U pos V W:abz}{d:Yp}(Y:X.K=K)(Z:X.calm=true)(hu:X.A.units+ 2<aax)(ha:PA X [e] (zu te CQ))(hd:PE X dflt td)(hg:Gl X "min")(hm:X.mg "min"=Yb)(G:aH X.prog X.w X.K X.mg X.base bx k f fd ps sp)(n:X.mg d=Ya (.ref f))(o:Binds X.K fd ps [])(r:Gl X d)(hr:cZ (k+ 1) X.A)(t:(d==("__debug__":Yp))=false:=by decide)(h1:aad pos (YW [e] X.env)=(false,lr e X.env)::aad pos (YW [] X.env):=by rfl)(h2:(aad pos (YW [e] X.env)).any (·.1)=false:=by rfl):
  PE X (.Call (.Name "min" p) [e] [⟨Ya "key",.Name d U,V⟩,⟨Ya "default",dflt,W⟩] pos) (RE K sp te td):=by
 subst Y;intro M s σ H Q I h;refine aaR (qe I hg hm acB ?_);refine adV ?_ h1 h2;refine cL (ha pos M s σ H (λg z=>match g with|[x]=>td σ z λy j=>UA X.K sp x y j Q|_=>False) I h) λus s1 A=>?_;obtain⟨g,z,N,r1,O⟩:=A;obtain⟨x,rfl⟩:∃x,g=[x]:=by
  match g,O with
  |[x],_=>exact⟨x,rfl⟩
 obtain⟨u,rfl,rx⟩:=fG r1;refine adE (nP N r n ?_ t);refine adE (cL (hd M s1 σ z _ N O) λw s2 A=>?_);obtain⟨y,j,B,ry,l,P,ks,ex,hl,lk,C,KY,q0,q⟩:=A;subst ex;cases rx;refine af8 ?_;obtain⟨ab,m,pl,hz⟩:=B.list hl;have lx:=m.length;show Ys _ _ (call (.builtin "min") [YH l] [(aaa "key",.ref f),(aaa "default",w)]) _ _ _;refine Uo (H:=j) w (B.ok.hd Z) hu G (cZ.one hr) o B m lk (λs' D a E=>?_) KY (λe s' a=>⟨y,j,a,ry,q0 e⟩) (λi v kb s' D R F b a E=>?_)
 ·obtain⟨S,J,L,_⟩:=a.list (E.seq hl);rw[JF m J C];exact L.isList
 ·have T:i<P.length:=by rw[lx];exact(Yh.mp R).1
  obtain⟨u',c,ru⟩:=m.get (Yk T);rw[R]at c;cases c;exact⟨P[i],D,a,ru,q i _ kb D (Yk T) F b E⟩
end
theorem S1{K:Yc}{Q:VK}(h:te σ H λx a=>td σ a λy b=>UA K sp x y b Q):RE K sp te td σ H Q:=h
section
theorem Bv{a:List (Yp×Yd)}(hl:s.heap.IsList l vs.toArray)(h64:vs.length<64)(i:abX "sorted" ⟨[.ref l],a⟩)(j:∀D,abX "list.sort" ⟨[D],a⟩)(h:∀h1:YV,GX.rW s.heap h1->h1.get? (s.heap.objs.size+ 1)=Ya (seqObj "list" vs.toArray 0)->Ys (Yv prog w) A.in1.in1 (GV.«list.sort» ⟨[.ref (s.heap.objs.size+ 1)],a⟩) (λf d=>f=.done (.ret .none)/\Q (.ref (s.heap.objs.size+ 1)) d) E {s with heap:=h1}):
  Ys (Yv prog w) A (call (.builtin "sorted") [.ref l] a) Q E s:=by
 have z:vs.length<=YB:=by rw[aaB];omega
 refine GX.wg i (collect_list hl (Yg (agg ?_ z)) z);have g:GX.rW s.heap ((s.heap.push (seqObj "list" #[] 0)).update s.heap.objs.size (aaz (·++vs.toArray))):=λb o q=>(xp _ _ (abJ (Yz q))).trans (Yj _ q);have sz:((s.heap.push (seqObj "list" #[] 0)).update s.heap.objs.size (aaz (·++vs.toArray))).objs.size=s.heap.objs.size+ 1:=(Heap.size_after_update ..).trans (aaV ..);generalize (s.heap.push (seqObj "list" #[] 0)).update s.heap.objs.size (aaz (·++vs.toArray))=h0 at g sz⊢;have c:(h0.push (seqObj "list" vs.toArray 0)).get? (s.heap.objs.size+ 1)=Ya (seqObj "list" vs.toArray 0):=agR sz.symm rfl;have:=h _ (λb o q=>Yj _ (g b o q)) c;show Ys _ _ (acu [.ref h0.objs.size] (call (.builtin "list.sort") [.ref h0.objs.size] a) >>= λ_=>ret (.ref h0.objs.size)) _ _ {s with heap:=h0.push (seqObj "list" vs.toArray 0)};rw[sz];refine Yg (aaI (wpAny_call_entry_kw ahZ ⟨_,c,rfl⟩ ahH (oh this (λf d q=>?_) λ_ _ e=>e) (j _)));exact⟨_,q.1,Yt ⟨_,rfl,q.2⟩⟩
theorem IE{k:Array Yd->Nat->Yd->aex adY}(ho:s.heap.get? a=Ya (seqObj "list" vs.toArray n))(h64:vs.length<64)(h:∀(h2:YV) (e:Nat),(∀b o,b≠a->s.heap.get? b=Ya o->h2.get? b=Ya o)->h2.get? a=Ya (seqObj "list" #[] e)->Ys (Yv prog w) A (k vs.toArray e (.ref h2.objs.size)) P E {s with heap:=h2.push (seqObj "list" #[] 0)}):
  Ys (Yv prog w) A (aiM (.ref a) >>= λits=>afe (.ref a) (λ_=>#[]) >>= λ_=>seqEpoch a >>= λe=>newTuple its.toList >>= λt=>agG [] >>= λks=>acu [t,ks] (k its e ks)) P E s:=by
 have z:vs.toArray.size<=YB:=by rw[YC,aaB];omega
 obtain⟨e,c⟩:∃e,(s.heap.update a (aaz λ_=>(#[]:Array Yd))).get? a=Ya (seqObj "list" #[] e):=⟨_,ahL ho λ_=>#[]⟩;refine Yg (aiz ho rfl (Yg (aeu ho rfl (Yg (seqEpoch_at c rfl (Yg (afM (Yg (agg (aaI (h _ e (λb o d q=>?_) (Yj _ c))) (cT _))) ?_)))) z (cT _))))
 ·exact Yj _ ((xp _ _ (Ne.symm d)).trans q)
 ·simpa using z
theorem yE{e:Nat}{out:Array Yd}{tl:Nat->aex adY}(ho:s.heap.get? a=Ya (seqObj "list" #[] e))(hz:out.size<=YB)(h:∀(h1:YV) (c:Nat),(∀b o,b≠a->s.heap.get? b=Ya o->h1.get? b=Ya o)->h1.get? a=Ya (seqObj "list" out c)->Ys (Yv prog w) A (tl e) P E {s with heap:=h1}):
  Ys (Yv prog w) A (seqEpoch a >>= λx=>afe (.ref a) (λ_=>out) >>= λ_=>tl x) P E s:=
 Yg (seqEpoch_at ho rfl (Yg (aeu ho rfl (h _ _ (λb o d q=>(xp _ _ (Ne.symm d)).trans q) (ahL ho λ_=>out)) (cT _) (acr hz))))
end
def Lv{α:Type}(n:Nat)(P:α->Prop):aa9 α->Prop
 | .ret a=>P a
 | .ask i j k=>i<n/\j<n/\∀b,Lv n P (k b)
theorem qZ{α β:Type}{n:Nat}{P:α->Prop}{c:β->Prop}{f:α->aa9 β}(d:∀a,P a->Lv n c (f a)):∀t:aa9 α,Lv n P t->Lv n c (t.bind f)
 | .ret a,h=>d a h
 | .ask i j k,h=>⟨h.1,h.2.1,λb=>qZ d (k b) (h.2.2 b)⟩
def jr(n:Nat)(p:Array Nat):Prop:=p.toList.Perm (Y8 n)
theorem dg(h:jr n p)(hn:0<n)(i:Nat):p.getD i 0<n:=by
 by_cases z:i<p.size
 ·have e:p.getD i 0=p[i]:=by simp[ai0,z]
  rw[e];have:p[i]∈p.toList:=Array.getElem_mem_toList z;exact aak.mp (h.mem_iff.mp this)
 ·have e:p.getD i 0=0:=by simp[ai0,z]
  rw[e];exact hn
theorem lR(h:jr n p)(i j:Nat):jr n (abr p i j):=(aev.mp (mirror_perm p i j _)).trans h
theorem NI(h:jr n p)(i j:Nat):jr n (bubble p i j):=(aev.mp (bubble_perm p i j)).trans h
section
variable(hn:0<n)
include hn
theorem GW{p:Array Nat}(h:jr n p):∀f m:Nat,Lv n (λ_=>True) (ahM p f m)
 |0,m=>trivial
 |f+ 1,m=>by
  refine⟨dg h hn _,dg h hn _,λb=>?_⟩;cases b
  ·exact GW h f (m+ 1)
  ·exact trivial
theorem x9:∀(f:Nat) {p:Array Nat} (m q:Nat),jr n p->Lv n (λr=>jr n r.1) (ahe f p m q)
 |0,p,m,q,h=>h
 |f+ 1,p,m,q,h=>by
  refine⟨dg h hn _,dg h hn _,λb=>?_⟩;cases b
  ·refine⟨dg h hn _,dg h hn _,λd=>?_⟩;cases d
   ·exact x9 f (m+ 1) (q+ 1) h
   ·exact h
  ·show Lv n _ (if q>0 then _ else _);by_cases z:q>0
   ·rw[if_pos z];exact x9 f (m+ 1) 0 (lR h _ _)
   ·rw[if_neg z];exact x9 f (m+ 1) 0 h
theorem DP(h:jr n p)(m r:Nat):Lv n (λr=>jr n r.2) (agV m r p):=by
 refine qZ (P:=λ_=>True) (λa _=>?_) _ (GW hn (lR h _ _) _ _);exact lR h _ _
theorem wt(h:jr n p)(m r:Nat):Lv n (λr=>jr n r.2) (af9 m r p):=by
 refine qZ (P:=λr=>jr n r.1) (λa ha=>?_) _ (x9 hn _ _ _ h);by_cases z:a.2.2>0
 ·rw[if_pos z];exact DP hn (lR ha _ _) _ _
 ·rw[if_neg z];exact DP hn ha _ _
theorem ML(h:jr n p)(r:Nat):Lv n (λr=>jr n r.2) (agW r p):=by
 refine qZ (P:=λ_=>True) (λa _=>?_) _ (GW hn h _ _);by_cases z:(a==r)=true
 ·rw[if_pos z];exact h
 ·rw[if_neg z];by_cases y:a>1
  ·rw[if_pos y];refine⟨dg h hn _,dg h hn _,λb=>?_⟩;cases b
   ·exact wt hn (lR h _ _) _ _
   ·exact h
  ·rw[if_neg y];exact wt hn h _ _
theorem zo{p:Array Nat}(h:jr n p)(k:Nat):∀f l r:Nat,Lv n (λ_=>True) (agX p k f l r)
 |0,l,r=>trivial
 |f+ 1,l,r=>by
  show Lv n _ (if l≥r then _ else _);by_cases z:l≥r
  ·rw[if_pos z];exact trivial
  ·rw[if_neg z];refine⟨dg h hn _,dg h hn _,λb=>?_⟩;cases b
   ·exact zo h k f _ _
   ·exact zo h k f _ _
theorem Mp:∀(f:Nat) {p:Array Nat} (k:Nat),jr n p->Lv n (jr n) (ahN f p k)
 |0,p,k,h=>h
 |f+ 1,p,k,h=>qZ (P:=λ_=>True) (λa _=>Mp f (k+ 1) (NI h _ _)) _ (zo hn h k _ _ _)
theorem Rh:Lv n (jr n) (ae5 n):=by
 refine qZ (P:=λr=>jr n r.2) (λa ha=>?_) _ (ML hn (adg _) n);by_cases z:a.1<n
 ·rw[if_pos z];exact Mp hn _ _ ha
 ·rw[if_neg z];exact ha
end
theorem Oe(h:jr vs.length p):(p.toList.map λi=>vs.getD i aaf).Perm vs:=by
 have e:(Y8 vs.length).map (λi=>vs.getD i aaf)=vs:=by
  refine aeZ (by simp) λi h1 h2=>?_;simp at h1⊢;simp[h1]
 have:=h.map λi=>vs.getD i aaf;rw[e]at this;exact this
section
def XS(h:YV)(v:Yd):Prop:=∃a o b n f ns,v=.ref a/\h.get? a=Ya o/\o.cls=.type "tuple"/\o.data=.seq b n/\xy b.toList (f::ns)
theorem El{h:YV}:∀{vs:List Yd},(∀v∈vs,XS h v)->∃fs:List Yd,ahO h vs fs/\(∀v∈fs,∃n t,v=abe n t)/\fs.length=vs.length
 |[],_=>⟨[],PySem.W.KatTups.nil,by simp,rfl⟩
 |v::vs,hv=>by
  obtain⟨fs,h1,h2,h3⟩:=El (vs:=vs) λv b=>hv v (Yo _ b);obtain⟨a,o,c,n,f,ns,rfl,e,g,i,d⟩:=hv v Yu;obtain⟨w,hw,tk,j⟩:∃w,c[0]?=Ya w/\∃tk,w=abe f tk:=by
   rw[←sq];generalize c.toList=l at d⊢;cases d with
   |cons _ t r=>exact⟨_,rfl,_,rfl⟩
  refine⟨w::fs,PySem.W.KatTups.cons e g i hw h1,λu hu=>?_,by rw[gm,gm,h3]⟩;rcases Ym.mp hu with z|z
  ·rw[z,j];exact⟨_,_,rfl⟩
  ·exact h2 u z
end
section
end
section
variable{H0:Hp}{h':YV}
theorem aO.adopt{it:Ye}{o:HO}{t':Nat}(I:aO X Za σ H s)(k:∀b o,b≠it->s.heap.get? b=Ya o->h'.get? b=Ya o)(h:t8 X Za H it)
  (new:cD X.prog X.w (upd H it o) h' it o):aO X Za σ (upd H it o) {s with heap:=h',toks:=t'}:=by
 obtain⟨i,g,y,j,l,p⟩:=h;have a:∀b u,H b=Ya u->b≠it:=λb u e z=>by rw[z,i]at e;cases e
 refine I.step (g':=s.gens) (d':=s.drawn) (ch:=[it]) (λb f=>?_) (λb o _ _ d e _=>k b o (λz=>d (by simp[z])) e) (λb o _ _ d e _=>⟨o.slots,k b o (λz=>d (by simp[z])) e⟩) (λb ob d e n=>by rw[ak (λz=>d (by simp[z]))];exact n)
  (λb o d e=>⟨o,k b o (λz=>d (by simp[z])) e⟩) (λb t e=>by rw[ak (a b _ e)];exact e) (λb o u e=>by rw[ak (a b _ e)];exact e) (λb ps e=>⟨#[],by rw[ak (a b _ e),e];simp⟩) (λm hm=>?_) (λb u e=>?_) I.bare
 ·have e:b=it:=by simpa using f
  subst e;exact⟨j,g,l,p⟩
 ·obtain⟨ob,w,x,ho,r⟩:=hm;exact⟨ob,w,x,k _ ob (Ne.symm g) ho,r⟩
 ·by_cases f:b=it
  ·subst f;rw[af]at e;cases e;exact new
  ·rw[ak f]at e;refine(I.hok b u e).stay (λc v d q=>k c v ?_ q) (λc q=>by rw[ak (a c _ q)];exact q) λc t q=>by rw[ak (a c _ q)];exact q
   rcases d with z|z
   ·rw[z];exact a b u e
   ·exact a c _ z
end
theorem cZ.two(r:cZ (k+ 1) A):cZ k A.in1.in1:=⟨r.hd,by have:=r.dp;show A.depth+ 3*k+ 5<ad4;omega,by have:=r.un;show A.units+ 1+ 1+ 16*k+ 200<aax;omega⟩
theorem MT{x:V}{v:Yd}:Vals xs its->RelV x v->Vals (xs++[x]) (its++[v]):=λh r=>h.append (.cons r .nil)
section
variable{D:Ye}
end
section
end
section
end
section
end
section
variable{K:Yc}
end
end L2
namespace GX
open PySem PySem.Spec PyProof.Rows
variable{prog:Y0}{w:Y7}{A:uc}{s:Yn}{E:Yd->Yn->Prop}{it d:Ye}{h:YV}{es:Array xi}{ep i:Nat}{Q:Option Yd->Yn->Prop}
section
variable{l:Ye}
end
noncomputable abbrev kI(es:Array xi)(ep:Nat):pe:={cls:=.type "dict",data:=.dict es ep}
noncomputable abbrev GH(d:Ye)(i n ep:Nat):pe:={cls:=.type "dict_valueiterator",data:=.fields #[.ref d,.int i 0,.int n 0,.int ep 0]}
theorem Ls(it d:Ye)(i ep:Nat)(es:Array xi)(e:xi)(a:es[i]?=Ya e):
  acp (GV.«dict_valueiterator.__next__» ⟨[.ref it],[]⟩) (λ_ R s=>s.heap.get? it=Ya (GH d i es.size ep)/\s.heap.get? d=Ya (kI es ep)/\
   ∀g,g.get? it=Ya (GH d (i+ 1) es.size ep)->aan it s.heap g->R (.ok (.ret e.val)) {s with heap:=g}):=
 .of_wp λprog w A R s ⟨h1,h2,q⟩=>by
  obtain⟨h,g,b,tk,os⟩:=s;have c:BD {heap:=h,gens:=g,drawn:=b,toks:=tk,os:=os} (.ref it) "dict_valueiterator":=⟨_,h1,rfl⟩
  wp_walk
  rw[if_neg (by omega),YO,a]
  wp_walk
  have ow:aaX ((Manifest.find? "dict_valueiterator").elim "dict_valueiterator" λx=>x.tpName)=false:=by decide +kernel
  refine⟨_,rfl,q _ ?_ (aaq ..)⟩;rw[aar _ h1 rfl,ow];simp[adv,aaY];intro x a hm;exfalso
  revert x a hm
  decide +kernel
theorem Pp(d:Ye)(es:Array xi)(ep:Nat)(hd:(d==aag)=false):
  acp (GV.«dict.values» ⟨[.ref d],[]⟩) (λ_ R s=>s.heap.get? d=Ya (kI es ep)/\R (.ok (.ret (.ref s.heap.objs.size))) {s with heap:=s.heap.push {cls:=.type "dict_values",data:=.fields #[.ref d]}}):=
 .of_wp λprog w A R s ⟨h1,q⟩=>by
  obtain⟨h,g,a,tk,os⟩:=s;have b:BD {heap:=h,gens:=g,drawn:=a,toks:=tk,os:=os} (.ref d) "dict":=⟨_,h1,rfl⟩
  wp_walk
  exact⟨_,rfl,q⟩
theorem OO(it d:Ye)(i ep:Nat)(es:Array xi)(a:es.size<=i):
  acp (GV.«dict_valueiterator.__next__» ⟨[.ref it],[]⟩) (λA R s=>A.handled=Yb/\s.heap.get? it=Ya (GH d i es.size ep)/\s.heap.get? d=Ya (kI es ep)/\
   ∀g e,adq it s.heap g->BD {s with heap:=g} (.ref e) "StopIteration"->R (.error (.ref e)) {s with heap:=g}):=
 .of_wp λprog w A R s ⟨h0,h1,h2,q⟩=>by
  obtain⟨h,g,c,tk,os⟩:=s;have k:BD {heap:=h,gens:=g,drawn:=c,toks:=tk,os:=os} (.ref it) "dict_valueiterator":=⟨_,h1,rfl⟩;have f:A.in1.handled=none:=h0
  wp_walk
  rw[if_neg (by omega),YO,aaN a]
  wp_walk
  simp only[ahd]
  wp_walk
  exact q _ _ (λb o j e=>Yj _ (Yj _ (((aaq ..).2 b j).trans e))) ⟨_,Yx _ rfl,rfl⟩
theorem Kp(v d:Ye)(ep:Nat)(es:Array xi)(dd:Option Ye)(a:Array (Option Yd)):
  acp (GV.«dict_values.__iter__» ⟨[.ref v],[]⟩) (λA R s=>s.heap.get? v=Ya {cls:=.type "dict_values",dict:=dd,data:=.fields #[.ref d],slots:=a}/\s.heap.get? d=Ya (kI es ep)/\
   R (.ok (.ret (.ref s.heap.objs.size))) {s with heap:=s.heap.push (GH d 0 es.size ep)}):=
 .of_wp λprog w A R s ⟨h1,h2,q⟩=>by
  obtain⟨h,g,b,tk,os⟩:=s;have c:BD {heap:=h,gens:=g,drawn:=b,toks:=tk,os:=os} (.ref v) "dict_values":=⟨_,h1,rfl⟩
  wp_walk
  have ow:aaX "dict_valueiterator"=false:=by decide +kernel
  rw[ow];exact⟨_,rfl,q⟩
def hV(h:YV)(d:Ye)(es:Array xi)(ep:Nat):Prop:=h.get? d=Ya (kI es ep)
def zy(h:YV)(it d:Ye)(i n ep:Nat):Prop:=h.get? it=Ya (GH d i n ep)
theorem hV.of{o:pe}(e:h.get? d=Ya o)(x:o.ExactDict)(dt:o.data=.dict es ep):hV h d es ep:=by
 obtain⟨c,b,a,f⟩:=o;obtain⟨rfl,rfl,rfl⟩:=x;cases dt;exact e
theorem hV.at{g:YV}(x:hV h d es ep)(k:∀o,h.get? d=Ya o->g.get? d=Ya o):hV g d es ep:=k _ x
theorem hV.lt(x:hV h d es ep):d<h.objs.size:=Yz x
theorem zy.is{n:Nat}(x:zy h it d i n ep):h.IsValIter it d i n ep:=⟨_,x,rfl,rfl⟩
section
variable{v:Ye}
theorem F1{Q:Yd->Yn->Prop}(a:(d==aag)=false)(rd:hV s.heap d es ep)
  (q:Q (.ref s.heap.objs.size) {s with heap:=s.heap.push {cls:=.type "dict_values",data:=.fields #[.ref d]}}):Ys (Yv prog w) A (call (.builtin "dict.values") [.ref d]) Q E s:=
 adf F.slot_dict_values ⟨_,rd,rfl⟩ F.entry_dict_values (F.args_dict_values_1 _) (Pp d es ep a) ⟨rd,q⟩
theorem K8{Q:Yd->Yn->Prop}(a:s.heap.IsValuesView v d)(rd:hV s.heap d es ep)
  (q:Q (.ref s.heap.objs.size) {s with heap:=s.heap.push (GH d 0 es.size ep)}):Ys (Yv prog w) A (adm (.ref v)) Q E s:=by
 obtain⟨⟨c,b,f,g⟩,e,rfl,rfl⟩:=id a;apply acq a.typeIs F.slot_dict_values_iter;apply adf F.slot_dict_values_iter a.typeIs F.entry_dict_values_iter (F.args_dict_values_iter_1 _) (Kp v d ep es b g);exact⟨e,rd,"dict_valueiterator",_,⟨_,Yx _ rfl,rfl⟩,F.slot_dict_valueiterator_next.lookup,q⟩
theorem NG{R:acv->Yn->Prop}{S:uc->(acv->Yn->Prop)->Yn->Prop}(a:s.TypeIs (.ref it) "dict_valueiterator")(m:acp (GV.«dict_valueiterator.__next__» ⟨[.ref it],[]⟩) S)(h:S A R s):
  Gr (Yv prog w) A (.call (.builtin "dict_valueiterator.__next__") ⟨[.ref it],[]⟩) R s:=
 aaW F.slot_dict_valueiterator_next.plain F.entry_dict_valueiterator_next (F.slot_dict_valueiterator_next.check _ _ _ _ _ _ _ _ a (F.args_dict_valueiterator_next_1 _) (m prog w A R s h))
theorem LB{e:xi}(c:zy s.heap it d i es.size ep)(rd:hV s.heap d es ep)(f:es[i]?=Ya e)(h:∀g,zy g it d (i+ 1) es.size ep->aan it s.heap g->Q (Ya e.val) {s with heap:=g}):Ys (Yv prog w) A (aaA (.ref it)) Q E s:=by
 have j:s.TypeIs (.ref it) "dict_valueiterator":=⟨_,c,rfl⟩;have k:=F.slot_dict_valueiterator_next.lookup;have l:=F.slot_dict_valueiterator_next.bind (.ref it);unfold aaA
 repeat' first|assumption|wp_step
 exact NG j (Ls it d i ep es e f) ⟨c,rd,λg a b=>Yt (Yt (h g a b))⟩
theorem Qg(f:A.handled=Yb)(c:zy s.heap it d i es.size ep)(rd:hV s.heap d es ep)(h:es.size<=i)(fin:∀g,adq it s.heap g->Q Yb {s with heap:=g}):Ys (Yv prog w) A (aaA (.ref it)) Q E s:=by
 have j:s.TypeIs (.ref it) "dict_valueiterator":=⟨_,c,rfl⟩;have l:=F.slot_dict_valueiterator_next.lookup;have m:=F.slot_dict_valueiterator_next.bind (.ref it);have k:aid (.type "StopIteration") (.type "StopIteration")=pure true:=by rw[acz];kernel_rfl
 unfold aaA
 repeat' first|assumption|wp_step
 refine NG j (OO it d i ep es h) ⟨f,c,rd,λg e a b=>?_⟩;have n:=fin g a
 repeat' first|assumption|wp_step
end
theorem Ks(l:A.handled=Yb)(nd:d≠it):
  afi prog w A it [it,d] [it] es.size (λi x=>∃y:xi,es[i]?=Ya y/\x=y.val) (λi h=>zy h it d i es.size ep/\hV h d es ep):=by
 constructor
 case sub=>intro b f;simp at f;simp[f]
 case frame=>exact λi h g x k=>⟨k it (by simp) _ x.1,k d (by simp) _ x.2⟩
 case self=>exact λi s Q E x q=>af7 x.1.is q
 case done=>exact λs Q E x q=>Qg l x.1 x.2 (Yl _) λg k=>q g s.toks λb o c e=>k b o (by simpa using c) e
 case item=>
  intro i s Q E j x q;exact LB x.1 x.2 (YR j) λg a k=>q _ g s.toks ⟨_,YR j,rfl⟩ ⟨a,(k.2 d nd).trans x.2⟩ λb o c e=>(k.2 b (by simpa using c)).trans e
section
variable{K:Type}[DecidableEq K]{knd:HeapKind prog w K}{a:Ye}{xs:List (K×Ye×Yd)}{k:K}{j:Nat}{p:Ye×Yd}
end
end GX
namespace L2
open PySem PySem.Spec PyProof.Rows
variable{X:Cx}{P:Y0}{w:Y7}{d D f a C:Ye}{H H':Hp}{h h' base B:YV}{kvs:List (List bR×V)}{n k m:Nat}{b:Nat->Nat->Bool}{s s':Yn}{p:Array Nat}{xs vs Zy:List V}{its us:List Yd}{ks:List (List Int)}{A:uc}{E:Yd->Yn->Prop}{Q:Bool->Yn->Prop}{Za:List (Ye×pe)}{σ:St}{fd:YE}{ps N:List Yp}{sp:Sp}{e:cb}{te:TE}{pos:abz}{t:TS}{CX:MN}{mg:Yp->Option Yd}{Zb:Yp}{scope:acb}{cd:Yd}{cl:List (Yp×Ye)}{outer:List ack}{ix:List Nat}{Zc:String}
section
variable{tg:cb}
end
theorem SQ{r:Ye}{es:Array xi}{ep:Nat}:
  PySem.W.KdlSrc P w "dict_values" r d es.size (λi x=>∃y:xi,es[i]?=Ya y/\x=y.val) (λh=>h.IsValuesView r d/\GX.hV h d es ep):=by
 constructor
 case iter=>
  intro A s a ⟨b,rd⟩;refine⟨GX.GH d 0 es.size ep,λi h=>GX.zy h s.heap.objs.size d i es.size ep/\GX.hV h d es ep,λE Q q=>GX.K8 b rd q,GX.Ks a (YN rd.lt),Yx _ rfl,rd.at λo e=>Yj _ e⟩
 case hint=>exact λA E s Q x q=>PySem.W.kdl_hint_values x.1.typeIs q
 case keep=>
  intro h g ⟨⟨o,e,c,dt⟩,rd⟩ k;exact⟨⟨o,k r (Or.inl rfl) o e,c,dt⟩,rd.at (k d (Or.inr rfl))⟩
 case there=>
  intro h ⟨⟨o,e,_⟩,rd⟩;exact And.intro (Yz e) rd.lt
 case type=>exact λs x=>x.1.typeIs
 case notList=>rfl
 case notTuple=>rfl
theorem LW(ok:mS P w H h)(e:Rd H d (.dT kvs)):
  (d==aag)=false/\∃(es:Array xi) (ep:Nat),GX.hV h d es ep/\es.size=kvs.length/\∀(i:Nat) (k:List bR) (v:V),kvs[i]?=Ya (k,v)->∃y:xi,es[i]?=Ya y/\RelV v y.val:=by
 obtain⟨_,b,j,a,o,es,ep,h1,h2,h3,h4,_⟩:=sr ok e;refine⟨b,es,ep,.of h1 h2 h3,?_,λi k v c=>?_⟩
 ·rw[←pk,h4,Yf];exact(Y2 a).symm
 ·obtain⟨q,f,_,_,g⟩:=cR a c;refine⟨afT (abf (bf P w)) q,?_,g⟩;rw[←sq,h4,Yy,f];rfl
section
theorem NK:Ww X "dict.values" (λx vs H Q=>∃d kvs,x=.ref d/\vs=[]/\H d=Ya (.dT kvs)/\∀v,H v=Yb->Q (.ref v) (upd H v (IF v d))):=by
 intro l s σ H x m v us Q I a c h;obtain⟨d,kvs,rfl,rfl,hd,q⟩:=h;cases a;cases c;obtain⟨f,n,p,rd,_⟩:=LW I.hok (.inl hd);refine GX.F1 f rd ?_;exact⟨.ref s.heap.objs.size,_,I.laid (o:=IF s.heap.objs.size d) (t':=s.toks) (λb ob e=>Yj _ e) (Yl _) ⟨⟨_,Yx _ rfl,rfl,rfl⟩,⟨_,Yx _ rfl⟩,λh1 h2 ⟨o,g,i,j⟩ k=>⟨o,k o g,i,j⟩⟩,rfl,q _ (I.hok.fresh (Yl _))⟩
theorem FJ(t:X.calm=true):dO X (.type "list") (λxs H Q=>∃(v d:Ye) (kvs:List (List bR×V)),xs=[.ref v]/\H v=Ya (IF v d)/\Rd H d (.dT kvs)/\kvs.length<=1000/\∀l,H l=Yb->Q (.ref l) (upd H l (.lst (kvs.map (·.2))))):=by
 intro G s σ H xs us Q I r h;obtain⟨v,d,kvs,rfl,w,hd,b,q⟩:=h;obtain⟨u,rfl,z⟩:=fG r;cases z;obtain⟨J,n,B,rd,sz,k⟩:=LW I.hok hd;have m:s.heap.IsValuesView v d:=(I.hok v _ w).1;refine ae3 (A:=X.A) (SQ (es:=n) (ep:=B)) (I.ok.hd t) ⟨m,rd⟩ (by rw[sz];exact xl (aF (by omega))) λK tk f c C D a=>?_;refine⟨.ref s.heap.objs.size,_,I.laid (o:=.lst (kvs.map (·.2))) (t':=tk) C (Yl _) ⟨by rw[Yf];exact xl (aF b),f.toList,c,zg ?_ λi x u g hu=>?_,D⟩,rfl,q _ (I.hok.fresh (Yl _))⟩
 ·have e:f.toList.length=n.size:=by rw[pk];exact a.1
  rw[Yf,e,sz]
 ·rw[sq]at hu;obtain⟨y,E,rfl⟩:=a.2 i u hu;rw[Yy]at g;cases e:kvs[i]? with
  |none=>rw[e]at g;cases g
  |some p=>
   rw[e]at g;cases g;obtain⟨L,j,F⟩:=k i p.1 p.2 e;rw[E]at j;cases j;exact F
end
section
end
section
end
def Lo{α:Type}(n:Nat)(b:Nat->Nat->Bool)(P:α->Prop):aa9 α->Prop
 | .ret a=>P a
 | .ask i j k=>i<n/\j<n/\Lo n b P (k (b i j))
theorem qU{α β:Type}{n:Nat}{b:Nat->Nat->Bool}{P:α->Prop}{c:β->Prop}{f:α->aa9 β}(d:∀a,P a->Lo n b c (f a)):∀t:aa9 α,Lo n b P t->Lo n b c (t.bind f)
 | .ret a,h=>d a h
 | .ask i j k,h=>⟨h.1,h.2.1,qU d (k (b i j)) h.2.2⟩
theorem Nu{α:Type}{n:Nat}{b:Nat->Nat->Bool}{P:α->Prop}{cmp:Nat->Nat->(Bool->Yn->Prop)->Yn->Prop}{G:α->Yn->Prop}{s:Yn}(c:∀i j C,i<n->j<n->C (b i j) s->cmp i j C s)(d:∀a,P a->G a s):∀t:aa9 α,Lo n b P t->t.kasWp cmp G s
 | .ret a,h=>d a h
 | .ask i j k,h=>c i j _ h.1 h.2.1 (Nu c d (k (b i j)) h.2.2)
theorem vz{α:Type}{n:Nat}{b:Nat->Nat->Bool}{P c:α->Prop}(hp:∀a,P a->c a):∀t:aa9 α,Lo n b P t->Lo n b c t
 | .ret a,h=>hp a h
 | .ask i j k,h=>⟨h.1,h.2.1,vz hp (k (b i j)) h.2.2⟩
theorem uI(h:jr n p):p.size=n:=by
 have:=h.length_eq;rw[Rw,pk]at this;exact this
theorem u7{i j:Nat}(a:j<=p.size)(k:Nat):(abr p i j).getD k 0=if i<=k/\k<j then p.getD (i+ j-1-k) 0 else p.getD k 0:=by
 rw[YT,YT,YT];unfold abr;rw[getElem?_mirror_all a];split<;>rfl
theorem HG{l:Nat}(hk:k<p.size)(hl:l<=k)(i:Nat):(bubble p k (k-l)).getD i 0=if i=l then p.getD k 0 else if l<i/\i<=k then p.getD (i-1) 0 else p.getD i 0:=by
 rw[YT,YT,YT,YT,getElem?_bubble hk _ (by omega),show k-(k-l)=l by omega];split
 ·rfl
 ·split<;>rfl
section
variable(ky:Nat->Int)
noncomputable abbrev bk(i j:Nat):Bool:=decide (ky i<ky j)
def Up(p:Array Nat)(m:Nat):Prop:=∀i j,i<=j->j<m->ky (p.getD i 0)<=ky (p.getD j 0)
def Dn(p:Array Nat)(m:Nat):Prop:=∀i j,i<=j->j<m->ky (p.getD j 0)<=ky (p.getD i 0)
variable{ky}(hn:0<n)
theorem UY(h1:1<=m)(h:Up ky p m)(e:ky (p.getD (m-1) 0)<=ky (p.getD m 0)):Up ky p (m+ 1):=λi j a b=>by
 by_cases z:j<m
 ·exact h i j a z
 ·obtain rfl:j=m:=by omega
  by_cases w:i=j
  ·rw[w];exact aat _
  ·exact aaK (h i (j-1) (by omega) (by omega)) e
theorem zB(h1:1<=m)(h:Dn ky p m)(e:ky (p.getD m 0)<=ky (p.getD (m-1) 0)):Dn ky p (m+ 1):=λi j a b=>by
 by_cases z:j<m
 ·exact h i j a z
 ·obtain rfl:j=m:=by omega
  by_cases w:i=j
  ·rw[w];exact aat _
  ·exact aaK e (h i (j-1) (by omega) (by omega))
include hn
theorem Hi{p:Array Nat}(h:jr n p):∀f m:Nat,1<=m->Up ky p m->Lo n (bk ky) (λr=>m<=r/\r<=m+ f/\Up ky p r/\(r<m+ f->ky (p.getD r 0)<ky (p.getD (r-1) 0))) (ahM p f m)
 |0,m,h1,u=>⟨Yl _,Yl _,u,λz=>absurd z (Y9 _)⟩
 |f+ 1,m,h1,u=>by
  refine⟨dg h hn _,dg h hn _,?_⟩;by_cases c:ky (p.getD m 0)<ky (p.getD (m-1) 0)
  ·rw[show bk ky (p.getD m 0) (p.getD (m-1) 0)=true from decide_eq_true c];exact⟨Yl _,by omega,u,λ_=>c⟩
  ·rw[show bk ky (p.getD m 0) (p.getD (m-1) 0)=false from decide_eq_false c];have:=Hi h f (m+ 1) (by omega) (UY h1 u (by omega));rw[show m+ 1+ f=m+ (f+ 1) by omega]at this;refine(vz ?_ _ this);exact λr a=>⟨by omega,a.2.1,a.2.2⟩
theorem yb:∀(f:Nat) {p:Array Nat} (m q:Nat),jr n p->m+ f<=n->1<=m->Dn ky p m->q+ 1<=m->(∀i,m-(q+ 1)<=i->i<m->ky (p.getD i 0)=ky (p.getD (m-1) 0))->
  Lo n (bk ky) (λr=>jr n r.1/\Dn ky r.1 r.2.1/\1<=r.2.1/\r.2.1<=m+ f/\r.2.2+ 1<=r.2.1/\∀i,r.2.1-(r.2.2+ 1)<=i->i<r.2.1->ky (r.1.getD i 0)=ky (r.1.getD (r.2.1-1) 0)) (ahe f p m q)
 |0,p,m,q,h,hm,h1,d,hq,e=>⟨h,d,h1,Yl _,hq,e⟩
 |f+ 1,p,m,q,h,hm,h1,d,hq,e=>by
  have hs:=uI h;refine⟨dg h hn _,dg h hn _,?_⟩;by_cases c:ky (p.getD m 0)<ky (p.getD (m-1) 0)
  ·rw[show bk ky (p.getD m 0) (p.getD (m-1) 0)=true from decide_eq_true c];show Lo n _ _ (if q>0 then _ else _);by_cases z:q>0
   ·rw[if_pos z];have u:∀k,ky ((abr p (m-(q+ 1)) m).getD k 0)=ky (p.getD k 0):=λk=>by
     rw[u7 (by omega)];split
     ·rename_i w;rw[e _ (by omega) (by omega),e k (by omega) (by omega)]
     ·rfl
    have:=yb f (p:=abr p (m-(q+ 1)) m) (m+ 1) 0 (lR h _ _) (by omega) (by omega) (zB h1 (λi j a b=>by rw[u,u];exact d i j a b) (by rw[u,u];omega)) (by omega) λi a b=>by
     obtain rfl:i=m:=by omega
     rfl
    refine vz (λr g=>?_) _ this;obtain⟨l,o,s,v,t⟩:=g;exact⟨l,o,s,by omega,t⟩
   ·rw[if_neg z];have:=yb f (p:=p) (m+ 1) 0 h (by omega) (by omega) (zB h1 d (by omega)) (by omega) λi a b=>by
     obtain rfl:i=m:=by omega
     rfl
    refine vz (λr g=>?_) _ this;obtain⟨l,o,s,v,t⟩:=g;exact⟨l,o,s,by omega,t⟩
  ·rw[show bk ky (p.getD m 0) (p.getD (m-1) 0)=false from decide_eq_false c];refine⟨dg h hn _,dg h hn _,?_⟩;by_cases x:ky (p.getD (m-1) 0)<ky (p.getD m 0)
   ·rw[show bk ky (p.getD (m-1) 0) (p.getD m 0)=true from decide_eq_true x];exact⟨h,d,h1,by show m<=m+ (f+ 1);omega,hq,e⟩
   ·rw[show bk ky (p.getD (m-1) 0) (p.getD m 0)=false from decide_eq_false x];have:=yb f (p:=p) (m+ 1) (q+ 1) h (by omega) (by omega) (zB h1 d (by omega)) (by omega) λi a b=>by
     rw[show m+ 1-1=m by omega];by_cases w:i=m
     ·rw[w]
     ·rw[e i (by omega) (by omega)];omega
    refine vz (λr g=>?_) _ this;obtain⟨l,o,s,v,t⟩:=g;exact⟨l,o,s,by omega,t⟩
abbrev XR(ky:Nat->Int)(n:Nat)(r:Nat×Array Nat):Prop:=jr n r.2/\Up ky r.2 r.1/\1<=r.1/\r.1<=n
theorem Dh(h:jr n p)(h1:1<=m)(hm:m<=n)(d:Dn ky p m):Lo n (bk ky) (XR ky n) (agV m n p):=by
 have hs:=uI h;have u:Up ky (abr p 0 m) m:=λi j b c=>by
  rw[u7 (by omega),u7 (by omega),if_pos ⟨by omega,by omega⟩,if_pos ⟨by omega,c⟩];exact d _ _ (by omega) (by omega)
 refine qU (λa ha=>?_) _ (Hi hn (lR h 0 m) (n-m) m h1 u);exact⟨lR h 0 m,ha.2.2.1,by have:=ha.1;omega,by have:=ha.2.1;omega⟩
theorem wH(h:jr n p)(h1:1<=m)(hm:m+ 1<=n)(d:Dn ky p (m+ 1)):Lo n (bk ky) (XR ky n) (af9 m n p):=by
 have hd:=yb hn (n-(m+ 1)) (m+ 1) 0 h (by omega) (by omega) d (by omega) λi a b=>by
  obtain rfl:i=m:=by omega
  rfl
 refine qU (λa ha=>?_) _ hd;obtain⟨c,f,g,r,s,l⟩:=ha;have hs:=uI c;by_cases z:a.2.2>0
 ·rw[if_pos z];refine Dh hn (lR c _ _) g (by omega) λi j e q=>?_;have o:∀k,ky ((abr a.1 (a.2.1-(a.2.2+ 1)) a.2.1).getD k 0)=ky (a.1.getD k 0):=λk=>by
   rw[u7 (by omega)];split
   ·rename_i w;rw[l _ (by omega) (by omega),l k (by omega) (by omega)]
   ·rfl
  rw[o,o];exact f i j e q
 ·rw[if_neg z];exact Dh hn c g (by omega) f
theorem K4(h:jr n p):Lo n (bk ky) (XR ky n) (agW n p):=by
 have hs:=uI h;refine qU (λa ha=>?_) _ (Hi hn h (n-1) 1 (Yl _) λi j a b=>by
  obtain rfl:i=j:=by omega
  exact aat _)
 obtain⟨d,s,e,q⟩:=ha;by_cases z:(a==n)=true
 ·rw[if_pos z];exact⟨h,e,d,by omega⟩
 ·rw[if_neg z];have z:a≠n:=λw=>z (by rw[w];exact beq_self_eq_true n);have c:=q (by omega);by_cases y:a>1
  ·rw[if_pos y];refine⟨dg h hn _,dg h hn _,?_⟩;by_cases m:ky (p.getD 0 0)<ky (p.getD (a-1) 0)
   ·rw[show bk ky (p.getD 0 0) (p.getD (a-1) 0)=true from decide_eq_true m];exact⟨h,e,d,by omega⟩
   ·rw[show bk ky (p.getD 0 0) (p.getD (a-1) 0)=false from decide_eq_false m];have f:∀k,k<a->ky (p.getD k 0)=ky (p.getD (a-1) 0):=λk r=>by
     have t:=e 0 k (by omega) r;have u:=e k (a-1) (by omega) (by omega);omega
    have g:∀k,ky ((abr p 0 a).getD k 0)=ky (p.getD k 0):=λk=>by
     rw[u7 (by omega)];split
     ·rename_i w;rw[f _ (by omega),f k (by omega)]
     ·rfl
    refine wH hn (lR h 0 a) d (by omega) (zB d (λi j l o=>?_) (by rw[g,g];omega));rw[g,g,f i (by omega),f j o];exact aat _
  ·rw[if_neg y];obtain rfl:a=1:=by omega
   refine wH hn h (Yl _) (by omega) (zB (Yl _) (λi j l o=>?_) (by omega));obtain rfl:i=j:=by omega
   exact aat _
theorem yD{p:Array Nat}(h:jr n p){k:Nat}(u:Up ky p k):∀f l r:Nat,l<=r->r<=k->r-l<=f->(∀i,i<l->ky (p.getD i 0)<=ky (p.getD k 0))->(∀i,r<=i->i<k->ky (p.getD k 0)<ky (p.getD i 0))->
  Lo n (bk ky) (λx=>x<=k/\(∀i,i<x->ky (p.getD i 0)<=ky (p.getD k 0))/\∀i,x<=i->i<k->ky (p.getD k 0)<ky (p.getD i 0)) (agX p k f l r)
 |0,l,r,h1,h2,h3,a,b=>⟨by omega,a,λi e d=>b i (by omega) d⟩
 |f+ 1,l,r,h1,h2,h3,a,b=>by
  show Lo n _ _ (if l≥r then _ else _);by_cases z:l≥r
  ·rw[if_pos z];exact⟨by omega,a,λi e d=>b i (by omega) d⟩
  ·rw[if_neg z];refine⟨dg h hn _,dg h hn _,?_⟩;by_cases c:ky (p.getD k 0)<ky (p.getD ((l+ r) / 2) 0)
   ·rw[show bk ky (p.getD k 0) (p.getD ((l+ r) / 2) 0)=true from decide_eq_true c];exact yD h u f l ((l+ r) / 2) (by omega) (by omega) (by omega) a λi e d=>by
     have:=u ((l+ r) / 2) i e d;omega
   ·rw[show bk ky (p.getD k 0) (p.getD ((l+ r) / 2) 0)=false from decide_eq_false c];exact yD h u f ((l+ r) / 2+ 1) r (by omega) h2 (by omega) (λi e=>by
     have:=u i ((l+ r) / 2) (by omega) (by omega);omega) b
theorem OG:∀(f:Nat) {p:Array Nat} (k:Nat),jr n p->k+ f=n->Up ky p k->Lo n (bk ky) (λp=>jr n p/\Up ky p n) (ahN f p k)
 |0,p,k,h,e,u=>by
  obtain rfl:k=n:=by omega
  exact⟨h,u⟩
 |f+ 1,p,k,h,e,u=>by
  have hs:=uI h;refine qU (λl hl=>?_) _ (yD hn h u k 0 k (cT _) (Yl _) (by omega) (λi r=>absurd r (adR _)) λi a b=>by omega);obtain⟨g,s,t⟩:=hl;refine OG f (k+ 1) (NI h _ _) (by omega) λi j d v=>?_;rw[HG (by omega) g,HG (by omega) g];by_cases m:i=l
  ·rw[if_pos m];by_cases c:j=l
   ·rw[if_pos c];exact aat _
   ·rw[if_neg c,if_pos ⟨by omega,by omega⟩];exact aix (t _ (by omega) (by omega))
  ·rw[if_neg m];by_cases o:l<i/\i<=k
   ·rw[if_pos o,if_neg (by omega),if_pos ⟨by omega,by omega⟩];exact u _ _ (by omega) (by omega)
   ·rw[if_neg o];by_cases c:j=l
    ·rw[if_pos c];exact s i (by omega)
    ·rw[if_neg c];by_cases q:l<j/\j<=k
     ·rw[if_pos q];exact u _ _ (by omega) (by omega)
     ·rw[if_neg q];exact u _ _ d (by omega)
theorem Qt:Lo n (bk ky) (λp=>jr n p/\Up ky p n) (ae5 n):=by
 refine qU (λa ha=>?_) _ (K4 hn (p:=aaJ (Y8 n)) (adg _));obtain⟨c,b,d,e⟩:=ha;by_cases z:a.1<n
 ·rw[if_pos z];rw[show max a.1 1=a.1 by omega];exact OG hn _ _ c (by omega) b
 ·rw[if_neg z];rw[show a.1=n by omega]at b;exact⟨c,b⟩
end
theorem Mi{α:Type}{n:Nat}{P c:α->Prop}(hp:∀a,P a->c a):∀t:aa9 α,Lv n P t->Lv n c t
 | .ret a,h=>hp a h
 | .ask i j k,h=>⟨h.1,h.2.1,λb=>Mi hp (k b) (h.2.2 b)⟩
noncomputable def Sy(f:Bool):List Int->List Int->Bool
 |x::r,y::q=>if x=y then Sy f r q else decide (x<y)
 |_,_=>f
noncomputable def Kz(a b:List Int):Bool:=Sy (decide (a.length<b.length)) a b
theorem jB{α:Type}(l:List α)(d:α):((aaJ (Y8 l.length)).toList.map λi=>l.getD i d)=l:=by
 refine aeZ (by simp) λi h1 h2=>?_;simp at h1⊢;simp[h1]
theorem EU(h:Vals xs its)(hp:jr its.length p):(p.toList.map λi=>xs.getD i V.non).Perm xs/\Vals (p.toList.map λi=>xs.getD i V.non) (p.toList.map λi=>its.getD i aaf):=by
 have c:=h.length;constructor
 ·have:=hp.map λi=>xs.getD i V.non;rw[←c]at this;have e:=jB xs V.non;rw[show(aaJ (Y8 xs.length)).toList=Y8 xs.length from rfl]at e;rw[e]at this;exact this
 ·have a:∀i∈p.toList,i<its.length:=λi b=>aak.mp (hp.mem_iff.mp b);generalize p.toList=l at a
  induction l with
  |nil=>exact .nil
  |cons i l ih=>
   have b:=a i Yu;refine .cons ?_ (ih λj d=>a j (Yo _ d));obtain⟨u,hu,r⟩:=h.get (Yk (show i<xs.length by omega));show RelV (xs.getD i V.non) (its.getD i aaf);rw[YM,YM,Yk (show i<xs.length by omega),hu];exact r
def vM(ks:List (List Int))(n:Nat)(p:Array Nat):Prop:=(∃g:Nat->Int,∀i j,i<n->j<n->Kz (ks.getD i []) (ks.getD j [])=decide (g i<g j))->∀i j,i<=j->j<n->Kz (ks.getD (p.getD j 0) []) (ks.getD (p.getD i 0) [])=false
def wb(ks:List (List Int))(xs a:List V):Prop:=∃p:Array Nat,jr xs.length p/\a=(p.toList.map λi=>xs.getD i V.non)/\vM ks xs.length p
theorem AZ(h:n<2):vM ks n (aaJ (Y8 n)):=by
 rintro⟨g,a⟩ i j b c;obtain rfl:i=j:=by omega
 have pg:=dg (p:=aaJ (Y8 n)) (adg _) (by omega) i;rw[a _ _ pg pg];exact decide_eq_false (Int.lt_irrefl _)
theorem Li{α:Type}{n:Nat}{b:Nat->Nat->Bool}{P:α->Prop}:∀t:aa9 α,Lv n P t->Lo n b P t
 | .ret a,h=>h
 | .ask i j k,h=>⟨h.1,h.2.1,Li (k (b i j)) (h.2.2 _)⟩
theorem HS{α:Type}{n:Nat}{b c:Nat->Nat->Bool}(e:∀i j,i<n->j<n->b i j=c i j){P:α->Prop}:∀t:aa9 α,Lo n b P t->Lo n c P t
 | .ret a,h=>h
 | .ask i j k,h=>⟨h.1,h.2.1,by rw[←e i j h.1 h.2.1];exact HS e (k (b i j)) h.2.2⟩
theorem LV(hn:0<n):Lo n (λi j=>Kz (ks.getD i []) (ks.getD j [])) (λp=>jr n p/\vM ks n p) (ae5 n):=by
 by_cases a:∃g:Nat->Int,∀i j,i<n->j<n->Kz (ks.getD i []) (ks.getD j [])=decide (g i<g j)
 ·obtain⟨g,a⟩:=a;refine HS (λi j d b=>(a i j d b).symm) _ (vz (λp hp=>⟨hp.1,λ_ i j c b=>?_⟩) _ (Qt (ky:=g) hn));rw[a _ _ (dg hp.1 hn _) (dg hp.1 hn _)];have:=hp.2 i j c b;exact decide_eq_false (by omega)
 ·exact Li _ (Mi (λp hp=>⟨hp,λz=>absurd z a⟩) _ (Rh hn))
def Vd(h:YV)(v:Yd)(k:List Int):Prop:=k≠[]/\∃a o b n,v=.ref a/\h.get? a=Ya o/\o.cls=.type "tuple"/\o.data=.seq b n/\xy b.toList k
theorem Vd.tpI{v:Yd}{k:List Int}(x:Vd h v k):XS h v:=by
 obtain⟨b,a,o,c,n,d,e,g,i,j⟩:=x;cases k with
 |nil=>exact absurd rfl b
 |cons f ns=>exact⟨a,o,c,n,f,ns,d,e,g,i,j⟩
theorem qD:∀{vs:List Yd} {ns:List Int},xy vs ns->vs.length=ns.length
 |_,_,.nil=>rfl
 |_,_,.cons _ _ r=>congrArg (·+ 1) (qD r)
section
variable{prog:Y0}
theorem Iq{a b:Int}{t u:acT}{c:Bool}(h:Q (decide (a<b)) s):Ys (Yv prog w) A (oneLt' c (.int a t) (.int b u)) Q E s:=by
 cases c with
 |true=>exact oneLt_int h
 |false=>exact PySem.W.kat_one _ _ (ahr h)
theorem Rb{b fin:Bool}:∀{xs ys:List Yd} {ns a:List Int} (i:Nat),xy xs ns->xy ys a->Q (Sy fin ns a) s->afO prog w A b fin Q (xs.zip ys) i s:=by
 intro xs ys ns a i c
 induction c generalizing ys a i with
 |nil=>exact λ_ h=>afl h
 |cons x t r ih=>
  intro d h;cases d with
  |nil=>exact afl h
  |cons y u q=>
   refine ae6 (aeO ?_);refine afP (λz=>afm (ih (i:=i+ 1) q ?_)) λz=>ah6 (Iq ?_)
   ·have h:Q (if x=y then _ else _) s:=h;rw[if_pos (by simpa using z)]at h;exact h
   ·have h:Q (if x=y then _ else _) s:=h;rw[if_neg (by simpa using z)]at h;exact h
theorem O7{x y:Yd}{k l:List Int}{b:Bool}(g:Vd s.heap x k)(i:Vd s.heap y l)(h:Q (Kz k l) s):Ys (Yv prog w) A (keyLt' (aga b) x y) Q E s:=by
 obtain⟨_,a,o,t,n,rfl,j,u,m,c⟩:=g;obtain⟨_,v,z,p,B,rfl,q,C,r,d⟩:=i;refine afQ j m q r (Rb 0 c d ?_);have e:=qD c;have f:=qD d;rw[pk]at e f;rw[e,f];exact h
end
theorem wb.perm{a:List V}(h:wb ks xs a):a.Perm xs:=by
 obtain⟨p,hp,rfl,_⟩:=h;have:=hp.map λi=>xs.getD i V.non;have e:=jB xs V.non;rw[show(aaJ (Y8 xs.length)).toList=Y8 xs.length from rfl]at e;rw[e]at this;exact this
section
theorem JW{P:adY->Yn->Prop}(F:aH X.prog X.w X.K X.mg X.base bx k f fd ps sp)(hr:cZ k X.A.in1.in1)(Z:Binds X.K fd ps [])(IV:aO X Za σ H s)(fD:t8 X Za H D)(hD:s.heap.get? D=Ya (seqObj "list" its.toArray n))(rv:Vals xs its)(h64:xs.length<64)(lk:xs.length=ks.length)(kn:∀k∈ks,k≠[])(KY:∀(i:Nat) x k H3 (Q':VK),xs[i]?=Ya x->ks[i]?=Ya k->aJ H H3->(∀g t,aJ H3 g->bJ X.K g t (k.map V.int)->Q' (.ref t) g)->sp [x] H3 Q' E0)(hR:∀ws H' s',wb ks xs ws->aJ H H'->H' D=Yb->aO X Za σ (upd H' D (.lst ws)) s'->P (.done (.ret .none)) s'):
  Ys (Yv X.prog X.w) X.A.in1.in1 (ksk_tree D (.ref f) false) P E s:=by
 have lv:=rv.length;unfold ksk_tree;refine IE (k:=λits e ks=>ksk_rest D (.ref f) false its e ks) hD (by omega) λh2 e1 k2 ab=>?_;obtain⟨f0,f1,f2,f3,f4,f5⟩:=id fD;have I2:aO X Za σ H {s with heap:=h2}:=IV.turned (t':=s.toks) (it:=D) k2 f0 f1 f3 f4 f5;have l:h2.objs.size≠D:=abJ (Yz ab);have I:H h2.objs.size=none:=aO.fresh I2;have I3:aO X Za σ (upd H h2.objs.size (.lst [])) {s with heap:=h2.push (seqObj "list" #[] 0)}:=aO.lnew (s:={s with heap:=h2}) (its:=[]) (t':=s.toks) I2 .nil (cT _);have ac:(h2.push (seqObj "list" #[] 0)).get? D=Ya (seqObj "list" #[] e1):=Yj _ ab;generalize h2.push (seqObj "list" #[] 0)=h3 at I3 ac⊢;generalize h2.objs.size=kS at I3 l I⊢;unfold ksk_rest;refine Yg (af3 ?_);rw[List.forIn_toArray];refine Yg (ksk_fold (λi s'=>∃H' a,aO X Za σ H' s'/\aJ H H'/\H' D=Yb/\s'.heap.get? D=Ya (seqObj "list" #[] e1)/\H' kS=Ya (.lst ((a:List Ye).map V.ref))/\a.length=i/\∀(j:Nat) t,a[j]?=Ya t->∃k,ks[j]?=Ya k/\bJ X.K H' t (k.map V.int)) its 0 _ ⟨_,[],I3,aC I,by rw[ak l.symm];exact f0,ac,af,rfl,λj t h=>by simp at h⟩ ?_ ?_)
 ·rintro j x s' hx ⟨H',a,I',sm,J,gD,hK,lt,ht⟩;rw[agw]at lt;have hj:=(Yh.mp hx).1;have ad:xs[j]?=Ya xs[j]:=Yk (by omega);obtain⟨u',m,rx⟩:=rv.get ad;rw[hx]at m;cases m;have ae:ks[j]?=Ya ks[j]:=Yk (by omega);have am:t8 X Za H' D:=⟨J,f1,f2,f3,f4,f5⟩;have IP:aO X (Za++vZ [D] s'.heap) σ H' s':=I'.pinned (fp:=[D]) (λb Z=>by rw[Yi.mp Z];exact am) (λb Z=>by rw[Yi.mp Z];exact⟨_,gD,λv z=>nomatch z⟩);have Zj:=sW (X:=X.one.one) (vs:=[xs[j]]) (us:=[x]) (Q:=λz g=>∃t,z=.ref t/\aJ H' g/\bJ X.K g t (ks[j].map V.int)) (E:=E0) (Zl:=[]) (ds:=[]) F hr Z .nil (λ_ _ _ _ _ _ _ q=>q.elim) IP.one.one (.cons rx .nil) (by
   rw[Y1];exact KY j _ _ H' _ ad ae sm λg t s4 h4=>⟨t,rfl,s4,h4⟩)
  refine Yg (adw (oh Zj (λu s2 q=>?_) λ_ _ q=>q.elim));obtain⟨z,g,I4,rz,U,rfl,s4,an⟩:=q;cases rz;have I4:=aO.back IP.ok (aO.back IP.one.ok I4);have pD:=I4.pin (D,seqObj "list" #[] e1) (YK _ (YK _ (hX (by simp) gD)));have I5:=I4.unpinned;have K:=s4 _ _ hK;obtain⟨_,d,nk,rk,M,W⟩:=I5.lstM K;rw[Yf]at M;dsimp only;refine Yg (aeu W rfl ?_ (by rw[YC,aaB];omega) (by rw[Array.size_push,YC,aaB];omega));have I6:aO X Za σ (upd g kS (.lst ((a++[U]).map V.ref))) {s2 with heap:=s2.heap.update kS (aaz (·.push (.ref U)))}:=I5.lset (t':=s2.toks) (its':=d++[.ref U]) K W (by simp) (by rw[Yr];exact MT rk rfl) (by rw[Yf,Yq,Y6,aaB];omega);have nt:∀t N,bJ X.K g t N->bJ X.K (upd g kS (.lst ((a++[U]).map V.ref))) t N:=λt N h=>by
   rcases h with(h|⟨z,h⟩)|h
   ·exact .inl (.inl (by rw[ak (λz=>by rw[z,K]at h;cases h)];exact h))
   ·exact .inl (.inr ⟨z,by rw[ak (λz=>by rw[z,K]at h;cases h)];exact h⟩)
   ·exact .inr h
  refine Yt ⟨rfl,_,a++[U],I6,λb o e=>?_,?_,?_,af,by rw[Yq,lt];simp,λj' t r=>?_⟩
  ·rw[ak (ay e I)];exact s4 _ _ (sm _ _ e)
  ·rw[ak l.symm];exact pD.2.1
  ·exact((aaq s2.heap kS (aaz (·.push (.ref U)))).2 D l.symm).trans pD.1
  ·by_cases w:j'<a.length
   ·rw[aah w]at r;obtain⟨k',L,O⟩:=ht j' t r;exact⟨k',L,nt _ _ (VN.same s4 _ _ O)⟩
   ·have:j'=j:=by
     have:=(Yh.mp r).1;rw[Yq,Y6]at this;omega
    subst this;rw[aaH (by omega),lt,adS]at r;cases r;exact⟨_,ae,nt _ _ an⟩
 rintro s' ⟨H',a,I',sm,J,gD,hK,lt,ht⟩;rw[agw]at lt;obtain⟨_,d,nk,rk,M,W⟩:=I'.lstM hK;rw[Yf]at M;refine Yg (aiz W rfl ?_);have R:∀i,i<d.length->Vd s'.heap (d.getD i .none) (ks.getD i []):=λi S=>by
  have Y:d[i]?=Ya d[i]:=Yk S;have ag:a[i]?=Ya a[i]:=Yk (by omega);obtain⟨k',L,O⟩:=ht i _ ag;obtain⟨u',m,ru⟩:=rk.get (show(a.map V.ref)[i]?=Ya (.ref a[i]) by rw[Yy,ag];rfl);rw[Y]at m;cases m;rw[YM,YM,Y,L];show Vd s'.heap d[i] k';rw[show d[i]=YH a[i]from ru];obtain⟨ia,ra,pa,_⟩:=I'.tuple O;obtain⟨o,ho,hc,n',hd⟩:=id pa;exact⟨kn k' (Yw L),_,o,_,n',rfl,ho,hc,hd,jH ra⟩
 have hT:∀v∈d,XS s'.heap v:=λv hv=>by
  obtain⟨i,Y⟩:=YJ hv;have S:=(Yh.mp Y).1;have:=R i S;rw[YM,Y]at this;exact this.tpI
 have y:D≠kS:=l.symm;have fin:∀st:SortSt,ahf st=Yb->(∃p,jr its.length p/\vM ks its.length p/\(arrOf st).map (·.2)=aaJ (p.toList.map λi=>its.getD i aaf))->Ys (Yv X.prog X.w) X.A.in1.in1 (ksk_tail D false e1 (.ref kS) st) P E s':=by
  rintro st hf ⟨p,hp,od,eo⟩;obtain⟨wp,wv⟩:=EU rv hp;have po:=Oe hp;generalize eo2:(p.toList.map λi=>its.getD i aaf)=out at eo wv po;generalize ew:(p.toList.map λi=>xs.getD i V.non)=ws at wp wv;have ao:wb ks xs ws:=⟨p,by rw[lv];exact hp,ew.symm,by rw[lv];exact od⟩;unfold ksk_tail
  try dsimp only
  rw[eo];refine Yg (aeu W rfl ?_ (by rw[YC,aaB];omega) (cT _));have I6:aO X Za σ (upd H' kS (.lst [])) {s' with heap:=s'.heap.update kS (aaz λ_=>(#[]:Array Yd))}:=I'.lset (t':=s'.toks) (its':=[]) (ys:=[]) hK W (by simp) .nil (cT _);have ah:(s'.heap.update kS (aaz λ_=>(#[]:Array Yd))).get? D=Ya (seqObj "list" #[] e1):=((aaq s'.heap kS (aaz λ_=>(#[]:Array Yd))).2 D y).trans gD;generalize s'.heap.update kS (aaz λ_=>(#[]:Array Yd))=h6 at I6 ah⊢;refine Yg (wpAny_letGo ?_);refine yE (s:={s' with heap:=h6}) (out:=out.toArray) ah (by rw[YC,po.length_eq,aaB];omega) λh7 c k7 g7=>?_;rw[hf]
  wp_walk
  refine hR ws (upd H' kS (.lst [])) _ ao (λb o e=>?_) (by rw[ak y];exact J) ?_
  ·rw[ak (ay e I)];exact sm _ _ e
  ·exact aO.adopt (s:={s' with heap:=h6}) (t':=s'.toks) I6 k7 ⟨by rw[ak y];exact J,f1,f2,f3,f4,f5⟩ ⟨by rw[wp.length_eq,aaB];omega,out,c,wv,g7⟩
 unfold ksk_end
 try dsimp only
 simp only[ac6,if_false];by_cases h2:its.toArray.size<2
 ·rw[if_pos h2,if_pos h2];refine Yg (Yt ?_);rw[StateT.run_pure];refine Yg (Yt ?_);refine fin _ rfl ⟨aaJ (Y8 its.length),adg _,AZ (by simpa using h2),?_⟩;rw[show((aaJ (Y8 its.length)).toList.map λi=>its.getD i aaf)=its from jB its _];show(d.toArray.zip its.toArray).map (·.2)=its.toArray;apply ahg.mp;simp;exact ahh (by omega)
 ·rw[if_neg h2,if_neg h2];have ap:2<=its.length:=by simpa using h2
  obtain⟨fs,aq,ki,kl⟩:=El hT;refine Yg (ahi (T:=aaG "int") aq (by omega) (λv hv=>?_) (by decide) ?_)
  ·obtain⟨n',t',rfl⟩:=ki v hv;exact afR rfl
  have al:d.length=its.length:=by omega
  refine Yg (oh (ahP (ks:=d) (vs:=its) (Q:=λA B=>B=s'/\ahf A=Yb/\∃p,(jr its.length p/\vM ks its.length p)/\arrOf A=p.map (ahj (d.toArray.zip its.toArray)))
   (G:=λp B=>B=s'/\jr its.length p/\vM ks its.length p) al ap (by omega) (λp A B _ a2 a3 a4=>⟨a4.1,a3,p,a4.2,a2⟩) ?_) ?_ λ_ _ e=>e)
  ·refine Nu (n:=its.length) (b:=λi j=>Kz (ks.getD i []) (ks.getD j [])) (P:=λp=>jr its.length p/\vM ks its.length p) (λi j C Y hj hC=>?_) (λp hp=>⟨rfl,hp⟩) _ (LV (by omega));unfold ahQ;exact O7 (R i (by omega)) (R j (by omega)) hC
  rintro⟨⟨⟩,A⟩ B ⟨rfl,hf,p,hp,ar⟩;exact fin A hf ⟨p,hp.1,hp.2,ahk al ar⟩
theorem Lr{l:Ye}{Q:Yd->Yn->Prop}(F:aH X.prog X.w X.K X.mg X.base bx k f fd ps sp)(m:cZ k X.A.in1.in1)(n:Binds X.K fd ps [])(c:aO X Za σ H s)(hl:s.heap.IsList l its.toArray)(h:Vals xs its)(h64:xs.length<64)(lk:xs.length=ks.length)(kn:∀k∈ks,k≠[])(o:∀(i:Nat) x k d (j:VK),xs[i]?=Ya x->ks[i]?=Ya k->aJ H d->(∀e t,aJ d e->bJ X.K e t (k.map V.int)->j (.ref t) e)->sp [x] d j E0)(p:∀D b H' s',H D=Yb->wb ks xs b->aJ H H'->H' D=Yb->aO X Za σ (upd H' D (.lst b)) s'->Q (.ref D) s'):
  Ys (Yv X.prog X.w) X.A (call (.builtin "sorted") [.ref l] [(aaa "key",.ref f)]) Q E s:=by
 have y:=h.length;refine Bv hl (by omega) (ksk_s1 _ _) (λ_=>ksk_l1 _ _) λh1 q r=>?_;have a:H (s.heap.objs.size+ 1)=none:=c.hok.fresh (aaU _);rw[ksk_t1];exact JW F m n (c.kept (t':=s.toks) q) (c.fpOk (aaU _) a) r h h64 lk kn o λb H' s' u v g w=>⟨rfl,p _ b H' s' a u v g w⟩
end
def Mz(K:Yc)(sp:Sp)(x:V)(b:Hp)(Q:VK):Prop:=∃(l:Ye) (a:List V) (c:List (List Int)),x=.ref l/\a9 K b l a/\a.length<64/\a.length=c.length/\(∀k∈c,k≠[])/\
 (∀(i:Nat) (x:V) (k:List Int) (d:Hp) (h:VK),a[i]?=Ya x->c[i]?=Ya k->aJ b d->(∀e t,aJ d e->bJ K e t (k.map V.int)->h (.ref t) e)->sp [x] d h E0)/\
 ∀(D:Ye) (f:List V) (g:Hp),b D=Yb->f.Perm a->wb c a f->aJ b g->g D=Ya (.lst f)->Q (.ref D) g
def M9(K:Yc)(sp:Sp)(a:TE):TE:=λσ H Q=>a σ H λx b=>Mz K sp x b Q
section
theorem C9{K:Yc}{p t v:abz}{a:Yp}(w:X.K=K)(ha:PA X [e] (zu te CQ))(y:Gl X "sorted")(hm:X.mg "sorted"=Yb)(G:aH X.prog X.w X.K X.mg X.base bx k f fd ps sp)(c:X.mg a=Ya (.ref f))(d:Binds X.K fd ps [])(g:Gl X a)(z:cZ (k+ 1) X.A)(i:(a==("__debug__":Yp))=false:=by decide)(h1:aad pos (YW [e] X.env)=(false,lr e X.env)::aad pos (YW [] X.env):=by rfl)(h2:(aad pos (YW [e] X.env)).any (·.1)=false:=by rfl):
  PE X (.Call (.Name "sorted" p) [e] [⟨Ya "key",.Name a t,v⟩] pos) (M9 K sp te):=by
 subst w;intro A s σ H Q I h;refine aaR (qe I y hm abt ?_);refine adV ?_ h1 h2;refine cL (ha pos A s σ H (λb j=>match b with|[x]=>Mz X.K sp x j Q|_=>False) I h) λus S B=>?_;obtain⟨b,j,m,C,o⟩:=B;obtain⟨x,rfl⟩:∃x,b=[x]:=by
  match b,o with
  |[x],_=>exact⟨x,rfl⟩
 obtain⟨u,rfl,E⟩:=fG C;obtain⟨l,T,U,ex,hl,h64,lk,kn,F,q⟩:=o;subst ex;cases E;refine adE (nP m g c ?_ i);refine af8 ?_;obtain⟨J,L,M,V⟩:=m.list hl;show Ys _ _ (call (.builtin "sorted") [YH l] [(aaa "key",.ref f)]) _ _ _;refine Lr (H:=j) G (cZ.two z) d m M.isList L h64 lk kn F λD N W s' O r P n R=>?_;exact⟨.ref D,_,R,rfl,q D N _ O r.perm r (P.trans (aC n)) af⟩
end
theorem Pj{K:Yc}{Q:VK}(h:te σ H λx a=>Mz K sp x a Q):M9 K sp te σ H Q:=h
section
theorem aO.thawT{o:pe}(I:aO X Za σ H s)(h:H a=Ya (.frz o (.dT kvs)))(n1:∀xs,X.H₀ a≠Ya (.tup xs))(n2:∀o u,X.H₀ a≠Ya (.frz o u))(n3:∀ps,X.H₀ a≠Ya (.tbl ps)):aO X Za σ (upd H a (.dT kvs)) s:=by
 have ne:∀b,H b=Yb->b≠a:=λb q z=>by rw[z,h]at q;cases q
 have b:=I.base;refine⟨I.ok,I.os,I.bare,⟨b.keep,b.slot,λc g e n x=>?_,b.there,λc xs e=>?_,λc g u e=>?_,λc ps e=>?_⟩,I.loc,I.cell,by rw[ak (ne _ I.free)];exact I.free,λx c z=>by rw[ak (ne _ (I.freeC x c z))];exact I.freeC x c z,
  λp hp=>let ⟨p1,p2,p3⟩:=I.pin p hp;⟨p1,by rw[ak (ne _ p2)];exact p2,p3⟩,λc u e=>?_,I.len⟩
 ·have q:=b.free c g e n x;rw[ak (ne _ q)];exact q
 ·have f:c≠a:=λz=>n1 _ (z▸e);rw[ak f];exact b.tups c xs e
 ·have f:c≠a:=λz=>n2 _ _ (z▸e);rw[ak f];exact b.frzs c g u e
 ·have f:c≠a:=λz=>n3 _ (z▸e);rw[ak f];exact b.tbls c ps e
 ·by_cases i:c=a
  ·subst i;rw[af]at e;cases e;obtain⟨z,y,xs,j,k⟩:=(show cD X.prog X.w H s.heap c (.dT kvs)from(I.hok c _ h).2);exact⟨z,y,xs,KT.keeps j λd l q=>by rw[ak (λz=>by rw[z,h]at q;cases q)];exact q,k⟩
  ·rw[ak i]at e;refine(I.hok c u e).stay (λ_ _ _ q=>q) (λd q=>?_) λd xs q=>?_
   ·rw[ak (λz=>by rw[z,h]at q;cases q)];exact q
   ·rw[ak (λz=>by rw[z,h]at q;cases q)];exact q
def Mr(t:TS):TS:=λD σ H=>∃a b,H a=Ya (.dT b)/\t {D with nx:=λd c=>(∃o,c a=Ya (.frz o (.dT b)))/\D.nx d (upd c a (.dT b)),rt:=λv c=>(∃o,c a=Ya (.frz o (.dT b)))/\D.rt v (upd c a (.dT b))} σ H
theorem Nq{st:Y4}(h:PS X st t):PS X st (Mr t):=by
 intro g s σ H D I hw;obtain⟨a,i,ha,j⟩:=hw;have n1:∀b,X.H₀ a≠Ya (.tup b):=λb e=>by have:=I.base.tups a b e;rw[ha]at this;cases this
 have n2:∀o u,X.H₀ a≠Ya (.frz o u):=λo u e=>by have:=I.base.frzs a o u e;rw[ha]at this;cases this
 have n3:∀ps,X.H₀ a≠Ya (.tbl ps):=λps e=>by obtain⟨m,q⟩:=I.base.tbls a ps e;rw[ha]at q;cases q
 refine cL (h g s σ H _ I j) λf l q=>?_;cases f with
 |next=>
  obtain⟨c,k,d,⟨o,e⟩,n⟩:=q;exact⟨c,_,d.thawT e n1 n2 n3,n⟩
 |brk=>exact q
 |cont=>exact q
 |ret u=>
  obtain⟨v,c,k,d,r,⟨o,e⟩,n⟩:=q;exact⟨v,c,_,d.thawT e n1 n2 n3,r,n⟩
end
theorem Qo{D:qB}(hd:H d=Ya (.dT kvs))(h:t {D with nx:=λa H'=>(∃o,H' d=Ya (.frz o (.dT kvs)))/\D.nx a (upd H' d (.dT kvs)),rt:=λv H'=>(∃o,H' d=Ya (.frz o (.dT kvs)))/\D.rt v (upd H' d (.dT kvs))} σ H):Mr t D σ H:=⟨d,kvs,hd,h⟩
section
variable{cs fs:List Ye}
end
section
variable{K:Yc}{E:XK}
end
section
end
section
end
section
variable{K:Yc}
end
section
end
section
variable{K:Yc}
end
section
end
section
variable{me hd ba ye vo re ag:V}
end
section
variable{m:Yp}{Ze:abz}{o:cb}{es:List cb}{ta:TE}{t:TA}
end
section
variable{Q:VK}
end
section
end
section
variable{K:Yc}{E:XK}
end
section
variable{K:Yc}
end
section
variable{K:Yc}
end
def CT(P:Y0)(w:Y7):MN:=λouter H s E e s'=>∃(c C:Ye) (d:Yd) (B:YV) (a:Hp),e=.ref c/\s'.os=s.os/\acN s'.gens/\Un (mT outer) [] H a s.heap s'.heap/\mS P w a s'.heap/\
 agz B outer c (.ref C) d s'.heap/\(∀b o,s'.heap.get? b=Ya o->b∉mT outer->((∃f,s.heap.get? b=Ya f)∨∃u,a b=Ya u)->B.get? b=Ya o)/\a c=Yb/\E (.ref c) (Ya C) a
theorem cD.at{o:HO}(x:cD P w H h a o):∃ob,h.get? a=Ya ob:=by
 cases o with
 |lst xs=>obtain⟨_,_,_,_,e⟩:=x;exact⟨_,e⟩
 |tup xs=>obtain⟨_,_,_,ob,e,_⟩:=x;exact⟨_,e⟩
 |dK kvs=>obtain⟨_,_,_,_,o,_,_,e,_⟩:=x;exact⟨_,e⟩
 |dT kvs=>obtain⟨_,_,_,_,o,_,_,e,_⟩:=x;exact⟨_,e⟩
 |set S n=>obtain⟨o,_,_,_,e,_⟩:=x;exact⟨_,e⟩
 |ins C dx fs=>obtain⟨_,_,_,e,_⟩:=x;exact⟨_,e⟩
 |own _=>exact x
 |xd fs=>obtain⟨_,⟨o,_,_,e,_⟩,_⟩:=x;exact⟨_,e⟩
 |rng lo hi=>obtain⟨_,_,_,e⟩:=x;exact⟨_,e⟩
 |frz o u=>exact⟨_,x.1⟩
 |tbl ps=>exact⟨_,x⟩
 |met f x'=>exact⟨_,x⟩
 |ext φ=>exact x.2.1
theorem Dj{G:Hp}{H:Yn}(I:aO X Za σ G H)(x:X.ex=[])(T:X.prog=P)(hw:X.w=w)(un:Un (mT X.stack) [] G H' H.heap s'.heap)(hok:mS P w H' s'.heap)(J:∀b o,s'.heap.get? b=Ya o->b∉mT X.stack->((∃i,X.s₀.heap.get? b=Ya i)∨∃u,H' b=Ya u)->B.get? b=Ya o)(st:B.StaysIn h')(up:s'.heap.UpToSlots h')(l:X.stack=X.env::X.outer):
  Un (mT X.outer) [] X.H₀ H' X.s₀.heap h'/\mS P w H' h'/\∀b o,h'.get? b=Ya o->b∉mT X.outer->((∃i,X.s₀.heap.get? b=Ya i)∨∃u,H' b=Ya u)->B.get? b=Ya o:=by
 have base:=I.base;rw[x]at base;have m:∀b,b∈mT X.stack->H' b=none:=λb f=>by
  obtain⟨_,o,ho,_⟩:=I.stack.mem f;exact un.free b o ho (I.stkFree b f) (by simp)
 have p:∀b,b∈mT X.outer->b∈mT X.stack:=λb f=>by
  rw[l];unfold mT;rw[acQ];cases X.env.frame with
  |none=>exact f
  |some _=>exact Yo _ f
 have lo:∀b o,X.s₀.heap.get? b=Ya o->b∉mT X.outer->b∉mT X.stack:=λb o e n z=>by
  rcases Ym.mp (I.stkSub b z)with q|q
  ·rw[q]at e;exact absurd (Yz e) (ahK.mpr I.ok.above)
  ·exact n q
 have g:∀b o,s'.heap.get? b=Ya o->b∈mT X.stack->∃s,h'.get? b=Ya {o with slots:=s}:=λb o e f=>by
  obtain⟨_,j,y,N⟩:=I.stack.mem f;obtain⟨s,d⟩:=un.slot b j y (I.stkFree b f) f (by simp);rw[e]at d;cases d;exact up b _ e N
 have c:∀b o,s'.heap.get? b=Ya o->b∉mT X.stack->((∃i,X.s₀.heap.get? b=Ya i)∨∃u,H' b=Ya u)->h'.get? b=Ya o:=λb o e n r=>st b o (J b o e n r);refine⟨⟨λb o e n h _=>?_,λb o e n h _=>?_,λb o e n _=>?_,λb o e _=>?_,λb K e=>un.tups b K (base.tups b K e),λb o u e=>un.frzs b o u (base.frzs b o u e),λb ps e=>?_⟩,λa u e=>?_,λb o e h r=>?_⟩
 ·have d:=base.keep b o e n h (by simp);have ns:=lo b o e h;exact c b o (un.keep b o d (base.free b o e n (by simp)) ns (by simp)) ns (.inl ⟨o,e⟩)
 ·obtain⟨s,d⟩:=base.slot b o e n h (by simp);obtain⟨O,k⟩:=un.slot b _ d (base.free b o e n (by simp)) (p b h) (by simp);obtain⟨A,C⟩:=g b _ k (p b h);exact⟨A,C⟩
 ·obtain⟨j,d⟩:=base.there b o e (by simp);exact un.free b j d (base.free b o e n (by simp)) (by simp)
 ·obtain⟨j,d⟩:=base.there b o e (by simp);obtain⟨D,k⟩:=un.there b j d (by simp);by_cases h:b∈mT X.stack
  ·obtain⟨s,C⟩:=g b D k h;exact⟨_,C⟩
  ·exact⟨D,c b D k h (.inl ⟨o,e⟩)⟩
 ·obtain⟨Q,d⟩:=base.tbls b ps e;obtain⟨R,k⟩:=un.tbls b _ d;exact⟨Q++R,by rw[k,agp]⟩
 ·refine(hok a u e).stay (λb o f q=>?_) (λ_ q=>q) λ_ _ q=>q;have tr:∃v,H' b=Ya v:=by
   rcases f with z|z
   ·exact⟨u,z▸e⟩
   ·exact⟨_,z⟩
  refine c b o q (λz=>?_) (.inr tr);obtain⟨v,L⟩:=tr;rw[m b z]at L;cases L
 ·have E:∃t,s'.heap.get? b=Ya t:=by
   rcases r with⟨i,F⟩|⟨u,hu⟩
   ·obtain⟨j,d⟩:=base.there b i F (by simp);exact un.there b j d (by simp)
   ·exact(hok b u hu).at
  obtain⟨t,S⟩:=E;have ns:b∉mT X.stack:=λz=>by
   rcases r with⟨i,F⟩|⟨u,hu⟩
   ·exact lo b i F h z
   ·rw[m b z]at hu;cases hu
  have M:=J b t S ns r;rw[st b t M]at e;cases e;exact M
section
variable{K:Yc}{E:XK}
theorem W4:sJ (CT P w) (oZ (CT P w) P w K mg base N Zb scope f cd A outer s H E) E:=by
 intro v σ x y e s' I h;obtain⟨c,C,d,B,g,rfl,os,i,un,hok,j,k,hn,q⟩:=h;refine wpAny_leaves_onW I.ok.frames rfl j λD a up=>?_;obtain⟨l,m,p⟩:=Dj I rfl rfl rfl un hok (λb o e n r=>k b o e n (r.imp (fun⟨t,u⟩=>I.base.there b t u (by intro z;cases z)) id)) a.1 up rfl;exact⟨c,C,d,B,g,rfl,os.trans I.os,i,l,m,a,p,hn,q⟩
def z9(K:Yc)(C N:Ye)(up:List Yd)(c:String):Prop:=∃d e bs a sn sub ab b dd f g h i j,K.lookup C=Ya (aeg d e C N bs up a sn sub ab b dd f g h i j c)
theorem z9.mk{K:Yc}{N:Ye}{up:List Yd}{c d bs a sn sub ab b dd e f g i j}(h:K.lookup C=Ya (aeg c d C N bs up a sn sub ab b dd e f g i j Zc)):z9 K C N up Zc:=⟨_,_,_,_,_,_,_,_,_,_,_,_,_,_,h⟩
def Nd(K:Yc)(C D:Ye):Prop:=∃N up a,z9 K C N up a/\up.contains (.type "BaseException")=true/\(YH C::up).contains (.ref D)=true
end
def isX(a C:Ye):YV->Prop:=λh=>∃o,h.get? a=Ya o/\o.cls=.ref C
noncomputable abbrev xO(a C:Ye):HO:=.ext (isX a C)
section
variable{h2:YV}{ea:Ye}{a0:Yd}
theorem Fe(I:aO X Za σ H s)(os:s'.os=s.os)(L:acN s'.gens)(un:Un (mT X.stack) [] H H' s.heap s'.heap)(hok:mS X.prog X.w H' s'.heap)(D:agz B X.stack ea (.ref C) a0 s'.heap)
  (E:∀b o,s'.heap.get? b=Ya o->b∉mT X.stack->((∃p,s.heap.get? b=Ya p)∨∃u,H' b=Ya u)->B.get? b=Ya o) (hn:H' ea=Yb) (j:agz B X.stack ea (.ref C) a0 h2) (up:s'.heap.UpToSlots h2):
  aO X Za σ (upd H' ea (xO ea C)) {s' with heap:=h2}:=by
 have st:=j.1;have t:∀b,b∈mT X.stack->H' b=none:=λb h=>by
  obtain⟨_,o,ho,_⟩:=I.stack.mem h;exact un.free b o ho (I.stkFree b h) (by simp)
 have d:∀b o,s'.heap.get? b=Ya o->b∈mT X.stack->(∀F,o.data≠.fields F)/\∃m,h2.get? b=Ya {o with slots:=m}:=λb o e h=>by
  obtain⟨_,i,x,G⟩:=I.stack.mem h;obtain⟨m,c⟩:=un.slot b i x (I.stkFree b h) h (by simp);rw[e]at c;cases c;exact⟨G,up b _ e G⟩
 have f:∀b o,s'.heap.get? b=Ya o->b∉mT X.stack->((∃p,s.heap.get? b=Ya p)∨∃u,H' b=Ya u)->h2.get? b=Ya o:=λb o e n r=>st b o (E b o e n r);have ne:∀b o,s.heap.get? b=Ya o->b≠ea:=λb o e z=>by
  subst z;obtain⟨i,c⟩:=un.there b o e (by simp);obtain⟨R,F,l,_,M,_⟩:=D.first;rw[c]at l;cases l;by_cases g:b∈mT X.stack
  ·exact(d b _ c g).1 _ M
  ·have:=E b _ c g (.inl ⟨o,e⟩);rw[D.2.1]at this;cases this
 have neT:∀{b u},H' b=Ya u->b≠ea:=λe z=>by rw[z,hn]at e;cases e
 refine I.call' (s':={s' with heap:=h2}) (ch:=[]) os ⟨λb o e n g _=>?_,λb o e n g _=>?_,λb o e n _=>?_,λb o e _=>?_,λb J e=>?_,λb o u e=>?_,λb ps e=>?_⟩ (λa u e=>?_) L (λb z=>absurd z (by simp))
 ·exact f b o (un.keep b o e n g (by simp)) g (.inl ⟨o,e⟩)
 ·obtain⟨m,c⟩:=un.slot b o e n g (by simp);obtain⟨_,y,A⟩:=d b _ c g;exact⟨y,A⟩
 ·rw[ak (ne b o e)];exact un.free b o e n (by simp)
 ·obtain⟨i,c⟩:=un.there b o e (by simp);by_cases g:b∈mT X.stack
  ·obtain⟨_,m,A⟩:=d b i c g;exact⟨_,A⟩
  ·exact⟨i,f b i c g (.inl ⟨o,e⟩)⟩
 ·have c:=un.tups b J e;rw[ak (neT c)];exact c
 ·have c:=un.frzs b o u e;rw[ak (neT c)];exact c
 ·obtain⟨N,c⟩:=un.tbls b ps e;exact⟨N,by rw[ak (neT c)];exact c⟩
 ·by_cases z:a=ea
  ·subst z;rw[af]at e;cases e;obtain⟨ob,l,O⟩:=j.there;exact⟨⟨ob,l,O⟩,⟨ob,l⟩,λh3 h4 ⟨o,P,Q⟩ k=>⟨o,k o P,Q⟩⟩
  ·rw[ak z]at e;refine(hok a u e).stay (λb o h q=>?_) (λb q=>by rw[ak (neT q)];exact q) λb J q=>by rw[ak (neT q)];exact q
   have tr:∃v,H' b=Ya v:=by
    rcases h with w|w
    ·exact⟨u,w▸e⟩
    ·exact⟨_,w⟩
   refine f b o q (λz=>?_) (.inr tr);obtain⟨v,K⟩:=tr;rw[t b z]at K;cases K
end
noncomputable abbrev Cx.hnd(X:Cx)(e:Yd):Cx:={X with A:=X.A.mark (Ya e),calm:=false,xe:=λ_ _=>False}
theorem aO.hnd(I:aO X Za σ H s)(e:Yd):aO (X.hnd e) Za σ H s:=
 ⟨⟨I.ok.mod,I.ok.kind,I.ok.glob,I.ok.blt,I.ok.above,I.ok.inj,I.ok.has,I.ok.cab,(λz=>nomatch z),I.ok.frames,I.ok.stk,I.ok.exf,I.ok.bs,I.ok.bsz,I.ok.noex,I.ok.exfs,I.ok.funs,I.ok.frf⟩,I.os,I.bare,I.base,I.loc,I.cell,I.free,I.freeC,I.pin,I.hok,I.len⟩
theorem aO.unhnd{e:Yd}(ok:X.Ok)(I:aO (X.hnd e) Za σ H s):aO X Za σ H s:=
 ⟨ok,I.os,I.bare,I.base,I.loc,I.cell,I.free,I.freeC,I.pin,I.hok,I.len⟩
section
end
section
variable{M:aim}
theorem Kb{g:Array aiq}{d:aht}{t:Nat}{os:OsState}{N y:Ye}{z q m B:Yp}{bs v n c:List Yd}{i f:Bool}{sn o:List Yp}{sub j:List Yd}{ab p:Bool}{r k:Option Bool}{dd s:Option Ye}{F G H I J K L O P R:Option Yd}{a:String}{e:Ye}{w:pe}{b:Bool}(S:h.get? C=Ya (aeg z q C N bs v i sn sub ab r dd F G H I J Zc))(x:h.get? D=Ya (aeg m B D y n c f o j p k s K L O P R a))(T:h.get? e=Ya w)(l:w.cls=.ref C)(u:c.contains (.type "BaseException")=true)(U:(YH C::v).contains (.ref D)=b)(V:Q b ⟨h,g,d,t,os⟩):Ys M A (excMatches (.ref e) (.ref D)) Q E ⟨h,g,d,t,os⟩:=by
 have W:(YH D::c).contains (.type "BaseException")=true:=by rw[agA,u,aiA]
 have X:=tc_notTuple;unfold excMatches
 repeat(first
  |(with_reducible refine ad0 x ?_;rw[W])
  |(with_reducible refine ad0 S ?_;rw[U])
  |(with_reducible refine acs T ?_;rw[l])
  |with_reducible refine acs x ?_
  |wp_step)
 cases b<;>(wp_walk;exact V)
end
noncomputable abbrev Cx.tr(X:Cx)(a:List (Ye×pe))(b:St->XK):Cx:={X with pn:=X.pn++a,xe:=λe s'=>∃σ H s,aO X a σ H s/\CT X.prog X.w X.stack H s (b σ) e s'}
section
variable{Zp:List (Ye×pe)}{EE:St->XK}
theorem aO.tr(I:aO X Za σ H s)(a:St->XK):aO (X.tr Za a) [] σ H s:=
 ⟨⟨I.ok.mod,I.ok.kind,I.ok.glob,I.ok.blt,I.ok.above,I.ok.inj,I.ok.has,I.ok.cab,I.ok.hd,I.ok.frames,I.ok.stk,I.ok.exf,I.ok.bs,I.ok.bsz,I.ok.noex,I.ok.exfs,I.ok.funs,I.ok.frf⟩,I.os,I.bare,I.base,I.loc,I.cell,I.free,I.freeC,by rw[Y1];exact I.pin,I.hok,I.len⟩
theorem aO.untr(I:aO (X.tr Za EE) Zp σ H s):aO X Za σ H s:=
 ⟨⟨I.ok.mod,I.ok.kind,I.ok.glob,I.ok.blt,I.ok.above,I.ok.inj,I.ok.has,I.ok.cab,I.ok.hd,I.ok.frames,I.ok.stk,I.ok.exf,I.ok.bs,I.ok.bsz,I.ok.noex,I.ok.exfs,I.ok.funs,I.ok.frf⟩,I.os,I.bare,I.base,I.loc,I.cell,I.free,I.freeC,λp hp=>I.pin p (YY _ hp),I.hok,I.len⟩
theorem SP.untr{D:qB}{f:Flow}(h:SP (X.tr Za EE) Zp D f s'):SP X Za D f s':=by
 cases f with
 |next=>obtain⟨a,b,I,q⟩:=h;exact⟨a,b,I.untr,q⟩
 |brk=>obtain⟨a,b,I,q⟩:=h;exact⟨a,b,I.untr,q⟩
 |cont=>obtain⟨a,b,I,q⟩:=h;exact⟨a,b,I.untr,q⟩
 |ret u=>obtain⟨v,a,b,I,r,q⟩:=h;exact⟨v,a,b,I.untr,r,q⟩
end
end L2
namespace L2
open PySem PySem.Spec PyProof.Rows PySem.W
section
variable{prog:Y0}{w:Y7}{A:uc}{E:Yd->Yn->Prop}{K:Yc}{x C:Ye}
def Vs(h:YV)(x C:Ye):Prop:=∃o,h.get? x=Ya o/\o.cls=.ref C
theorem Vs.type{M:aim}{h:YV}(I:Vs h x C):Looks M h (ahD (.ref x)) (.ref C):=by
 obtain⟨o,e,c⟩:=I;exact c▸(Looks.ld e).andThen .now
end
end L2
namespace L2
open PySem PySem.Spec PyProof.Rows
variable{x:Yp}{f:Ye}{fd:YE}{ps:List Yp}{k:Nat}{sp:Sp}{X:Cx}
section
variable{P:Y0}{w:Y7}{K:Yc}{mg:Yp->Option Yd}{base:YV}
theorem bN.okX{c:Yp}{st:Y4}{N:List Yp}(F:bN K x c st f fd)(S:aG N ps (av st))(len:∀vs H Q E,sp vs H Q E->vs.length=ps.length)(b:∀(a:Yd) (A:uc) (outer:List ack) (s:Yn) (H:Hp) (vs:List V) (Q:VK) (E:XK),cZ k (A.deeper (acd c (av st) s.heap.objs.size f a))->sp vs H Q E->
   ∃t,CS (oZ (CT P w) P w K mg base N c (av st) f a A outer s H E) (dW st) t/\t {nx:=λ_ g=>Q .non g,rt:=Q} (start N vs) H):aH P w K mg base (CT P w) (k+ 1) f fd ps sp:=by
 obtain⟨l,od,kV,h,m,n,a,ct,i,rfl,lk,d⟩:=F.ex;exact L9 lk d S len λA outer s H vs Q E j e=>b a A outer s H vs Q E j e
end
section
variable{e:cb}{es:List cb}{t:TA}{p pos:abz}
end
section
variable{D:qB}{σ:St}{H:Hp}{Q:VK}
end
section
variable{tg:cb}
end
end L2
namespace L2
open PySem PySem.Spec PyProof.Rows PySem.W
variable{prog P:Y0}{w:Y7}{A:uc}{E:Yd->Yn->Prop}{x C d dx e f a:Ye}{name:Yp}{v:Yd}{s:Yn}{mA:Yp->Option Yd}{ns:List Yp}{tk:acT}{up Zz:List Yd}{R:acv->Yn->Prop}{Q:Unit->Yn->Prop}{H:Hp}{h:YV}{fs:List (Yp×V)}{X:Cx}{Za:List (Ye×pe)}{σ:St}{pos:abz}{B Zc Zn:String}
section
variable{K:Yc}
theorem Ib{Q:adY->Yn->Prop}(N:s.heap.Ns1 d mA)(hw:aeh mA ns)(hz:ns.length<=YB)(h:∀h',h'.Ns1 d (λy=>if y=name then Ya v else mA y)->aan d s.heap h'->Q (.done (.ret .none)) {s with heap:=h',toks:=s.toks+ 1}):
  Ys (Yv prog w) A (Builtin.ObjectAttr.storeInDict d (.str name tk) name v) Q E s:=by
 refine Yg (Yt (Yg (air N λh' a c=>?_)));obtain⟨o,e,f,ho,hd,b⟩:=a.count (Within.cons name v hw);rw[gm]at b;exact Yg (ag4 ho (by rw[hd];exact ag5 (ir b (aau hz))) (Yt (h _ a c)))
def Xj(up:List Yd):Prop:=∃cs:List Ye,up=cs.map YH++[.type "ValueError",.type "Exception",.type "BaseException",.type "object"]
theorem Xj.pass(u:Xj up)(self:Yd):refuseLoop self "__setattr__" up=pure ():=by
 obtain⟨cs,rfl⟩:=u
 induction cs with
 |nil=>exact PySem.F.store_ValueError.passes self
 |cons c cs ih=>exact(ah7 _ _ _ _).trans ih
structure ON(K:Yc)(C:Ye):Prop where
 sa:gf K (.ref C) "__setattr__"=Ya (Ya (.builtin "object.__setattr__"))
 hm:agd K C (.type "object")=Ya true
 cl:∃cd up,ail K C=Ya cd/\cd.hasDict=true/\cd.mro=.ref C::up/\Xj up
theorem Hw{b:ClassData}(F:ON K C)(X:K.In s.heap)(I:Vs s.heap x C)(c:ail K C=Ya b)(hm:b.mro=.ref C::up)(u:Xj up)(hn:gf K (.ref C) name=Ya Yb)(h:Ys (Yv prog w) A.in1 (Builtin.ObjectAttr.storeInOwnDict (.ref x) (.ref C) (.str name tk) name v false)
   (λfin s'=>match fin with| .done f=>R (.ok f) s'| .again c'=>c'.quiet=true/\Gr (Yv prog w) A c' R s') (λe s'=>R (.error e) s') s):
  Gr (Yv prog w) A (.call (.builtin "object.__setattr__") ⟨[.ref x,.str name tk,v],[]⟩) R s:=by
 have a:=PySem.F.store_object;have T:=I.type (M:=Yv prog w);refine aaW a.slot.plain a.entry (@check_slot (Yv prog w) _ _ s "object.__setattr__" "object" "__setattr__" (.ref x) [.str name tk,v] [] _ a.kind a.split (T.andThen (looks_mroIn X F.hm)) (a.args (.ref x) (.str name tk) v) ?_);have M1:Looks (Yv prog w) s.heap (mroOf (.ref C)) (.ref C::up):=hm▸(looks_clsIn X c).andThen .now;rw[osa_eq,refuse_eq];refine Yg (Yg (T.here (Yg (M1.here ?_))));rw[ah7,u.pass];exact Yt (Yg (T.here (Yg ((looks_findIn X hn).here (Yg (Yt h))))))
end
section
variable{K:Yc}{vs:Array Yd}{sl:Array (Option Yd)}
theorem O2(F:ON K C)(X:K.In s.heap)(a:s.heap.get? x=Ya ⟨.ref C,Yb,.fields vs,sl⟩)(hn:gf K (.ref C) name=Ya Yb)(h:∀h',h'.get? x=Ya ⟨.ref C,Ya s.heap.objs.size,.fields vs,sl⟩->h'.Ns1 s.heap.objs.size (λy=>if y=name then Ya v else Yb)->(∀b o,b≠x->s.heap.get? b=Ya o->h'.get? b=Ya o)->Q () {s with heap:=h',toks:=s.toks+ 2}):
  Ys (Yv prog w) A (afC (.ref x) name v) Q E s:=by
 obtain⟨q,up,f,hd,hm,u⟩:=F.cl;obtain⟨hp,g,d,t,os⟩:=s;have J:InstAt hp x ⟨.ref C,Yb,.fields vs,sl⟩ C none:=⟨a,rfl,rfl,aba⟩;have j:Vs hp x C:=⟨_,a,rfl⟩;refine aeC X J F.sa (Hw (s:=⟨hp,g,d,t+ 1,os⟩) F X j f hm u hn ?_);refine Yg (Yt (Yg (Yg (afD a (Yg (aei (s:=⟨hp,g,d,t+ 1,os⟩) (adX X f) ?_))))));rw[hd];have lt:x<hp.objs.size:=Yz a;have ne:x≠hp.objs.size:=YN lt;have c:(hp.push emptyDict).get? x=Ya ⟨.ref C,Yb,.fields vs,sl⟩:=Yj _ a;refine Yg (wpAny_alloc (Yg (wpAny_update c (Yt ?_))));have k:=aar (λo:pe=>{o with dict:=Ya hp.objs.size}) c rfl;have l:=(agn (hp.push emptyDict) hp.objs.size x (λo:pe=>{o with dict:=Ya hp.objs.size}) (Ne.symm ne)).trans (Yx hp rfl);refine Ib (s:=⟨(hp.push emptyDict).update x λo=>{o with dict:=Ya hp.objs.size},g,d,t+ 1,os⟩) (mA:=λ_=>Yb) (ns:=[]) (Heap.Ns1.of_empty ⟨emptyDict,#[],_,l,rfl,(λe m=>absurd m (by simp)),λ_=>rfl⟩) (λy z=>absurd rfl z) (cT _) λh' n i=>?_;refine h h' ((i.2 x ne).trans k) n λb o p e=>?_;exact(i.2 b (YN (Yz e))).trans ((agn _ _ _ _ p).trans (Yj _ e))
theorem Qa(F:ON K C)(X:K.In s.heap)(b:s.heap.get? x=Ya ⟨.ref C,Ya dx,.fields vs,sl⟩)(N:s.heap.Ns1 dx mA)(hw:aeh mA ns)(hz:ns.length<=YB)(hn:gf K (.ref C) name=Ya Yb)(h:∀h',h'.Ns1 dx (λy=>if y=name then Ya v else mA y)->aan dx s.heap h'->Q () {s with heap:=h',toks:=s.toks+ 2}):
  Ys (Yv prog w) A (afC (.ref x) name v) Q E s:=by
 obtain⟨j,up,c,hd,hm,u⟩:=F.cl;obtain⟨hp,g,d,t,os⟩:=s;obtain⟨od,k,l,ho,r⟩:=id N;have J:InstAt hp x ⟨.ref C,Ya dx,.fields vs,sl⟩ C (Ya od):=⟨b,rfl,rfl,ho⟩;have e:Vs hp x C:=⟨_,b,rfl⟩;refine aeC X J F.sa (Hw (s:=⟨hp,g,d,t+ 1,os⟩) F X e c hm u hn ?_);refine Yg (Yt (Yg (Yg (afD b (Yg (aei (s:=⟨hp,g,d,t+ 1,os⟩) (adX X c) ?_))))));rw[hd];refine Yt (a:=Ya dx) ?_;exact Ib (s:=⟨hp,g,d,t+ 1,os⟩) N hw hz λh' f i=>h h' f i
end
def Vh(e C:Ye)(od:Option Ye):YV->Prop:=λh=>∃a b c,h.get? e=Ya ⟨.ref C,od,.fields a,b⟩/\a[0]?=Ya c/\a[1]?=Ya .none
noncomputable abbrev xM(e C:Ye)(od:Option Ye):HO:=.ext (Vh e C od)
def W5(d:Ye)(fs:List (Yp×V)):YV->Prop:=λh=>∃a,h.Ns1 d a/\(∀f,lX (fs.lookup f) (a f))/\aeh a (fs.map (·.1))
noncomputable abbrev xN(d:Ye)(fs:List (Yp×V)):HO:=.ext (W5 d fs)
theorem Vh.ok{od:Option Ye}(x:Vh e C od h):cD P w H h e (xM e C od):=by
 obtain⟨a,b,c,g,r⟩:=id x;exact⟨x,⟨_,g⟩,λh1 h2 ⟨a,b,c,g,r⟩ k=>⟨a,b,c,k _ g,r⟩⟩
theorem W5.ok(x:W5 d fs h):cD P w H h d (xN d fs):=by
 obtain⟨mA,n,_⟩:=id x;obtain⟨o,_,_,g,_⟩:=id n;exact⟨x,⟨o,g⟩,λh1 h2 ⟨mA,n,r⟩ k=>⟨mA,n.at k,r⟩⟩
section
variable{f:Yp}{y:V}{u:Yd}
theorem aO.both{h':YV}{t':Nat}{φ a d:YV->Prop}(I:aO X Za σ H s)(f:H e=Ya (.ext φ))(k:∀b o,b≠e->s.heap.get? b=Ya o->h'.get? b=Ya o)(hp:s.heap.objs.size<=dx)(ne:dx≠e)
  (n1:cD X.prog X.w (upd (upd H dx (.ext a)) e (.ext d)) h' e (.ext d)) (n2:cD X.prog X.w (upd (upd H dx (.ext a)) e (.ext d)) h' dx (.ext a)):aO X Za σ (upd (upd H dx (.ext a)) e (.ext d)) {s with heap:=h',toks:=t'}:=by
 have j:H dx=none:=I.hok.fresh hp;have go:∀{b o},H b=Ya o->(∀φ,o≠.ext φ)->upd (upd H dx (.ext a)) e (.ext d) b=Ya o:=fun{b o} q n=>by
  rw[ak (λz=>by rw[z,f]at q;cases q;exact n _ rfl),ak (λz=>by rw[z,j]at q;cases q)];exact q
 have nn:∀{b},H b=Yb->b≠e:=fun{b} q z=>by rw[z,f]at q;cases q
 obtain⟨l,m⟩:∃o,h'.get? e=Ya o:=n1.2.1;refine I.un ⟨λb o q n _ _=>k b o (nn n) q,λb o q n _ _=>⟨o.slots,k b o (nn n) q⟩,λb o q n _=>?_,λb o q _=>?_,λb p q=>go q (by intro _ z;cases z),λb o u q=>go q (by intro _ z;cases z),λb ps q=>⟨#[],by rw[agB];exact go q (by intro _ z;cases z)⟩⟩ λb u q=>?_
 ·rw[ak (nn n),ak (YN (Y5 (Yz q) hp))];exact n
 ·by_cases z:b=e
  ·exact⟨l,z▸m⟩
  ·exact⟨o,k b o z q⟩
 ·by_cases z:b=e
  ·subst z;rw[af]at q;cases q;exact n1
  ·rw[ak z]at q;by_cases h:b=dx
   ·subst h;rw[af]at q;cases q;exact n2
   ·rw[ak h]at q;refine(I.hok b u q).stay (λc o t g=>k c o (λi=>?_) g) (λc r=>go r (by intro _ z;cases z)) λc p r=>go r (by intro _ z;cases z);rcases t with w|w
    ·exact z (w▸i)
    ·rw[i,f]at w;cases w
theorem VZ(I:aO X Za σ H s)(a:H e=Ya (xM e C Yb))(F:ON X.K C)(hn:gf X.K (.ref C) f=Ya Yb)(b:RelV y u)(h:∀s' dx,H dx=Yb->dx≠e->aO X Za σ (upd (upd H dx (xN dx [(f,y)])) e (xM e C (Ya dx))) s'->Q () s'):Ys (Yv X.prog X.w) A (afC (.ref e) f u) Q E s:=by
 obtain⟨c,d,i,g,j,l⟩:=(I.hok e _ a).1;have ne:s.heap.objs.size≠e:=abJ (Yz g);refine O2 F I.kIn g hn λp m n k=>h _ s.heap.objs.size (I.hok.fresh (Yl _)) ne ?_;refine I.both a k (Yl _) ne (Vh.ok ⟨c,d,i,m,j,l⟩) (W5.ok ⟨_,n,λg=>?_,λg o=>?_⟩)
 ·by_cases z:g=f
  ·rw[if_pos z,z];simp only[abU,beq_self_eq_true];exact b
  ·rw[if_neg z];simp only[abU,beq_eq_false_iff_ne.mpr z];trivial
 ·by_cases z:g=f
  ·rw[z];exact Yu
  ·exact absurd (if_neg z) o
theorem VC(I:aO X Za σ H s)(j:H e=Ya (xM e C (Ya dx)))(hd:H dx=Ya (xN dx fs))(F:ON X.K C)(hn:gf X.K (.ref C) f=Ya Yb)(hl:fs.length<1000)(k:RelV y u)(h:∀s',aO X Za σ (upd H dx (xN dx (dQ f y fs))) s'->Q () s'):Ys (Yv X.prog X.w) A (afC (.ref e) f u) Q E s:=by
 obtain⟨t,v,w,g,B,D⟩:=(I.hok e _ j).1;obtain⟨c,N,r,d⟩:=(I.hok dx _ hd).1;refine Qa F I.kIn g N d (by rw[Yf,aaB];omega) hn λl i m=>h _ ?_;have a:∃o,l.get? dx=Ya o:=let ⟨o,_,_,e',_⟩:=i;⟨o,e'⟩;refine I.write (x:=dx) (e:=dx) (by rw[hd];exact aba) (.inl rfl) (λb q n z=>(m.2 b n).trans z) a (W5.ok ⟨_,i,λg=>?_,λg p=>?_⟩)
 ·show lX ((dQ f y fs).lookup g) (if g=f then Ya u else c g);rw[pM];by_cases q:g=f
  ·rw[if_pos q,if_pos q];exact k
  ·rw[if_neg q,if_neg q];exact r g
 ·by_cases q:g=f
  ·rw[q];exact(mR f y fs).1
  ·refine(mR f y fs).2 g (d g λz=>p ?_);show(if g=f then Ya u else c g)=Yb;rw[if_neg q];exact z
def RZ(K:Yc)(ta tv:TE)(f:Yp):TS:=λD σ H=>tv σ H λy c=>ta σ c λx b=>∃e C,x=.ref e/\ON K C/\gf K (.ref C) f=Ya Yb/\
 ((b e=Ya (xM e C Yb)/\∀a,b a=Yb->a≠e->D.nx σ (upd (upd b a (xN a [(f,y)])) e (xM e C (Ya a))))∨
 ∃a fs,b e=Ya (xM e C (Ya a))/\b a=Ya (xN a fs)/\fs.length<1000/\D.nx σ (upd b a (xN a (dQ f y fs))))
theorem HR{K:Yc}{o b:cb}{ta tv:TE}{i:abz}(p:X.K=K)(ha:PE X o ta)(r:PE X b tv)(hs:adz b (Ya (.Attribute o f i)) pos.line X.env=pure false):PS X (.Assign [.Attribute o f i] b pos) (RZ K ta tv f):=by
 subst p;intro j s σ H D I h;refine adG (cL (r j s σ H _ I h) λu t c=>?_) hs;obtain⟨y,v,w,k,q⟩:=c;refine cL (ha j t σ v _ w q) λz G c=>?_;obtain⟨x,J,m,A,e,C,ex,F,n,a⟩:=c;subst ex;obtain rfl:z=YH e:=A;rcases a with⟨g,a⟩|⟨dx,fs,g,B,l,a⟩
 ·exact VZ m g F n k λE dx n1 n2 d=>⟨σ,_,d,a dx n1 n2⟩
 ·exact VC m g B F n l k λE d=>⟨σ,_,d,a⟩
end
section
variable{K:Yc}{fI:Ye}{g:Array aiq}{d:aht}{t:Nat}{os:OsState}
structure Wi(K:Yc)(C fI:Ye)(Zz:List Yd)(Zc:String):Prop where
 cl:∃N up,z9 K C N up Zc/\PySem.W.tailIn K Zz up=true
 init:gf K (.ref C) "__init__"=Ya (Ya (.ref fI))
 fn:ahT K (.ref fI)=Ya (.type "function")
 self:agd K C (.ref C)=Ya true
 kp:abE K (.ref C)=true
theorem O1{a:List Yd}(F:agC B Zc Zn Zz)(Z:Wi K C fI Zz Zc)(X:K.In h)(hl:a.length<=YB)(m:∀h' e,h.objs.size<=e->(∀b o,h.get? b=Ya o->h'.get? b=Ya o)->Vh e C Yb h'->
   Gr (Yv prog w) (A.under (.builtin "type.__call__" ⟨.ref C::a,[]⟩)) (.call (.ref fI) ⟨.ref e::a,[]⟩) (ag6 e R) ⟨h',g,d,t,os⟩):
  Gr (Yv prog w) A (.call (.ref C) ⟨a,[]⟩) R ⟨h,g,d,t,os⟩:=by
 obtain⟨N,up,⟨p,s,bs,k,sn,sub,ab,n,dd,u,x,y,D,E,lk⟩,tl⟩:=Z.cl;have c:=X C _ lk;have T:=tail_of_in X tl;have ty:(⟨h,g,d,t,os⟩:Yn).TypeIs (.ref C) "type":=⟨_,c,rfl⟩;have c1:=tc_lookup;have G:=tc_bind (.ref C);refine ahI (show Ys _ _ (callAny (.ref C) _) _ _ _ from ?_)
 repeat(any_goals(first|assumption|wp_step|(with_reducible refine acs c ?_)))
 refine⟨rfl,codeAny_call_builtin_at (ael _ (by decide +kernel)) entry_typeCall (wpAny_check_type_call_sub c ?_)⟩
 repeat(first|wp_step|(with_reducible refine acs c ?_)|(with_reducible refine wpAny_madeBy_exc c ?_))
 refine codeAny_call_builtin_code (ael _ F.quiet) (wpAny_check_new_subT F T c (codeAny_exc_new_subT F T c ?_ hl));have kp:∀b o,h.get? b=Ya o->((h.push {cls:=.type "tuple",data:=.seq a.toArray}).push {cls:=.ref C,data:=.fields #[.ref h.objs.size,.none,.none,.none,.bool false,.none]}).get? b=Ya o:=λb o q=>Yj _ (Yj _ q);have j:((h.push {cls:=.type "tuple",data:=.seq a.toArray}).push {cls:=.ref C,data:=.fields #[.ref h.objs.size,.none,.none,.none,.bool false,.none]}).get? (h.objs.size+ 1)=Ya {cls:=.ref C,data:=.fields #[.ref h.objs.size,.none,.none,.none,.bool false,.none]}:=by heap_get
 have l:=m _ _ (aaU _) kp ⟨_,_,_,j,rfl,rfl⟩;have i:K.In ((h.push {cls:=.type "tuple",data:=.seq a.toArray}).push {cls:=.ref C,data:=.fields #[.ref h.objs.size,.none,.none,.none,.bool false,.none]}):=λb o q=>kp b o (X b o q);show Ys _ _ _ _ _ ⟨(h.push {cls:=.type "tuple",data:=.seq a.toArray}).push {cls:=.ref C,data:=.fields #[.ref h.objs.size,.none,.none,.none,.bool false,.none]},g,d,t,os⟩;generalize (h.push {cls:=.type "tuple",data:=.seq a.toArray}).push {cls:=.ref C,data:=.fields #[.ref h.objs.size,.none,.none,.none,.bool false,.none]}=h2 at kp j l i⊢;have H:Looks (Yv prog w) h2 (ahD (.ref (h.objs.size+ 1))) (.ref C):=(Looks.ld j).andThen .now;have I:=looks_mroIn (M:=Yv prog w) i Z.self;have J:=looks_findIn (M:=Yv prog w) i Z.init;have L:=bind_fn (M:=Yv prog w) i (.ref (h.objs.size+ 1)) Z.fn;unfold isInstance callSpecial? specialOf
 repeat(first|with_reducible refine adK ?_|lk)
 refine codeAny_mono l λr s' z=>?_;cases r with
 |error e=>exact z
 |ok f=>
  cases f with
  |ret v=>
   obtain⟨rfl,z⟩:=z;exact Yt (Yt z)
  |next=>exact z.elim
  |brk=>exact z.elim
  |cont=>exact z.elim
end
def N3(C:Ye)(sp:Sp)(t:TA):TE:=λσ H Q=>t σ H λb c=>b.length<=YB/\∀a,c a=Yb->sp (.ref a::b) (upd c a (xM a C Yb)) (λv d=>v=.non/\Q (.ref a) d) E0
section
variable{k:Nat}{fd:YE}{ps:List Yp}{sp:Sp}
theorem Ka{Q:VK}{us:List Yd}{vs:List V}(l:agC B Zc Zn Zz)(Z:Wi X.K C f Zz Zc)(F:aH X.prog X.w X.K X.mg X.base bx k f fd ps sp)(m:cZ (k+ 1) X.A)(n:Binds X.K fd ps [])(I:aO X Za σ H s)(r:Vals vs us)(hl:vs.length<=YB)(h:∀b,H b=Yb->sp (.ref b::vs) (upd H b (xM b C Yb)) (λv o=>v=.non/\Q (.ref b) o) E0):
  Ys (Yv X.prog X.w) X.A (call (.ref C) us) (EP X Za σ Q) X.xe s:=by
 obtain⟨E,g,d,t,os⟩:=s;refine adK (O1 l Z I.kIn (by rw[←r.length];exact hl) λp e hp kp q=>?_);have i:=h e (I.hok.fresh hp);have c:=aO.laid (t':=t) I kp hp (Vh.ok (H:=upd H e (xM e C Yb)) q);have j:Vals (V.ref e::vs) (YH e::us):=.cons rfl r;have w:(YH e::us++[]).length=ps.length:=by rw[Y1,←j.length];exact F.len _ _ _ _ i
 have bd:=n ⟨p,g,d,t,os⟩ (YH e::us) c.kIn w;rw[Y1]at bd;refine codeAny_mono (F.run _ X.stack _ _ ⟨YH e::us,[]⟩ (YH e::us) _ _ E0 (m.make C us []) (c.env0.make C us []) bd j i) λr s' a=>?_;cases r with
 |error e=>exact a.elim
 |ok fl=>
  cases fl with
  |ret u=>
   obtain⟨v,x,y,z,A,D⟩:=c.after a;subst A;exact⟨z,⟨V.ref e,x,y,rfl,D⟩⟩
  |next=>exact aao a
  |brk=>exact aao a
  |cont=>exact aao a
theorem Om{x:Yp}{p:abz}{e:cb}{es:List cb}{t:TA}(d:agC B Zc Zn Zz)(Z:Wi X.K C f Zz Zc)(F:aH X.prog X.w X.K X.mg X.base bx k f fd ps sp)(g:cZ (k+ 1) X.A)(i:Gl X x)(hm:X.mg x=Ya (.ref C))(j:Binds X.K fd ps [])(ha:PA X (e::es) t)(a:(x==("__debug__":Yp))=false:=by decide)(l:YW (e::es) X.env=(false,lr e X.env)::YW es X.env:=by rfl)(b:(aad pos (YW es X.env)).any (·.1)=false:=by rfl):
  PE X (.Call (.Name x p) (e::es) [] pos) (N3 C sp t):=by
 intro m s σ H Q I h;refine aaR (nP I i hm ?_ a);exact abK (h₀:=X.base) I.ok.mod.kin Z.kp (cL (ha pos m s σ H _ I h) λus n ⟨o,u,c,r,hl,q⟩=>⟨c.kIn,Ka d Z F g j c r hl q⟩) l b
end
noncomputable def OK(H:Hp)(a:Ye):Hp:=λb=>if b=a then Yb else H b
theorem BM{b:Ye}(h:b≠a):OK H a b=H b:=if_neg h
theorem zw:OK H a a=none:=if_pos rfl
def HY(K:Yc)(c:Hp)(E:XK)(t:TE):TS:=λ_ σ H=>t σ H λv b=>∃a C od,v=.ref a/\b a=Ya (xM a C od)/\(∃N up d,z9 K C N up d/\up.contains (.type "BaseException")=true)/\c a=Yb/\E (.ref a) (Ya C) (OK b a)
section
variable{env:ack}
theorem Pa{K:Yc}{x:aex Yd}{Q:Flow->Yn->Prop}(f:A.handled=Yb)
  (h:Ys (Yv prog w) A x (λv a=>∃e o C N up Zc,v=.ref e/\K.In a.heap/\a.heap.get? e=Ya o/\o.cls=.ref C/\(∃vs,o.data=.fields vs/\vs[1]?=Ya .none)/\z9 K C N up Zc/\up.contains (.type "BaseException")=true/\E (.ref e) a) E s):
  Ys (Yv prog w) A (raiseStmt env (Ya x) Yb) Q E s:=by
 refine Yg (oh h (λv a z=>?_) λ_ _ z=>z);obtain⟨e,o,C,N,up,Zc,rfl,X,i,j,⟨vs,hd,h1⟩,⟨r,u,bs,c,sn,sub,ab,k,dd,y,B,D,F,G,lk⟩,l,m⟩:=z;obtain⟨hp,g,d,t,os⟩:=a;have n:=X C _ lk;have b:(YH C::up).contains (.type "BaseException")=true:=by rw[agA,l,aiA]
 obtain⟨H,od,p,q⟩:=o;cases j;cases hd
 repeat(first|wp_step|(with_reducible refine acs i ?_)|(with_reducible refine ad0 n ?_;rw[b]))
 rw[h1];refine Yt ?_;rw[if_neg (by decide)];exact Yt (agm f m)
end
section
variable{K:Yc}{mg:Yp->Option Yd}{base:YV}{N:List Yp}{Zb:Yp}{scope:acb}{cd:Yd}{outer:List ack}{E:XK}
theorem JZ{ex:cb}{F:TE}(t:PE (oZ (CT P w) P w K mg base N Zb scope f cd A outer s H E) ex F):PS (oZ (CT P w) P w K mg base N Zb scope f cd A outer s H E) (.Raise (Ya ex) Yb pos) (HY K H E F):=by
 intro O Q σ R D I h;rw[arm_exec_Raise];refine Yg (adu (Pa (K:=K) (I.ok.hd rfl) (Yg (cL (t O Q σ R _ I h) λv j S=>?_))));obtain⟨y,k,i,r,d,C,od,T,l,⟨U,up,V,W,x⟩,h0,q⟩:=S;refine Yg (adu (Yt ?_));subst T;obtain rfl:v=YH d:=r;obtain⟨X,sl,G,g,Y,J⟩:=(i.hok d _ l).1;refine⟨d,_,C,U,up,V,rfl,i.kIn,g,rfl,⟨X,rfl,J⟩,W,x,?_⟩;have hn:∀b o,s.heap.get? b=Ya o->b≠d:=λb o e z=>by
  subst z;have:=i.base.free b o e h0 (by intro z;cases z);rw[l]at this;cases this
 have fs:∀b∈mT (oZ (CT P w) P w K mg base N Zb scope f cd A outer s H E).stack,b≠d:=λb x z=>by
  have:=i.stkFree b x;rw[z,l]at this;cases this
 have m:∀{b o},k b=Ya o->(∀φ,o≠.ext φ)->OK k d b=Ya o:=fun{b o} e n=>by rw[BM (λz=>by rw[z,l]at e;cases e;exact n _ rfl)];exact e
 have un:Un (mT (oZ (CT P w) P w K mg base N Zb scope f cd A outer s H E).stack) [] k (OK k d) j.heap j.heap:=⟨λb o e _ _ _=>e,λb o e _ _ _=>⟨o.slots,e⟩,λb o _ n _=>by rw[BM (λz=>by rw[z,l]at n;cases n)];exact n,λb o e _=>⟨o,e⟩,λb Z e=>m e (by intro _ z;cases z),λb o u e=>m e (by intro _ z;cases z),λb ps e=>⟨#[],by rw[agB];exact m e (by intro _ z;cases z)⟩⟩;have hok:mS P w (OK k d) j.heap:=λb u e=>by
  by_cases z:b=d
  ·rw[z,zw]at e;cases e
  ·rw[BM z]at e;exact(i.hok b u e).stay (λ_ _ _ q=>q) (λc q=>m q (by intro _ z;cases z)) λc Z q=>m q (by intro _ z;cases z)
 have hB:∀b o,j.heap.get? b=Ya o->b∉mT (oZ (CT P w) P w K mg base N Zb scope f cd A outer s H E).stack->((∃B,s.heap.get? b=Ya B)∨∃u,OK k d b=Ya u)->(adH j.heap (d::mT (oZ (CT P w) P w K mg base N Zb scope f cd A outer s H E).stack)).get? b=Ya o:=λb o e n r=>agj _ e (λz=>by
  rcases Ym.mp z with z|z
  ·rcases r with⟨B,e0⟩|⟨u,hu⟩
   ·exact hn b B e0 z
   ·rw[z,zw]at hu;cases hu
  ·exact n z)
 have p:(adH j.heap (d::mT (oZ (CT P w) P w K mg base N Zb scope f cd A outer s H E).stack)).get? d=none:=afU _ Yu;refine wpAny_leaving_firstW (base:=adH j.heap (d::mT (oZ (CT P w) P w K mg base N Zb scope f cd A outer s H E).stack)) (a0:=G) i.ok.frames (PySem.W.funFrames_hide i.stack (λenv t a hf=>Yo _ (ac0.mpr ⟨env,t,hf⟩))) rfl g (λb o q=>ago _ q) p rfl J Y λh' L=>?_;obtain⟨M,⟨_,_,l2⟩,l3,l4⟩:=L;obtain⟨u1,u2,u3⟩:=Dj (s':=j) i rfl rfl rfl un hok hB M l4 rfl;exact⟨d,C,G,_,OK k d,rfl,i.os,i.bare,u1,u2,⟨M,p,l2,l3⟩,u3,zw,q⟩
end
end L2
namespace L2
open PySem PySem.Spec PyProof.Rows
variable{X:Cx}{Za:List (Ye×pe)}{D:qB}{x m:Yp}{pos:abz}{tb:(St->XK)->TS}{th:TS}{f C:Ye}{fd:YE}{ps:List Yp}{k:Nat}{sp:Sp}{ta:TE}{t:TA}{EE:St->XK}{E:XK}
def R4(K:Yc)(D:Ye)(tb:(St->XK)->TS)(b:TS):TS:=λDn σ H=>
 tb (λd e c f=>∃a C,e=.ref a/\c=Ya C/\Nd K C D/\b Dn d (upd f a (xO a C))) Dn σ H
theorem SP.unhnd{f:Flow}{s:Yn}{e:Yd}(ok:X.Ok)(h:SP (X.hnd e) Za D f s):SP X Za D f s:=by
 cases f with
 |next=>obtain⟨a,b,I,q⟩:=h;exact⟨a,b,I.unhnd ok,q⟩
 |brk=>obtain⟨a,b,I,q⟩:=h;exact⟨a,b,I.unhnd ok,q⟩
 |cont=>obtain⟨a,b,I,q⟩:=h;exact⟨a,b,I.unhnd ok,q⟩
 |ret u=>obtain⟨v,a,b,I,r,q⟩:=h;exact⟨v,a,b,I.unhnd ok,r,q⟩
theorem QI{K:Yc}{D L:Ye}{U j:abz}{O:List Y4}{P:Y4}{a:List Y4}(V:X.K=K)(b:X.stack=X.env::X.outer)(W:X.env.frame=Ya L)(Y:Gl X x)(hm:X.mg x=Ya (.ref D))(Z:Nd K D D)(hb:∀Za EE,CS (X.tr Za EE) O (tb EE))(hs:∀k,CS (X.hnd (.ref k)) (P::a) th)(n:(x==("__debug__":Yp))=false:=by decide):
  PS X (.Try O [.ExceptHandler (Ya (.Name x U)) Yb (P::a) j] [] [] pos) (R4 K D tb th):=by
 subst V;intro Za s σ H Dn I h;refine wpAny_Try_except ?_;refine oh (hb Za _ [] s σ H Dn (I.tr _) h) (λf Q q=>?_) λe Q q=>?_
 ·cases f with
  |next=>exact acU q.untr
  |brk=>exact q.untr
  |cont=>exact q.untr
  |ret u=>exact q.untr
 ·obtain⟨σ1,H1,s2,o,k,C,a0,B,H',rfl,os,R,un,hok,p,S,hn,_,_,e1,e2,l,ht⟩:=q;cases e1;cases e2;obtain⟨hh,g,d,t,ab⟩:=Q;have m:=p;rw[b]at m;have T:=o.ok.frames;rw[b]at T;refine wpAny_looks_onW T W m λh1 UC up1=>?_;refine wpAny_landsW UC λh2 c r=>?_;rw[←b]at c;have i:=up1.trans r;have J:=Fe o os R un hok p S hn c i;have v:=J.hnd (.ref k);refine wpAny_handleBy_cons (codeAny_handlers_test (nP (X:=X.hnd (.ref k)) v Y hm ?_ n)) (by intro q;cases q);obtain⟨_,_,_,⟨_,_,_,_,_,_,_,_,_,_,_,_,_,_,w⟩,_,y⟩:=l;obtain⟨_,_,_,⟨_,_,_,_,_,_,_,_,_,_,_,_,_,_,A⟩,E,_⟩:=Z;obtain⟨oe,F,G⟩:=c.there;refine Kb (v.kIn _ _ w) (v.kIn _ _ A) F G E y ?_;refine codeAny_handlers_suite (lands_againW c λh3 M N=>?_);have J3:=Fe o os R un hok p S hn M (i.trans N);exact oh (hs k Za _ _ _ Dn (J3.hnd _) ht) (λf s5 q=>q.unhnd J.ok) λ_ _ z=>z.elim
structure FY(K:Yc)(x Zb:Yp)(st:Y4)(f:Ye)(fd:YE)(ds:List Yd):Prop where
 ex:∃(oc:Yd) (od:Option Ye) (kV doc pm:Yd) (an:Option Ye) (cdv ct:Yd) (osl:Array (Option Yd)) (T:Ye) (tc:Yd) (td:Option Ye) (tn:Nat) (tsl:Array (Option Yd)),
  fd=aaS x Zb (gQ st) (dW st) (av st) (.ref T) kV doc pm an cdv ct/\K.lookup f=Ya ⟨oc,od,.func fd,osl⟩/\ade K cdv Zb=true/\K.lookup T=Ya ⟨tc,td,.seq ds.toArray tn,tsl⟩
section
variable{P:Y0}{w:Y7}{K:Yc}{mg:Yp->Option Yd}{base:YV}{Zb:Yp}{st:Y4}{ds ds':List Yd}
theorem FY.ok{N:List Yp}(F:FY K x Zb st f fd ds)(S:aG N ps (av st))(len:∀vs H Q E,sp vs H Q E->vs.length=ps.length)(b:∀(a:Yd) (A:uc) (outer:List ack) (s:Yn) (H:Hp) (vs:List V) (Q:VK) (E:XK),cZ k (A.deeper (acd Zb (av st) s.heap.objs.size f a))->sp vs H Q E->
   ∃t,CS (oZ bx P w K mg base N Zb (av st) f a A outer s H E).nox (dW st) t/\t {nx:=λ_ e=>Q .non e,rt:=Q} (start N vs) H):aH P w K mg base bx (k+ 1) f fd ps sp:=by
 obtain⟨m,od,kV,g,n,o,a,ct,i,T,tc,td,tn,j,rfl,lk,c,_⟩:=F.ex;refine L9 lk c S len λA outer s H vs Q E l d=>?_;obtain⟨t,h,q⟩:=b a A outer s H vs Q E l d;exact⟨t,h.nox,q⟩
theorem FY.binds(F:FY K x Zb st f fd ds)(h:∀(kV a c:Yd) (d:Option Ye) (b ct:Yd) (T:Ye) (us:List Yd),(us++ds').length=ps.length->∃k,afX (aaS x Zb (gQ st) (dW st) (av st) (.ref T) kV a c d b ct) ⟨us,[]⟩=agv (.ref T) >>= k/\k (Ya ds.toArray)=pure (ps.zip (us++ds'))):Binds K fd ps ds':=by
 obtain⟨l,od,kV,a,c,d,b,ct,e,T,tc,td,tn,g,rfl,lk,i,j⟩:=F.ex;intro s us X hl;obtain⟨k,h1,h2⟩:=h kV a c d b ct T us hl;exact .of_defaults rfl (X _ _ j) rfl h1 h2
theorem O9{i:Yd}{od g:Option Ye}{d:Array (Option Yd)}{kV b h a ct:Yd}{T:Ye}{tc:Yd}{td:Option Ye}{tn:Nat}{e:Array (Option Yd)}(l:K.lookup f=Ya ⟨i,od,.func (aaS x Zb (gQ st) (dW st) (av st) (.ref T) kV b h g a ct),d⟩)
  (c:ade K a Zb=true) (t:K.lookup T=Ya ⟨tc,td,.seq ds.toArray tn,e⟩):FY K x Zb st f (aaS x Zb (gQ st) (dW st) (av st) (.ref T) kV b h g a ct) ds:=⟨⟨i,od,kV,b,h,g,a,ct,d,T,tc,td,tn,e,rfl,l,c,t⟩⟩
end
def L0(C:Ye)(m:Yp)(sp:Sp)(c:St->XK)(ta:TE)(t:TA):TE:=λσ H Q=>ta σ H λx b=>∃a d fs,x=.ref a/\b a=Ya (.ins C d fs)/\fs.lookup m=Yb/\t σ b λe f=>sp (x::e) f Q (c σ)
section
variable{e o:cb}{es:List cb}{p Ze:abz}
theorem LM{pl:aex Bool}(A:PE (X.tr Za EE) o ta)(c:A0 X.K C)(hm:bE X.K C m f)(F:aH X.prog X.w X.K X.mg X.base (CT X.prog X.w) k f fd ps sp)(B:cZ k X.A)(D:Binds X.K fd ps [])(ha:PA (X.tr Za EE) (e::es) t)(g:YW (e::es) X.env=(false,lr e X.env)::YW es X.env:=by rfl)(i:(aad pos (YW es X.env)).any (·.1)=false:=by rfl)(E:lr (.Call (.Attribute o m Ze) (e::es) [] pos) X.env=(do
   let ov←lr o X.env
   adA Ze.atName
   let (f,first)←acu [ov] (ac2 ov m pl)
   ad3 pos f first (aad pos (YW (e::es) X.env)) (abl pos (aaC [] X.env))):=by rfl):
  PE (X.tr Za EE) (.Call (.Attribute o m Ze) (e::es) [] pos) (L0 C m sp EE ta t):=by
 intro n s σ H Q I h;refine abg (pl:=pl) (cL (A n s σ H _ I h) λu G J=>?_) E;obtain⟨x,K,p,L,a,N,fs,ex,M,l,q⟩:=J;subst ex;obtain rfl:u=YH a:=L;refine jM p M c hm l ?_;refine abK (first:=[.ref a]) (h₀:=X.base) I.ok.mod.kin hm.kp (cL (ha pos n G σ K _ p q) λus j ⟨v,w,b,r,y⟩=>⟨b.kIn,?_⟩) g i;have z:Vals (V.ref a::v) (YH a::us):=.cons rfl r;have hl:(YH a::us++[]).length=ps.length:=by rw[Y1,←z.length];exact F.len _ _ _ _ y
 have bd:=D j (YH a::us) b.kIn hl;rw[Y1]at bd;refine adK (codeAny_mono (F.run X.A X.stack j w ⟨.ref a::us,[]⟩ (.ref a::us) (.ref a::v) Q (EE σ) B b.env0 bd z y) λrs s' d=>?_);cases rs with
 |error e=>exact⟨σ,w,j,b.untr,d⟩
 |ok fl=>
  cases fl with
  |ret u=>exact b.after d
  |next=>exact aao d
  |brk=>exact aao d
  |cont=>exact aao d
end
section
variable{σ:St}{H:Hp}{Q:VK}
theorem O3(h:ta σ H λx b=>∃a c fs,x=.ref a/\b a=Ya (.ins C c fs)/\fs.lookup m=Yb/\t σ b λvs d=>sp (x::vs) d Q (EE σ)):L0 C m sp EE ta t σ H Q:=h
theorem Cn{b:List V}(h:ta σ H λx c=>∃a d fs,x=.ref a/\c a=Ya (.ins C d fs)/\fs.lookup m=Yb/\t σ c λvs e=>sp (x::(vs++b)) e Q E):RD C m sp b E ta t σ H Q:=h
theorem TL{K:Yc}{b:Ye}(h:tb (λd e c f=>∃a C,e=.ref a/\c=Ya C/\Nd K C b/\th D d (upd f a (xO a C))) D σ H):R4 K b tb th D σ H:=h
theorem NL{K:Yc}{b:Hp}{t:TE}(h:t σ H λv c=>∃a C od,v=.ref a/\c a=Ya (xM a C od)/\(∃N up d,z9 K C N up d/\up.contains (.type "BaseException")=true)/\b a=Yb/\E (.ref a) (Ya C) (OK c a)):HY K b E t D σ H:=h
theorem Q0(h:t σ H λvs b=>vs.length<=YB/\∀a,b a=Yb->sp (.ref a::vs) (upd b a (xM a C Yb)) (λv c=>v=.non/\Q (.ref a) c) E0):N3 C sp t σ H Q:=h
theorem Nz{K:Yc}{tv:TE}{f:Yp}(h:tv σ H λy c=>ta σ c λx b=>∃e C,x=.ref e/\ON K C/\gf K (.ref C) f=Ya Yb/\
 ((b e=Ya (xM e C Yb)/\∀a,b a=Yb->a≠e->D.nx σ (upd (upd b a (xN a [(f,y)])) e (xM e C (Ya a))))∨
 ∃a fs,b e=Ya (xM e C (Ya a))/\b a=Ya (xN a fs)/\fs.length<1000/\D.nx σ (upd b a (xN a (dQ f y fs))))):RZ K ta tv f D σ H:=h
theorem VR{r:List V->List V->Hp->VK->Prop}{tk:TA}(h:t σ H λvs a=>tk σ a λzs b=>r vs zs b Q):Xf r t tk σ H Q:=h
end
noncomputable def qW(me nu ha ro ma dn tk kp od tb ab:V):List (Yp×V):=[("me",me),("number",nu),("hands",ha),("room",ro),("made",ma),("done",dn),("took",tk),("keeps",kp),("order",od),("taken_by",tb),("able_by",ab)]
structure AI(K:Yc)(C:Ye):Prop where
 cl:A0 K C
 n1:cJ K C "me"
 n2:cJ K C "number"
 n3:cJ K C "hands"
 n4:cJ K C "room"
 n5:cJ K C "made"
 n6:cJ K C "done"
 n7:cJ K C "took"
 n8:cJ K C "keeps"
 n9:cJ K C "order"
 n10:cJ K C "taken_by"
 n11:cJ K C "able_by"
section
variable{me nu ha ro ma dn tk kp od tb ab v:V}
theorem Qb:dQ "able_by" ab (dQ "taken_by" tb (dQ "order" od (dQ "keeps" kp (dQ "took" tk (dQ "done" dn (dQ "made" ma (dQ "room" ro (dQ "hands" ha (dQ "number" nu (dQ "me" me []))))))))))=qW me nu ha ro ma dn tk kp od tb ab:=by kernel_rfl
theorem Kw:dQ "made" v (qW me nu ha ro ma dn tk kp od tb ab)=qW me nu ha ro v dn tk kp od tb ab:=by kernel_rfl
theorem F4:dQ "keeps" v (qW me nu ha ro ma dn tk kp od tb ab)=qW me nu ha ro ma dn tk v od tb ab:=by kernel_rfl
theorem yq:dQ "order" v (qW me nu ha ro ma dn tk kp od tb ab)=qW me nu ha ro ma dn tk kp v tb ab:=by kernel_rfl
theorem Ua:(qW me nu ha ro ma dn tk kp od tb ab).lookup ("me":Yp)=Ya me:=by kernel_rfl
theorem G9:(qW me nu ha ro ma dn tk kp od tb ab).lookup ("number":Yp)=Ya nu:=by kernel_rfl
theorem Kf:(qW me nu ha ro ma dn tk kp od tb ab).lookup ("hands":Yp)=Ya ha:=by kernel_rfl
theorem Mv:(qW me nu ha ro ma dn tk kp od tb ab).lookup ("room":Yp)=Ya ro:=by kernel_rfl
theorem NP:(qW me nu ha ro ma dn tk kp od tb ab).lookup ("made":Yp)=Ya ma:=by kernel_rfl
theorem MC:(qW me nu ha ro ma dn tk kp od tb ab).lookup ("done":Yp)=Ya dn:=by kernel_rfl
theorem M5:(qW me nu ha ro ma dn tk kp od tb ab).lookup ("took":Yp)=Ya tk:=by kernel_rfl
theorem Km:(qW me nu ha ro ma dn tk kp od tb ab).lookup ("keeps":Yp)=Ya kp:=by kernel_rfl
theorem Kv:(qW me nu ha ro ma dn tk kp od tb ab).lookup ("order":Yp)=Ya od:=by kernel_rfl
theorem BX:(qW me nu ha ro ma dn tk kp od tb ab).lookup ("taken_by":Yp)=Ya tb:=by kernel_rfl
theorem Fu:(qW me nu ha ro ma dn tk kp od tb ab).lookup ("able_by":Yp)=Ya ab:=by kernel_rfl
theorem qF:(qW me nu ha ro ma dn tk kp od tb ab).lookup ("check_room":Yp)=none:=by kernel_rfl
theorem LZ:(qW me nu ha ro ma dn tk kp od tb ab).lookup ("keep":Yp)=none:=by kernel_rfl
theorem zj:(qW me nu ha ro ma dn tk kp od tb ab).lookup ("kept_calls":Yp)=none:=by kernel_rfl
theorem Bo:(qW me nu ha ro ma dn tk kp od tb ab).lookup ("utter":Yp)=none:=by kernel_rfl
theorem Oi:(qW me nu ha ro ma dn tk kp od tb ab).lookup ("step":Yp)=none:=by kernel_rfl
theorem N5:(qW me nu ha ro ma dn tk kp od tb ab).lookup ("take":Yp)=none:=by kernel_rfl
theorem Hj:(qW me nu ha ro ma dn tk kp od tb ab).lookup ("let_go":Yp)=none:=by kernel_rfl
theorem vO:(qW me nu ha ro ma dn tk kp od tb ab).lookup ("piece":Yp)=none:=by kernel_rfl
theorem Gx:(qW me nu ha ro ma dn tk kp od tb ab).lookup ("listen":Yp)=none:=by kernel_rfl
theorem BU:(qW me nu ha ro ma dn tk kp od tb ab).lookup ("keep_new":Yp)=none:=by kernel_rfl
theorem N7:(qW me nu ha ro ma dn tk kp od tb ab).lookup ("rows":Yp)=none:=by kernel_rfl
theorem GP:(qW me nu ha ro ma dn tk kp od tb ab).lookup ("places":Yp)=none:=by kernel_rfl
theorem Pn:(qW me nu ha ro ma dn tk kp od tb ab).length<1000:=by show 11<1000;decide
end
end L2
namespace GX
open PySem PySem.Spec PyProof.Rows
variable{prog:Y0}{w:Y7}{A:uc}{s:Yn}{it:Ye}{R:acv->Yn->Prop}{S:uc->(acv->Yn->Prop)->Yn->Prop}{Q:Option Yd->Yn->Prop}{e:xi}
noncomputable abbrev zR(a:Yd)(d:Ye)(i n ep:Nat)(ok b:Yd):pe:={cls:=.type "dict_itemiterator",data:=.fields #[a,.bool false,.ref d,.int i 0,.int n 0,.int ep 0,ok,b]}
noncomputable abbrev CG(d:Ye)(i n ep:Nat):pe:={cls:=.type "dict_keyiterator",data:=.fields #[.ref d,.int i 0,.int n 0,.int ep 0]}
theorem Lj(it d:Ye)(i ep:Nat)(es:Array xi)(e:xi)(a:es[i]?=Ya e):
  acp (GV.«dict_keyiterator.__next__» ⟨[.ref it],[]⟩) (λ_ R s=>s.heap.get? it=Ya (CG d i es.size ep)/\s.heap.get? d=Ya (kI es ep)/\
   ∀g,g.get? it=Ya (CG d (i+ 1) es.size ep)->aan it s.heap g->R (.ok (.ret e.key)) {s with heap:=g}):=
 .of_wp λprog w A R s ⟨h1,h2,q⟩=>by
  obtain⟨h,g,b,tk,os⟩:=s;have c:BD {heap:=h,gens:=g,drawn:=b,toks:=tk,os:=os} (.ref it) "dict_keyiterator":=⟨_,h1,rfl⟩
  wp_walk
  rw[if_neg (by omega),YO,a]
  wp_walk
  have ow:aaX ((Manifest.find? "dict_keyiterator").elim "dict_keyiterator" λx=>x.tpName)=false:=by decide +kernel
  refine⟨_,rfl,q _ ?_ (aaq ..)⟩;rw[aar _ h1 rfl,ow];simp[adv,aaY];intro x a hm;exfalso
  revert x a hm
  decide +kernel
theorem PY(it d:Ye)(i ep:Nat)(es:Array xi)(a:es.size<=i):
  acp (GV.«dict_keyiterator.__next__» ⟨[.ref it],[]⟩) (λA R s=>A.handled=Yb/\s.heap.get? it=Ya (CG d i es.size ep)/\s.heap.get? d=Ya (kI es ep)/\
   ∀g e,adq it s.heap g->BD {s with heap:=g} (.ref e) "StopIteration"->R (.error (.ref e)) {s with heap:=g}):=
 .of_wp λprog w A R s ⟨h0,h1,h2,q⟩=>by
  obtain⟨h,g,c,tk,os⟩:=s;have k:BD {heap:=h,gens:=g,drawn:=c,toks:=tk,os:=os} (.ref it) "dict_keyiterator":=⟨_,h1,rfl⟩;have f:A.in1.handled=none:=h0
  wp_walk
  rw[if_neg (by omega),YO,aaN a]
  wp_walk
  simp only[ahd]
  wp_walk
  exact q _ _ (λb o j e=>Yj _ (Yj _ (((aaq ..).2 b j).trans e))) ⟨_,Yx _ rfl,rfl⟩
theorem LS(it d:Ye)(i ep:Nat)(ok k:Yd)(es:Array xi)(e:xi)(z:es[i]?=Ya e):
  acp (GV.«dict_itemiterator.__next__» ⟨[.ref it],[]⟩) (λ_ R s=>s.heap.get? it=Ya (zR .none d i es.size ep ok k)/\s.heap.get? d=Ya (kI es ep)/\
   ∀g,g.get? it=Ya (zR (aaY s.heap.objs.size) d (i+ 1) es.size ep e.key e.val)->g.get? s.heap.objs.size=Ya {cls:=.type "tuple",data:=.seq #[e.key,e.val]}->(∀b o,b≠it->s.heap.get? b=Ya o->g.get? b=Ya o)->R (.ok (.ret (.ref s.heap.objs.size))) {s with heap:=g}):=
 .of_wp λprog w A R s ⟨h1,h2,q⟩=>by
  obtain⟨h,g,f,tk,os⟩:=s;have m:BD {heap:=h,gens:=g,drawn:=f,toks:=tk,os:=os} (.ref it) "dict_itemiterator":=⟨_,h1,rfl⟩;have ow:aaX ((Manifest.find? "dict_itemiterator").elim "dict_itemiterator" λx=>x.tpName)=true:=by decide +kernel
  wp_walk
  rw[if_neg (by omega),YO,z];have lt:it<h.objs.size:=Yz h1;have up:((i:Int)+ 1)=((i+ 1:Nat):Int):=by omega
  refine Yg (Yg (adT m (Yt ?_)));refine Yg (ads m ?_);show Ys _ _ (af5 (.ref it) 3 (aaY ((i:Int)+ 1)) >>= _) _ _ ⟨h,g,f,tk,os⟩;rw[up];refine Yg (abO h1 (by simp) λc l n=>?_);have l:c.get? it=Ya (zR .none d (i+ 1) es.size ep ok k):=l;have p:BD ⟨c,g,f,tk,os⟩ (.ref it) "dict_itemiterator":=⟨_,l,rfl⟩;refine Yg (aaI (Yg (ads p (Yg (ads p ?_)))));show Ys _ _ (ahl (.ref it) 6 e.key e.val) _ _ ⟨c,g,f,tk,os⟩;refine Yg (afM ?_);have r:c.objs.size=h.objs.size:=n.1;have t:∀b o,b≠it->h.get? b=Ya o->(c.push {cls:=.type "tuple",data:=.seq #[e.key,e.val]}).get? b=Ya o:=λb o a q=>Yj _ ((n.2 b a).trans q);have j:(c.push {cls:=.type "tuple",data:=.seq #[e.key,e.val]}).get? it=Ya (zR .none d (i+ 1) es.size ep ok k):=Yj _ l;have u:(c.push {cls:=.type "tuple",data:=.seq #[e.key,e.val]}).get? h.objs.size=Ya {cls:=.type "tuple",data:=.seq #[e.key,e.val]}:=by rw[←r];exact Yx _ rfl
  rw[r];generalize c.push {cls:=.type "tuple",data:=.seq #[e.key,e.val]}=g2 at t j u⊢;show Ys _ _ (agI (.ref it) >>= _) _ _ ⟨g2,g,f,tk,os⟩;refine Yg (Yg (ado j rfl (x:=.none) rfl (Yt ?_)));rw[if_pos rfl];refine Yg (ado j rfl (x:=ok) rfl (Yg (ado j rfl (x:=k) rfl ?_)));refine Yg (abO j (by simp) λJ B C=>Yg (abO B (by simp) λK D E=>Yg (abO D (by simp) λL F G=>Yg (abO F (by simp) λv H I=>?_))));have y:∀b o,b≠it->g2.get? b=Ya o->v.get? b=Ya o:=λb o a q=>(I.2 b a).trans ((G.2 b a).trans ((E.2 b a).trans ((C.2 b a).trans q)));exact Yg (wpAny_letGo (Yt (Yt ⟨_,rfl,q v H (y _ _ (abJ lt) u) λb o a w=>y b o a (t b o a w)⟩)))
theorem OX(it d:Ye)(i ep:Nat)(ok a:Yd)(es:Array xi)(c:es.size<=i):
  acp (GV.«dict_itemiterator.__next__» ⟨[.ref it],[]⟩) (λA R s=>A.handled=Yb/\s.heap.get? it=Ya (zR .none d i es.size ep ok a)/\s.heap.get? d=Ya (kI es ep)/\
   ∀g e,adq it s.heap g->BD {s with heap:=g} (.ref e) "StopIteration"->R (.error (.ref e)) {s with heap:=g}):=
 .of_wp λprog w A R s ⟨h0,h1,h2,q⟩=>by
  obtain⟨h,g,f,tk,os⟩:=s;have j:BD {heap:=h,gens:=g,drawn:=f,toks:=tk,os:=os} (.ref it) "dict_itemiterator":=⟨_,h1,rfl⟩;have k:A.in1.handled=none:=h0
  wp_walk
  rw[if_neg (by omega),YO,aaN c];refine Yg (Yg (adT j (Yt ?_)));refine Yg (abO h1 (by show _<8;split<;>decide) λn p l=>?_)
  wp_walk
  simp only[ahd]
  wp_walk
  exact q _ _ (λb o m e=>Yj _ (Yj _ ((l.2 b m).trans e))) ⟨_,Yx _ rfl,rfl⟩
theorem S5(d:Ye)(es:Array xi)(ep:Nat)(hd:(d==aag)=false):
  acp (GV.«dict.items» ⟨[.ref d],[]⟩) (λ_ R s=>s.heap.get? d=Ya (kI es ep)/\R (.ok (.ret (.ref s.heap.objs.size))) {s with heap:=s.heap.push {cls:=.type "dict_items",data:=.fields #[.ref d]}}):=
 .of_wp λprog w A R s ⟨h1,q⟩=>by
  obtain⟨h,g,a,tk,os⟩:=s;have b:BD {heap:=h,gens:=g,drawn:=a,toks:=tk,os:=os} (.ref d) "dict":=⟨_,h1,rfl⟩
  wp_walk
  exact⟨_,rfl,q⟩
theorem LX(v d:Ye)(ep:Nat)(es:Array xi):
  acp (GV.«dict_items.__iter__» ⟨[.ref v],[]⟩) (λA R s=>s.heap.get? v=Ya {cls:=.type "dict_items",data:=.fields #[.ref d]}/\s.heap.get? d=Ya (kI es ep)/\
   R (.ok (.ret (.ref s.heap.objs.size))) {s with heap:=s.heap.push (zR .none d 0 es.size ep .none .none)}):=
 .of_wp λprog w A R s ⟨h1,h2,q⟩=>by
  obtain⟨h,g,a,tk,os⟩:=s;have b:BD {heap:=h,gens:=g,drawn:=a,toks:=tk,os:=os} (.ref v) "dict_items":=⟨_,h1,rfl⟩
  wp_walk
  have ow:aaX "dict_itemiterator"=true:=by decide +kernel
  rw[ow];exact⟨_,rfl,q⟩
theorem J1(d:Ye)(ep:Nat)(es:Array xi)(hd:(d==aag)=false):
  acp (GV.«dict.__iter__» ⟨[.ref d],[]⟩) (λA R s=>s.heap.get? d=Ya (kI es ep)/\R (.ok (.ret (.ref s.heap.objs.size))) {s with heap:=s.heap.push (CG d 0 es.size ep)}):=
 .of_wp λprog w A R s ⟨h1,q⟩=>by
  obtain⟨h,g,a,tk,os⟩:=s;have b:BD {heap:=h,gens:=g,drawn:=a,toks:=tk,os:=os} (.ref d) "dict":=⟨_,h1,rfl⟩
  wp_walk
  exact⟨_,rfl,q⟩
theorem LY(a:s.TypeIs (.ref it) "dict_itemiterator")(m:acp (GV.«dict_itemiterator.__next__» ⟨[.ref it],[]⟩) S)(h:S A R s):
  Gr (Yv prog w) A (.call (.builtin "dict_itemiterator.__next__") ⟨[.ref it],[]⟩) R s:=
 aaW F.slot_dict_itemiterator_next.plain F.entry_dict_itemiterator_next (F.slot_dict_itemiterator_next.check _ _ _ _ _ _ _ _ a (F.args_dict_itemiterator_next_1 _) (m prog w A R s h))
theorem L8(a:s.TypeIs (.ref it) "dict_keyiterator")(m:acp (GV.«dict_keyiterator.__next__» ⟨[.ref it],[]⟩) S)(h:S A R s):
  Gr (Yv prog w) A (.call (.builtin "dict_keyiterator.__next__") ⟨[.ref it],[]⟩) R s:=
 aaW F.slot_dict_keyiterator_next.plain F.entry_dict_keyiterator_next (F.slot_dict_keyiterator_next.check _ _ _ _ _ _ _ _ a (F.args_dict_keyiterator_next_1 _) (m prog w A R s h))
section
variable{E:Yd->Yn->Prop}{v d:Ye}{es:Array xi}{i ep:Nat}{ok ov:Yd}
theorem KA{Q:Yd->Yn->Prop}(a:(d==aag)=false)(rd:hV s.heap d es ep)
  (q:Q (.ref s.heap.objs.size) {s with heap:=s.heap.push {cls:=.type "dict_items",data:=.fields #[.ref d]}}):Ys (Yv prog w) A (call (.builtin "dict.items") [.ref d]) Q E s:=
 adf F.slot_dict_items ⟨_,rd,rfl⟩ F.entry_dict_items (F.args_dict_items_1 _) (S5 d es ep a) ⟨rd,q⟩
theorem Jj{Q:Yd->Yn->Prop}(a:s.heap.get? v=Ya {cls:=.type "dict_items",data:=.fields #[.ref d]})(rd:hV s.heap d es ep)
  (q:Q (.ref s.heap.objs.size) {s with heap:=s.heap.push (zR .none d 0 es.size ep .none .none)}):Ys (Yv prog w) A (adm (.ref v)) Q E s:=by
 have T:s.TypeIs (.ref v) "dict_items":=⟨_,a,rfl⟩;apply acq T F.slot_dict_items_iter;apply adf F.slot_dict_items_iter T F.entry_dict_items_iter (F.args_dict_items_iter_1 _) (LX v d ep es);exact⟨a,rd,"dict_itemiterator",_,⟨_,Yx _ rfl,rfl⟩,F.slot_dict_itemiterator_next.lookup,q⟩
theorem J4{Q:Yd->Yn->Prop}(a:(d==aag)=false)(rd:hV s.heap d es ep)
  (q:Q (.ref s.heap.objs.size) {s with heap:=s.heap.push (CG d 0 es.size ep)}):Ys (Yv prog w) A (adm (.ref d)) Q E s:=by
 have T:s.TypeIs (.ref d) "dict":=⟨_,rd,rfl⟩;apply acq T F.slot_dict_iter;apply adf F.slot_dict_iter T F.entry_dict_iter (F.args_dict_iter_1 _) (J1 d ep es a);exact⟨rd,"dict_keyiterator",_,⟨_,Yx _ rfl,rfl⟩,F.slot_dict_keyiterator_next.lookup,q⟩
theorem KI(f:s.heap.get? it=Ya (zR .none d i es.size ep ok ov))(rd:hV s.heap d es ep)(h:es[i]?=Ya e)(j:∀g,g.get? it=Ya (zR (aaY s.heap.objs.size) d (i+ 1) es.size ep e.key e.val)->g.get? s.heap.objs.size=Ya {cls:=.type "tuple",data:=.seq #[e.key,e.val]}->(∀b o,b≠it->s.heap.get? b=Ya o->g.get? b=Ya o)->Q (Ya (.ref s.heap.objs.size)) {s with heap:=g}):Ys (Yv prog w) A (aaA (.ref it)) Q E s:=by
 have k:s.TypeIs (.ref it) "dict_itemiterator":=⟨_,f,rfl⟩;have l:=F.slot_dict_itemiterator_next.lookup;have m:=F.slot_dict_itemiterator_next.bind (.ref it);unfold aaA
 repeat' first|assumption|wp_step
 exact LY k (LS it d i ep ok ov es e h) ⟨f,rd,λg a b c=>Yt (Yt (j g a b c))⟩
theorem JN(c:s.heap.get? it=Ya (CG d i es.size ep))(rd:hV s.heap d es ep)(f:es[i]?=Ya e)(h:∀g,g.get? it=Ya (CG d (i+ 1) es.size ep)->aan it s.heap g->Q (Ya e.key) {s with heap:=g}):Ys (Yv prog w) A (aaA (.ref it)) Q E s:=by
 have j:s.TypeIs (.ref it) "dict_keyiterator":=⟨_,c,rfl⟩;have k:=F.slot_dict_keyiterator_next.lookup;have l:=F.slot_dict_keyiterator_next.bind (.ref it);unfold aaA
 repeat' first|assumption|wp_step
 exact L8 j (Lj it d i ep es e f) ⟨c,rd,λg a b=>Yt (Yt (h g a b))⟩
theorem Mt(f:A.handled=Yb)(c:s.heap.get? it=Ya (zR .none d i es.size ep ok ov))(rd:hV s.heap d es ep)(h:es.size<=i)(fin:∀g,adq it s.heap g->Q Yb {s with heap:=g}):Ys (Yv prog w) A (aaA (.ref it)) Q E s:=by
 have j:s.TypeIs (.ref it) "dict_itemiterator":=⟨_,c,rfl⟩;have l:=F.slot_dict_itemiterator_next.lookup;have m:=F.slot_dict_itemiterator_next.bind (.ref it);have k:aid (.type "StopIteration") (.type "StopIteration")=pure true:=by rw[acz];kernel_rfl
 unfold aaA
 repeat' first|assumption|wp_step
 refine LY j (OX it d i ep ok ov es h) ⟨f,c,rd,λg e a b=>?_⟩;have n:=fin g a
 repeat' first|assumption|wp_step
theorem L7(f:A.handled=Yb)(c:s.heap.get? it=Ya (CG d i es.size ep))(rd:hV s.heap d es ep)(h:es.size<=i)(fin:∀g,adq it s.heap g->Q Yb {s with heap:=g}):Ys (Yv prog w) A (aaA (.ref it)) Q E s:=by
 have j:s.TypeIs (.ref it) "dict_keyiterator":=⟨_,c,rfl⟩;have l:=F.slot_dict_keyiterator_next.lookup;have m:=F.slot_dict_keyiterator_next.bind (.ref it);have k:aid (.type "StopIteration") (.type "StopIteration")=pure true:=by rw[acz];kernel_rfl
 unfold aaA
 repeat' first|assumption|wp_step
 refine L8 j (PY it d i ep es h) ⟨f,c,rd,λg e a b=>?_⟩;have n:=fin g a
 repeat' first|assumption|wp_step
end
end GX
namespace L2
open PySem PySem.Spec PyProof.Rows
variable{P prog:Y0}{w:Y7}{H:Hp}{h:YV}{d it D:Ye}{kvs:List (List bR×V)}{es:Array xi}{ep x1:Nat}{Zx:List cb}{tp:abz}{o:pe}{tg e:cb}{X:Cx}{σ:St}{td te:TE}{R:It->Hp->Prop}{g:TG}{tt:TT}{Qe:Hp->Prop}{A:uc}{E:Yd->Yn->Prop}{s:Yn}{v:Yd}{Q:Bool->Yn->Prop}{k:List Int}{f b fin:Bool}{vs:List Yd}{ks:List (List Int)}
theorem ya(ok:mS P w H h)(e:Rd H d (.dT kvs)):
  (d==aag)=false/\∃(es:Array xi) (ep:Nat),GX.hV h d es ep/\es.size=kvs.length/\∀(i:Nat) (k:List bR) (v:V),kvs[i]?=Ya (k,v)->∃(y:xi) (b:Ye),es[i]?=Ya y/\y.key=.ref b/\H b=Ya (.tup (k.map kV))/\RelV v y.val:=by
 obtain⟨_,c,m,a,o,es,ep,h1,h2,h3,h4,_⟩:=sr ok e;refine⟨c,es,ep,.of h1 h2 h3,?_,λi k v f=>?_⟩
 ·rw[←pk,h4,Yf];exact(Y2 a).symm
 ·obtain⟨q,g,n,j,l⟩:=cR a f;refine⟨afT (abf (bf P w)) q,q.2.1,?_,rfl,j,l⟩;rw[←sq,h4,Yy,g];rfl
noncomputable def FT(d:Ye)(o:pe)(kvs:List (List bR×V)):It:=
 ⟨λi H=>i<kvs.length/\H d=Ya (.frz o (.dT kvs)),λi H x c=>∃k v a b,kvs[i]?=Ya (k,v)/\H a=Yb/\H b=Ya (.tup (k.map kV))/\x=.ref a/\c=upd H a (.tup [.ref b,v]),λi H=>kvs.length<=i/\H d=Ya (.frz o (.dT kvs))⟩
noncomputable def FX(d:Ye)(o:pe)(kvs:List (List bR×V)):It:=
 ⟨λi H=>i<kvs.length/\H d=Ya (.frz o (.dT kvs)),λi H x a=>a=H/\∃k v b,kvs[i]?=Ya (k,v)/\H b=Ya (.tup (k.map kV))/\x=.ref b,λi H=>kvs.length<=i/\H d=Ya (.frz o (.dT kvs))⟩
theorem Df{f:Array xi}{c:Nat}(a:GX.hV h d es ep)(b:GX.hV h d f c):es=f:=by
 have e:GX.kI es ep=GX.kI f c:=YF (a.symm.trans b);cases e;rfl
theorem Dm{K:Yc}(sz:es.size=kvs.length)(u:∀h:YV,h.get? d=Ya o->GX.hV h d es ep):
  Turn P w K (.Tuple Zx x1 tp) (FT d o kvs) [it] it (λi h=>∃ok j,h.get? it=Ya (GX.zR .none d i es.size ep ok j)) where
 mem:=by simp
 obj:=λi h ⟨ok,j,st⟩ b l=>by
  have e:b=it:=by simpa using l
  subst e;exact⟨_,st,λv z=>by cases z⟩
 keep:=λi h x ⟨ok,j,st⟩ k=>⟨ok,j,k it (by simp) _ st⟩
 item:=by
  intro X A hw B t i Q s σ H E I C st D;subst A hw B;obtain⟨ok,j,a⟩:=st;obtain⟨R,hd⟩:=D;have f:s.heap.get? d=Ya o:=(show s.heap.get? d=Ya o/\_ from I.hok d _ hd).1;have S:kvs[i]?=Ya kvs[i]:=Yk R;obtain⟨_,Zm,T,F,_,G⟩:=ya I.hok (.inr ⟨o,hd⟩);obtain rfl:=Df (u _ f) F;obtain⟨y,b,U,V,l,W⟩:=G i kvs[i].1 kvs[i].2 S;refine GX.KI a (u _ f) U λx g m kp=>?_;have n:s.heap.objs.size≠it:=λz=>by
   have:=Yz a;rw[←z]at this;exact Y9 _ this
  have p:=C it (by simp);have Y:aO X Q σ (upd H s.heap.objs.size (.tup [.ref b,kvs[i].2])) {s with heap:=x}:=
   I.turnLay kp p ⟨_,g⟩ (Yl _) n ⟨by show 2<=YB;decide,[y.key,y.val],.cons V (.cons W .nil),_,m,rfl,0,rfl,rfl,rfl⟩
  refine⟨_,rfl,aek g λh2 q Z=>?_⟩;obtain⟨J,L,f2,M,N,O⟩:=p;have r:(upd H s.heap.objs.size (.tup [.ref b,kvs[i].2])) it=none:=by rw[ak (Ne.symm n)];exact J
  refine⟨.ref s.heap.objs.size,_,Y.turned (t':=s.toks) (λb o l e=>(Z.2 b l).trans e) r L M N O,rfl,⟨_,_,_,b,S,I.hok.fresh (Yl _),l,rfl,rfl⟩,⟨y.key,y.val,q⟩,λc t=>?_⟩;have e:c=it:=by simpa using t
  rw[e];exact r
 done:=by
  intro X A hw B t i Q s σ H E I C st D;subst A hw B;obtain⟨ok,j,a⟩:=st;obtain⟨R,hd⟩:=D;have f:s.heap.get? d=Ya o:=(show s.heap.get? d=Ya o/\_ from I.hok d _ hd).1;obtain⟨J,L,f2,M,N,O⟩:=C it (by simp);exact GX.Mt (I.ok.hd t) a (u _ f) (by omega) λx eb=>⟨rfl,I.turned (t':=s.toks) (λb o l e=>eb b o l e) J L M N O⟩
 self:=λ_ _ _ _ _ ⟨ok,j,st⟩ h=>ahb st h
theorem F3{K:Yc}(sz:es.size=kvs.length)(l:∀h:YV,h.get? d=Ya o->GX.hV h d es ep):
  Turn P w K tg (FX d o kvs) [it] it (λi h=>h.get? it=Ya (GX.CG d i es.size ep)) where
 mem:=by simp
 obj:=λi h st b a=>by
  have e:b=it:=by simpa using a
  subst e;exact⟨_,st,λv z=>by cases z⟩
 keep:=λi h g st k=>k it (by simp) _ st
 item:=by
  intro X m hw n C i D s σ H E I j st p;subst m hw n;obtain⟨F,hd⟩:=p;have c:s.heap.get? d=Ya o:=(show s.heap.get? d=Ya o/\_ from I.hok d _ hd).1;have G:kvs[i]?=Ya kvs[i]:=Yk F;obtain⟨_,S,J,q,_,r⟩:=ya I.hok (.inr ⟨o,hd⟩);obtain rfl:=Df (l _ c) q;obtain⟨y,b,L,M,a,T⟩:=r i kvs[i].1 kvs[i].2 G;obtain⟨t,u,N,x,A,B⟩:=j it (by simp);refine GX.JN st (l _ c) L λg f O=>?_;have Q:aO X D σ H {s with heap:=g}:=I.turned (t':=s.toks) (λb o a e=>(O.2 b a).trans e) t u x A B;exact⟨_,rfl,EJ (s:={s with heap:=g}) f rfl rfl (by decide) ⟨.ref b,H,Q,M,⟨rfl,kvs[i].1,kvs[i].2,b,G,a,rfl⟩,f,λb a=>(j b a).1⟩⟩
 done:=by
  intro X m hw n C i D s σ H E I j st p;subst m hw n;obtain⟨F,hd⟩:=p;have c:s.heap.get? d=Ya o:=(show s.heap.get? d=Ya o/\_ from I.hok d _ hd).1;obtain⟨t,u,N,x,A,B⟩:=j it (by simp);exact GX.L7 (I.ok.hd C) st (l _ c) (by omega) λg R=>⟨rfl,I.turned (t':=s.toks) (λb o a e=>R b o a e) t u x A B⟩
 self:=λ_ _ _ _ _ st h=>wpAny_pyIter_keyiter ⟨_,st,rfl,rfl⟩ h
section
theorem aO.freezeT{c:List (Ye×pe)}{a:Hp}{b:Yn}(f:aO X c σ a b)(hd:a d=Ya (.dT kvs))(ho:b.heap.get? d=Ya o):aO X c σ (upd a d (.frz o (.dT kvs))) b:=
 f.write (t':=b.toks) (x:=d) (e:=d) (by rw[hd];trivial) (.inl rfl) (λ_ _ _ e=>e) ⟨o,ho⟩ ⟨ho,by
  obtain⟨z,y,h,i,j⟩:=(show cD X.prog X.w a _ d (.dT kvs)from f.hok d _ hd);exact⟨z,y,h,YX.mapP i λ_ _ ⟨k,g,l⟩=>⟨k,by rw[ak (bM g hd (by intro z;cases z))];exact g,l⟩,j⟩⟩
def HA(td:TE):TI:=λσ H R=>td σ H λx b=>∃d a,x=.ref d/\b d=Ya (.dT a)/\∀o,R (FT d o a) (upd b d (.frz o (.dT a)))
def K1(td:TE):TI:=λσ H R=>td σ H λx b=>∃d a,x=.ref d/\b d=Ya (.dT a)/\∀o,R (FX d o a) (upd b d (.frz o (.dT a)))
theorem JL{l m:abz}(p:PE X e td)(a:abb e "items" X.env (lr e X.env)=lr e X.env:=by rfl)(c:(l.endLine==m.line)=true:=by rfl):
  PI X (.Tuple Zx x1 tp) (.Call (.Attribute e "items" l) [] [] m) (HA td):=by
 intro n s σ H R I h;refine ab9 a c (cL (p n s σ H _ I h) λv f r=>?_);obtain⟨x,t,j,u,d,g,ex,hd,q⟩:=r;subst ex;obtain rfl:v=YH d:=u;obtain⟨w,y,z,rd,sz,_⟩:=ya j.hok (.inl hd);obtain⟨h1,h2⟩:=vI (T:="dict") j (x:=.ref d) rfl (.inr (.inr (.inl ⟨rfl,.inr ⟨g,hd⟩⟩)));refine⟨"dict","dict.items",aaE,adi,afc,h1,h2,aaM rfl (acR ?_)⟩;refine GX.KA w rd ?_;have i:GX.hV (f.heap.push {cls:=.type "dict_items",data:=.fields #[.ref d]}) d y z:=rd.at λo e=>Yj _ e;have A:aO X n σ t {f with heap:=f.heap.push {cls:=.type "dict_items",data:=.fields #[.ref d]}}:=j.kept (t':=f.toks) λb ob e=>Yj _ e;refine GX.Jj (Yx _ rfl) i ?_;have k:=A.freezeT hd i;refine⟨_,[_],_,FT d _ g,_,rfl,k.kept (t':=f.toks) λb ob e=>Yj _ e,Dm sz (λ_ e=>e),⟨_,_,Yx _ rfl⟩,λb B=>?_,q _⟩;have C:b=(f.heap.push {cls:=.type "dict_items",data:=.fields #[.ref d]}).objs.size:=by simpa using B
 subst C;exact k.fpOk (Yl _) (k.hok.fresh (Yl _))
theorem MJ(i:PE X e td):PI X tg e (K1 td):=by
 intro j s σ H R I h;refine cL (i j s σ H _ I h) λv f k=>?_;obtain⟨x,p,g,l,d,a,ex,hd,q⟩:=k;subst ex;obtain rfl:v=YH d:=l;obtain⟨m,r,t,rd,sz,_⟩:=ya g.hok (.inl hd);refine GX.J4 m rd ?_;have c:=g.freezeT hd rd;refine⟨_,[_],_,FX d _ a,_,rfl,c.kept (t':=f.toks) λb ob e=>Yj _ e,F3 sz (λ_ e=>e),Yx _ rfl,λb n=>?_,q _⟩;have o:b=f.heap.objs.size:=by simpa using n
 subst o;exact c.fpOk (Yl _) (c.hok.fresh (Yl _))
end
def UP(b:Ye->pe->List (List bR×V)->It)(x:V)(H:Hp)(R:It->Hp->Prop):Prop:=∃d a,x=.ref d/\H d=Ya (.dT a)/\∀o,R (b d o a) (upd H d (.frz o (.dT a)))
theorem J6(h:td σ H λx a=>UP FT x a R):HA td σ H R:=h
theorem Ny(h:td σ H λx a=>UP FX x a R):K1 td σ H R:=h
theorem Np{a:Ye->pe->List (List bR×V)->It}(hd:H d=Ya (.dT kvs))(h:∀o A,A d=Ya (.frz o (.dT kvs))->KR d H A->R (a d o kvs) A):UP a (.ref d) H R:=
 ⟨d,kvs,rfl,hd,λo=>h o _ af λb u n e=>by rw[ak n];exact e⟩
theorem Eu(c:Nat->St->Hp->Prop)(h0:c 0 σ H)(hl:∀i σ H,i<=kvs.length->c i σ H->H d=Ya (.frz o (.dT kvs)))(hs:∀i k v t b σ H l,kvs[i]?=Ya (k,v)->c i σ H->H t=Yb->aJ H l->l t=Ya (.tup [.ref b,v])->H b=Ya (.tup (k.map kV))->fF g tt te D (c (i+ 1)) (.ref t) σ l)(hd:∀σ H,c kvs.length σ H->Qe H):
  ∃W:Nat->Nat->St->Hp->Prop,(∃m,W 0 m σ H)/\∀i m n f,W i m n f->((FT d o kvs).stop i f/\Qe f)∨((FT d o kvs).go i f/\∃N:St->Hp->Prop,(∀r s,N r s->∃u,u<m/\W (i+ 1) u r s)/\
   ∀x h,(FT d o kvs).yld i f x h->fF g tt te D N x n h):=by
 refine⟨λi m σ H=>m=kvs.length-i/\i<=kvs.length/\c i σ H,⟨kvs.length,by simp,cT _,h0⟩,?_⟩;rintro i m σ H ⟨rfl,z,p⟩;have q:=hl i σ H z p;by_cases j:i<kvs.length
 ·refine .inr ⟨⟨j,q⟩,c (i+ 1),λn f A=>⟨kvs.length-(i+ 1),by omega,rfl,j,A⟩,λx f y=>?_⟩;obtain⟨k,v,a,b,B,w,C,rfl,rfl⟩:=y;exact hs i k v a b σ _ _ B p w (aC w) af C
 ·have e:i=kvs.length:=by omega
  subst e;exact .inl ⟨⟨Yl _,q⟩,hd σ H p⟩
theorem G5(a:Nat->St->Hp->Prop)(h0:a 0 σ H)(hl:∀i σ H,i<=kvs.length->a i σ H->H d=Ya (.frz o (.dT kvs)))(hs:∀i k v b σ H,kvs[i]?=Ya (k,v)->a i σ H->H b=Ya (.tup (k.map kV))->fF g tt te D (a (i+ 1)) (.ref b) σ H)(hd:∀σ H,a kvs.length σ H->Qe H):
  ∃W:Nat->Nat->St->Hp->Prop,(∃m,W 0 m σ H)/\∀i m j c,W i m j c->((FX d o kvs).stop i c/\Qe c)∨((FX d o kvs).go i c/\∃N:St->Hp->Prop,(∀l n,N l n->∃r,r<m/\W (i+ 1) r l n)/\
   ∀x f,(FX d o kvs).yld i c x f->fF g tt te D N x j f):=by
 refine⟨λi m σ H=>m=kvs.length-i/\i<=kvs.length/\a i σ H,⟨kvs.length,by simp,cT _,h0⟩,?_⟩;rintro i m σ H ⟨rfl,s,p⟩;have q:=hl i σ H s p;by_cases h:i<kvs.length
 ·refine .inr ⟨⟨h,q⟩,a (i+ 1),λj c t=>⟨kvs.length-(i+ 1),by omega,rfl,h,t⟩,λx c y=>?_⟩;obtain⟨rfl,k,v,b,u,w,rfl⟩:=y;exact hs i k v b σ _ u p w
 ·have e:i=kvs.length:=by omega
  subst e;exact .inl ⟨⟨Yl _,q⟩,hd σ H p⟩
section
end
section
end
section
end
section
theorem Nb(h:Q true s):Ys (Yv prog w) A (eqBool v v) Q E s:=by
 unfold eqBool;refine aaI ?_;rw[if_pos (beq_self_eq_true v)];exact Yg (af3 (Yt h))
def KH(h:YV)(v:Yd)(k:List Int):Prop:=k≠[]/\∃a o b n,v=.ref a/\h.get? a=Ya o/\o.cls=.type "tuple"/\o.data=.seq b n/\∃c d,b.toList=c++d/\xy c k
theorem KH.up{h':YV}(x:KH h v k)(kp:∀b o,h.get? b=Ya o->h'.get? b=Ya o):KH h' v k:=by
 obtain⟨c,a,o,d,n,e,f,g⟩:=x;exact⟨c,a,o,d,n,e,kp _ _ f,g⟩
theorem Oc{f g:Bool}:∀{ns a:List Int},ns.length=a.length->ns≠a->Sy f ns a=Sy g ns a
 |[],[],_,h=>absurd rfl h
 |[],_::_,e,_=>by cases e
 |_::_,[],e,_=>by cases e
 |x::ns,y::a,e,h=>by
  show(if x=y then _ else _)=if x=y then _ else _
  by_cases z:x=y
  ·rw[if_pos z,if_pos z];exact Oc (adO e) λw=>h (by rw[z,w])
  ·rw[if_neg z,if_neg z]
theorem DR{f:Bool}:∀ns:List Int,Sy f ns ns=f
 |[]=>rfl
 |x::ns=>by
  show(if x=x then _ else _)=f;rw[if_pos rfl];exact DR ns
theorem OW{us:List Yd}:∀{xs ys:List Yd} {ns a:List Int} (i:Nat),xy xs ns->xy ys a->ns.length=a.length->ns≠a->Q (Sy fin ns a) s->afO prog w A b fin Q ((xs++us).zip (ys++vs)) i s:=by
 intro xs ys ns a i d
 induction d generalizing ys a i with
 |nil=>
  intro c e n _;cases c with
  |nil=>exact absurd rfl n
  |cons _ _ _=>cases e
 |cons x t r ih=>
  intro c e n h;cases c with
  |nil=>cases e
  |cons y u q=>
   refine ae6 (aeO ?_);refine afP (λz=>afm (ih (i:=i+ 1) q (adO e) (λw=>n (by rw[w,show x=y by simpa using z])) ?_)) λz=>ah6 (Iq ?_)
   ·have h:Q (if x=y then _ else _) s:=h;rw[if_pos (by simpa using z)]at h;exact h
   ·have h:Q (if x=y then _ else _) s:=h;rw[if_neg (by simpa using z)]at h;exact h
theorem Er{Q:Bool->Yn->Prop}{b fin:Bool}(h:Q fin s):∀(xs:List Yd) (i:Nat),afO prog w A b fin Q (xs.zip xs) i s
 |[],i=>afl h
 |x::xs,i=>by
  refine ae6 (Nb ?_);exact afP (λ_=>afm (Er h xs (i+ 1))) λz=>absurd z (by decide)
theorem IA{x y:Yd}{l:List Int}(f:KH s.heap x k)(g:KH s.heap y l)(e:k.length=l.length)(ne:x=y∨k≠l)(i:x=y->k=l)(h:Q (Kz k l) s):Ys (Yv prog w) A (keyLt' (aga b) x y) Q E s:=by
 obtain⟨_,a,o,D,n,rfl,c,F,d,G,H,j,m⟩:=f;rcases ne with z|z
 ·have p:=i z;subst z p;refine afQ c d c d (Er ?_ _ 0);rw[decide_eq_false (Y9 _)];unfold Kz at h;rw[DR,decide_eq_false (Y9 _)]at h;exact h
 ·obtain⟨_,I,J,q,K,rfl,r,L,t,u,v,B,C⟩:=g;refine afQ c d r t ?_;rw[j,B];refine OW 0 m C e z ?_;unfold Kz at h;rw[Oc e z]at h;exact h
theorem AJ{h:YV}:∀{vs:List Yd},(∀v∈vs,∃k,KH h v k)->∃fs:List Yd,ahO h vs fs/\(∀v∈fs,∃n t,v=abe n t)/\fs.length=vs.length
 |[],_=>⟨[],PySem.W.KatTups.nil,(λv b=>nomatch b),rfl⟩
 |v::vs,b=>by
  obtain⟨fs,h1,h2,h3⟩:=AJ (vs:=vs) λv c=>b v (Yo _ c);obtain⟨k,e,a,o,g,n,rfl,i,j,l,w,x,m,p⟩:=b v Yu;obtain⟨u,hu,f,tk,q⟩:∃u,g[0]?=Ya u/\∃f tk,u=abe f tk:=by
   rw[←sq,m];cases p with
   |nil=>exact absurd rfl e
   |cons f t r=>exact⟨_,rfl,_,_,rfl⟩
  refine⟨u::fs,PySem.W.KatTups.cons i j l hu h1,λs d=>?_,by rw[gm,gm,h3]⟩;rcases Ym.mp d with z|z
  ·rw[z,q];exact⟨_,_,rfl⟩
  ·exact h2 s z
theorem Nh:∀{vs:List Yd} {ns a:List Int},xy vs ns->xy vs a->ns=a:=by
 intro vs ns a w
 induction w generalizing a with
 |nil=>
  intro h;cases h;rfl
 |cons x t r ih=>
  intro h;cases h with|cons _ _ q=>rw[ih q]
def R5(ks:List (List Int))(vs:List Yd)(st:SortSt):Prop:=ahf st=Yb/\∃p,jr vs.length p/\vM ks vs.length p/\(arrOf st).map (·.2)=aaJ (p.toList.map λi=>vs.getD i aaf)
theorem J7{κ:SortKind}(h2:vs.length<2):R5 ks vs (SortSt.mk' κ (vs.toArray.zip vs.toArray) #[] 7 Yb):=by
 refine⟨rfl,aaJ (Y8 vs.length),adg _,AZ h2,?_⟩;rw[show((aaJ (Y8 vs.length)).toList.map λi=>vs.getD i aaf)=vs from jB vs _];show(vs.toArray.zip vs.toArray).map (·.2)=vs.toArray;apply ahg.mp;simpa using ahh (Yl _)
structure Tc(ks:List (List Int)):Prop where
 len:∃m,∀k∈ks,k.length=m
 nd:ks.Nodup
theorem Tc.lt(h:Tc ks){i j:Nat}(a:i<ks.length)(b:j<ks.length):(ks.getD i []).length=(ks.getD j []).length/\(i≠j->ks.getD i []≠ks.getD j []):=by
 obtain⟨m,hm⟩:=h.len;have e:∀i (a:i<ks.length),ks.getD i []=ks[i]:=λi a=>by rw[YM,Yk a];rfl
 rw[e i a,e j b];refine⟨by rw[hm _ (Rk a),hm _ (Rk b)],λn z=>?_⟩;rcases aem n with w|w
 ·exact nh.mp h.nd i j a b w z
 ·exact nh.mp h.nd j i b a w z.symm
theorem JB{Q:Unit×SortSt->Yn->Prop}(K:Tc ks)(lk:vs.length=ks.length)(h2:¬ vs.toArray.size<2)(h64:vs.length<64)(c:∀i,i<vs.length->KH s.heap (vs.getD i .none) (ks.getD i []))(h:∀st,R5 ks vs st->Q ((),st) s):
  Ys (Yv prog w) A (keyKind' vs.toArray) (λκ d=>Ys (Yv prog w) A (sortRuns'.run (SortSt.mk' κ (vs.toArray.zip vs.toArray) #[] 7 Yb)) Q E d) E s:=by
 rw[YC]at h2;have m:∀v∈vs,∃k,KH s.heap v k:=λv u=>by
  obtain⟨i,f⟩:=YJ u;have:=c i (Yh.mp f).1;rw[YM,f]at this;exact⟨_,this⟩
 obtain⟨fs,N,O,kl⟩:=AJ m;refine ahi (T:=aaG "int") N (by omega) (λv u=>?_) (by decide) ?_
 ·obtain⟨n,t,rfl⟩:=O v u;exact afR rfl
 refine oh (ahP (Q:=λst d=>d=s/\ahf st=Yb/\∃p,(jr vs.length p/\vM ks vs.length p)/\arrOf st=p.map (ahj (vs.toArray.zip vs.toArray))) (G:=λp d=>d=s/\jr vs.length p/\vM ks vs.length p) rfl (by omega) h64 (λp st d _ x g l=>⟨l.1,g,p,l.2,x⟩) ?_) (λr d q=>?_) λ_ _ e=>e
 ·refine Nu (n:=vs.length) (b:=λi j=>Kz (ks.getD i []) (ks.getD j [])) (P:=λp=>jr vs.length p/\vM ks vs.length p) (λi j C f B D=>?_) (λp hp=>⟨rfl,hp⟩) _ (LV (by omega));unfold ahQ;obtain⟨R,S⟩:=K.lt (i:=i) (j:=j) (by omega) (by omega);by_cases z:i=j
  ·subst z;exact IA (c i f) (c i f) rfl (.inl rfl) (λ_=>rfl) D
  ·refine IA (c i f) (c j B) R (.inr (S z)) (λw=>?_) D;have h1:=c i f;have h2:=c j B;rw[w]at h1;obtain⟨_,a,o,xs,n,U,V,e3,W,X,zs,Y,F⟩:=h1;obtain⟨_,a',o',Z,n',H,I,g3,J,y,ab,L,M⟩:=h2;rw[U]at H;cases H;rw[V]at I;cases I;rw[W]at J;cases J;rw[Y]at L;have ly:=qD F;have ac:=qD M;have:X=y:=(List.append_inj L (by omega)).1;subst this;exact Nh F M
 obtain⟨rfl,x,p,g,l⟩:=q;exact h r.2 ⟨x,p,g.1,g.2,ahk rfl l⟩
theorem yV{a:Ye}{n:Nat}{P:adY->Yn->Prop}(K:Tc ks)(lk:vs.length=ks.length)(ho:s.heap.get? a=Ya (seqObj "list" vs.toArray n))(h64:vs.length<64)(l:∀i,i<vs.length->KH s.heap (vs.getD i .none) (ks.getD i []))(h:∀(h1:YV) (c:Nat) (p:Array Nat),jr vs.length p->vM ks vs.length p->(∀b o,b≠a->s.heap.get? b=Ya o->h1.get? b=Ya o)->h1.get? a=Ya (seqObj "list" (p.toList.map λi=>vs.getD i aaf).toArray c)->P (.done (.ret .none)) {s with heap:=h1}):
  Ys (Yv prog w) A (GV.«list.sort» ⟨[.ref a],[]⟩) P E s:=by
 rw[list_sort_plain];refine IE ho h64 λh2 e f r=>?_;have t:∀i,i<vs.length->KH (h2.push (seqObj "list" #[] 0)) (vs.getD i .none) (ks.getD i []):=λi u=>by
  obtain⟨v,b,o,x,m,y,d,g,B⟩:=l i u;refine⟨v,b,o,x,m,y,Yj _ (f b o (λz=>?_) d),g,B⟩;rw[z,ho]at d;cases d;exact absurd (show aaG "list"=aaG "tuple"from g) (by decide)
 dsimp only;by_cases few:vs.toArray.size<2
 case' pos=>
  rw[if_pos few,if_pos few];refine Yg (Yt ?_);rw[StateT.run_pure];refine Yg (Yt ?_);have q:=J7 (κ:=general') (ks:=ks) (vs:=vs) (by simpa using few);generalize SortSt.mk' general' (vs.toArray.zip vs.toArray) #[] 7 Yb=st at q⊢
 case' neg=>
  rw[if_neg few,if_neg few];refine Yg (oh (JB (s:={s with heap:=h2.push (seqObj "list" #[] 0)}) K lk few h64 t λst q=>?_) (λκ I q=>Yg q) λ_ _ e=>e)
 all_goals
  obtain⟨C,p,j,D,F⟩:=q;have po:=Oe j;dsimp only;rw[F];refine yE (Yj _ r) (by rw[YC,po.length_eq,aaB];omega) λh4 c G H=>?_;rw[C]
  wp_walk
  exact h h4 c p j D (λb o k q=>G b o k (Yj _ (f b o k q))) H
theorem BC{l:Ye}{Q:Yd->Yn->Prop}(K:Tc ks)(lk:vs.length=ks.length)(hl:s.heap.IsList l vs.toArray)(h64:vs.length<64)(d:∀i,i<vs.length->KH s.heap (vs.getD i .none) (ks.getD i []))(h:∀(h1:YV) (c:Nat) (p:Array Nat),jr vs.length p->vM ks vs.length p->GX.rW s.heap h1->h1.get? (s.heap.objs.size+ 1)=Ya (seqObj "list" (p.toList.map λi=>vs.getD i aaf).toArray c)->Q (.ref (s.heap.objs.size+ 1)) {s with heap:=h1}):Ys (Yv prog w) A (call (.builtin "sorted") [.ref l]) Q E s:=
 Bv hl h64 (agx _) ah0 λh1 a e=>yV K lk e h64 (λi f=>(d i f).up a) λh2 c p g j k m=>
  ⟨rfl,h h2 c p g j (λb o q=>k b o (YN (abv (Yz q))) (a b o q)) m⟩
end
theorem Dk:∀{k:List Int} {r:List V} {us:List Yd},Vals (k.map V.int++r) us->∃ys zs,us=ys++zs/\xy ys k
 |[],_,us,_=>⟨[],us,rfl,.nil⟩
 |x::k,r,_,.cons h t=>by
  obtain⟨ys,zs,e,i⟩:=Dk (k:=k) t;obtain⟨tk,a⟩:=h;rw[a,e];exact⟨_::ys,zs,rfl,.cons x tk i⟩
section
theorem Ag:dO X (.builtin "sorted") (λxs H Q=>∃(p:Ye) (vs:List V) (ks:List (List Int)),xs=[.ref p]/\a9 X.K H p vs/\vs.length<64/\Tc ks/\YX (λv k=>k≠[]/\∃t r,v=.ref t/\bJ X.K H t (k.map V.int++r)) vs ks/\∀(l:Ye) (g:List V),H l=Yb->wb ks vs g->Q (.ref l) (upd H l (.lst g))):=by
 intro Y s σ H xs us Q I r h;obtain⟨p,vs,ks,rfl,hp,hl,K,j,q⟩:=h;obtain⟨u,rfl,z⟩:=fG r;cases z;obtain⟨a,b,A,Z⟩:=I.list hp;have m:=b.length;have lk:=Y2 j;have B:∀i,i<a.length->KH s.heap (a.getD i .none) (ks.getD i []):=λi hi=>by
  have n:vs[i]?=Ya vs[i]:=Yk (by omega);obtain⟨k,C,D,t,r,E,F⟩:=cR j n;obtain⟨w,d,x⟩:=b.get n;rw[E]at x;rw[YM,YM,d,C];show KH s.heap w k;rw[show w=YH t from x];obtain⟨ia,ra,G,_⟩:=I.tuple F;obtain⟨o,ho,J,L,hd⟩:=id G;obtain⟨M,N,O,P⟩:=Dk ra;exact⟨D,t,o,_,L,rfl,ho,J,hd,M,N,O,P⟩
 refine BC K (by omega) A.isList (by omega) B λh1 c e y R S T=>?_;obtain⟨U,W⟩:=EU b y;have f:wb ks vs (e.toList.map λi=>vs.getD i V.non):=⟨e,by rw[m];exact y,rfl,by rw[m];exact R⟩;refine⟨.ref (s.heap.objs.size+ 1),_,I.laid (o:=.lst (e.toList.map λi=>vs.getD i V.non)) (t':=s.toks) S (aaU _) ⟨by rw[U.length_eq,aaB];omega,_,c,W,T⟩,rfl,q _ _ (I.hok.fresh (aaU _)) f⟩
end
theorem y3{K:Yc}(b:X.K=K):dO X (.builtin "sorted") (λxs H Q=>∃(p:Ye) (vs:List V) (ks:List (List Int)),xs=[.ref p]/\a9 K H p vs/\vs.length<64/\Tc ks/\YX (λv k=>k≠[]/\∃t r,v=.ref t/\bJ K H t (k.map V.int++r)) vs ks/\∀(l:Ye) (a:List V),H l=Yb->wb ks vs a->Q (.ref l) (upd H l (.lst a))):=by
 subst b;exact Ag
end L2
local macro_rules|`(tactic|sizeOf_list_dec)=>`(tactic|omega)
local macro_rules|`(tactic|sizeOf_list_dec)=>`(tactic|first|exact Nat.le_of_ble_eq_true rfl|exact L2.aF (by omega)|exact L2.K7|exact L2.Lm)
local macro_rules|`(tactic|sizeOf_list_dec)=>`(tactic|first|assumption|decide|exact ⟨by decide, by decide⟩|exact ⟨by decide, by decide, by decide⟩)
local macro_rules|`(tactic|sizeOf_list_dec)=>`(tactic|with_reducible first|exact L2.Lu|exact L2.uU|exact L2.Mu|exact L2.Mf)
local macro_rules|`(tactic|sizeOf_list_dec)=>`(tactic|with_reducible first|exact L2.F2|exact L2.LK|exact L2.Ft|exact L2.y4)
local macro_rules|`(tactic|sizeOf_list_dec)=>`(tactic|with_reducible first|exact L2.Hk|exact L2.Gh|exact L2.Jv|exact L2.Oo)
local macro_rules|`(tactic|sizeOf_list_dec)=>`(tactic|with_reducible exact L2.QU)
local macro_rules|`(tactic|sizeOf_list_dec)=>`(tactic|with_reducible first|exact L2.Kh|exact L2.NW|exact L2.NX|exact L2.K5)
local macro_rules|`(tactic|sizeOf_list_dec)=>`(tactic|with_reducible first|exact L2.JJ|exact L2.LU)
local macro_rules|`(tactic|sizeOf_list_dec)=>`(tactic|with_reducible first|exact L2.BU|exact L2.N7|exact L2.GP|exact L2.Pn)
local macro_rules|`(tactic|sizeOf_list_dec)=>`(tactic|with_reducible first|exact L2.N5|exact L2.Hj|exact L2.vO|exact L2.Gx)
local macro_rules|`(tactic|sizeOf_list_dec)=>`(tactic|with_reducible first|exact L2.LZ|exact L2.zj|exact L2.Bo|exact L2.Oi)
local macro_rules|`(tactic|sizeOf_list_dec)=>`(tactic|with_reducible first|exact L2.Kv|exact L2.BX|exact L2.Fu|exact L2.qF)
local macro_rules|`(tactic|sizeOf_list_dec)=>`(tactic|with_reducible first|exact L2.NP|exact L2.MC|exact L2.M5|exact L2.Km)
local macro_rules|`(tactic|sizeOf_list_dec)=>`(tactic|with_reducible first|exact L2.Ua|exact L2.G9|exact L2.Kf|exact L2.Mv)
local macro_rules|`(tactic|decreasing_trivial_pre_omega)=>`(tactic|first|assumption|(apply L2.a9.of;assumption)|(apply L2.bJ.of;assumption)|(refine Or.inl ?_;assumption)|(refine Or.inl ?_;apply L2.a9.of;assumption)|(refine Or.inr ?_;apply L2.bJ.of;assumption))
local macro_rules|`(tactic|bv_omega)=>`(tactic|first|assumption|exact L2.cG (j := 0) rfl|exact L2.cG (j := 1) rfl|exact L2.cG (j := 2) rfl|exact L2.cG (j := 3) rfl|exact L2.cG (j := 4) rfl|exact L2.cG (j := 5) rfl)
local macro_rules|`(tactic|array_get_dec)=>`(tactic|array_mem_dec)
local macro_rules|`(tactic|array_get_dec)=>`(tactic|with_reducible refine L2.W0 ?_)
local macro_rules|`(tactic|array_get_dec)=>`(tactic|with_reducible first|refine L2.WV ?_|refine L2.TQ ?_|refine L2.V4 ?_|refine L2.VE ?_)
local macro_rules|`(tactic|array_get_dec)=>`(tactic|with_reducible first|refine L2.Wg ?_|refine L2.UO ?_|refine L2.PX ?_|refine L2.Uv ?_)
local macro_rules|`(tactic|array_get_dec)=>`(tactic|with_reducible first|refine L2.Ro ?_|refine L2.S7 ?_|refine L2.VL ?_|refine L2.Xu ?_)
local macro_rules|`(tactic|array_get_dec)=>`(tactic|with_reducible first|refine L2.WN ?_|refine L2.M0 ?_|refine L2.Tx ?_|refine L2.WS ?_)
local macro_rules|`(tactic|array_get_dec)=>`(tactic|with_reducible first|refine L2.L1 ?_|refine L2.SN ?_|refine L2.Rc ?_|refine L2.SG ?_)
local macro_rules|`(tactic|array_get_dec)=>`(tactic|with_reducible first|refine L2.WB ?_|refine L2.Vj ?_|refine L2.S8 ?_|refine L2.Xy ?_)
local macro_rules|`(tactic|array_get_dec)=>`(tactic|with_reducible first|refine L2.V8 ?_|refine L2.V3 ?_|refine L2.WI ?_|refine L2.Ws ?_)
local macro_rules|`(tactic|array_get_dec)=>`(tactic|with_reducible first|refine L2.Ud ?_|refine L2.Vu ?_|refine L2.NR ?_|refine L2.Ss ?_)
local macro_rules|`(tactic|array_get_dec)=>`(tactic|with_reducible first|refine L2.XW ?_|refine L2.Wj ?_|refine L2.TF ?_|refine L2.VS ?_)
local macro_rules|`(tactic|array_get_dec)=>`(tactic|with_reducible first|refine L2.x_b ?_|refine L2.Sl ?_|refine L2.Po ?_|refine L2.Vl ?_)
local macro_rules|`(tactic|array_get_dec)=>`(tactic|with_reducible first|refine L2.XF ?_|refine L2.XG ?_|refine L2.UQ ?_|refine L2.Wl ?_)
local macro_rules|`(tactic|array_get_dec)=>`(tactic|with_reducible first|refine L2.TZ ?_|refine L2.TY ?_|refine L2.VD ?_|refine L2.To ?_)
local macro_rules|`(tactic|array_get_dec)=>`(tactic|with_reducible first|refine L2.Xw ?_|refine L2.x_c ?_|refine L2.WU ?_|refine L2.W8 ?_)
local macro_rules|`(tactic|array_get_dec)=>`(tactic|with_reducible first|refine L2.TJ ?_|refine L2.T6 ?_|refine L2.SA ?_|refine L2.WQ ?_)
local macro_rules|`(tactic|array_get_dec)=>`(tactic|with_reducible first|refine L2.Sx ?_|refine L2.UM ?_|refine L2.SV ?_|refine L2.SE ?_)
local macro_rules|`(tactic|array_get_dec)=>`(tactic|(with_reducible refine L2.Sg λR hR=>?_))
local macro_rules|`(tactic|array_mem_dec)=>`(tactic|((with_reducible apply L2.Vx);assumption))
local macro_rules|`(tactic|array_mem_dec)=>`(tactic|((with_reducible apply L2.UJ);decreasing_trivial_pre_omega;rfl))
local macro_rules|`(tactic|array_mem_dec)=>`(tactic|((with_reducible apply L2.Vk);exact rfl))
local macro_rules|`(tactic|array_mem_dec)=>`(tactic|((with_reducible apply L2.x_I);sizeOf_list_dec))
local macro_rules|`(tactic|array_mem_dec)=>`(tactic|((with_reducible apply L2.VB);decreasing_trivial_pre_omega;bv_omega))
local macro_rules|`(tactic|array_mem_dec)=>`(tactic|((with_reducible apply L2.WG);decreasing_trivial_pre_omega;bv_omega))
local macro_rules|`(tactic|array_mem_dec)=>`(tactic|((with_reducible apply L2.Vt);decreasing_trivial_pre_omega))
local macro_rules|`(tactic|array_mem_dec)=>`(tactic|((with_reducible apply L2.Sv);decreasing_trivial_pre_omega))
local macro_rules|`(tactic|array_mem_dec)=>`(tactic|((with_reducible apply L2.Ub);decreasing_trivial_pre_omega))
local macro_rules|`(tactic|array_mem_dec)=>`(tactic|((with_reducible apply L2.Pb);decreasing_trivial_pre_omega;(first|rw [L2.J9]|skip)))
local macro_rules|`(tactic|array_mem_dec)=>`(tactic|((with_reducible apply L2.Tr);decreasing_trivial_pre_omega;decreasing_trivial_pre_omega))
local macro_rules|`(tactic|array_mem_dec)=>`(tactic|((with_reducible apply L2.WJ);decreasing_trivial_pre_omega))
local macro_rules|`(tactic|array_mem_dec)=>`(tactic|((with_reducible apply L2.TM);decreasing_trivial_pre_omega))
local macro_rules|`(tactic|array_mem_dec)=>`(tactic|((with_reducible apply L2.Wn);sizeOf_list_dec))
local macro_rules|`(tactic|array_mem_dec)=>`(tactic|((with_reducible apply L2.Vn);sizeOf_list_dec))
local macro_rules|`(tactic|array_mem_dec)=>`(tactic|((with_reducible apply L2.K6);assumption;sizeOf_list_dec))
local macro_rules|`(tactic|array_mem_dec)=>`(tactic|((with_reducible apply L2.OA);assumption;assumption;sizeOf_list_dec))
local macro_rules|`(tactic|array_mem_dec)=>`(tactic|((with_reducible apply L2.Q5);decreasing_trivial_pre_omega))
local macro_rules|`(tactic|array_mem_dec)=>`(tactic|((with_reducible apply L2.Mb);decreasing_trivial_pre_omega))
local macro_rules|`(tactic|array_mem_dec)=>`(tactic|((with_reducible apply L2.ME);decreasing_trivial_pre_omega))
local macro_rules|`(tactic|array_mem_dec)=>`(tactic|((with_reducible apply L2.Q9);decreasing_trivial_pre_omega))
local macro_rules|`(tactic|array_mem_dec)=>`(tactic|with_reducible refine L2.M7 ?_)
local macro_rules|`(tactic|array_mem_dec)=>`(tactic|((with_reducible apply L2.QY);decreasing_trivial_pre_omega))
local macro_rules|`(tactic|array_mem_dec)=>`(tactic|((with_reducible apply L2.Wc);decreasing_trivial_pre_omega;bv_omega))
local macro_rules|`(tactic|array_mem_dec)=>`(tactic|with_reducible refine L2.XT ?_)
local macro_rules|`(tactic|array_mem_dec)=>`(tactic|with_reducible first|refine L2.VQ ?_|refine L2.Tf ?_|refine L2.OT ?_|refine L2.Sh ?_)
local macro_rules|`(tactic|array_mem_dec)=>`(tactic|with_reducible first|refine L2.Xz ?_|refine L2.VT ?_|refine L2.Tz ?_|refine L2.SJ ?_)
local macro_rules|`(tactic|array_mem_dec)=>`(tactic|((with_reducible refine L2.v7 ?_);(with_reducible refine L2.v7 ?_);(with_reducible apply L2.vv);assumption;sizeOf_list_dec))
local macro_rules|`(tactic|array_mem_dec)=>`(tactic|((with_reducible refine L2.v7 ?_);(with_reducible apply L2.vv);assumption;sizeOf_list_dec))
local macro_rules|`(tactic|array_mem_dec)=>`(tactic|((with_reducible apply L2.vv);assumption;sizeOf_list_dec))
local macro_rules|`(tactic|array_mem_dec)=>`(tactic|((with_reducible apply L2.UD);assumption;sizeOf_list_dec;sizeOf_list_dec;sizeOf_list_dec))
local macro_rules|`(tactic|array_mem_dec)=>`(tactic|((with_reducible apply L2.Vy);assumption;sizeOf_list_dec;sizeOf_list_dec;sizeOf_list_dec))
local macro_rules|`(tactic|array_mem_dec)=>`(tactic|((with_reducible apply L2.VW);decreasing_trivial_pre_omega;assumption))
local macro_rules|`(tactic|array_mem_dec)=>`(tactic|((with_reducible apply L2.U2);decreasing_trivial_pre_omega))
local macro_rules|`(tactic|array_mem_dec)=>`(tactic|((with_reducible apply L2.QT);assumption;assumption;sizeOf_list_dec))
local macro_rules|`(tactic|array_mem_dec)=>`(tactic|with_reducible first|refine L2.QR ?_|refine L2.SH ?_|refine L2.R1 ?_)
local macro_rules|`(tactic|array_mem_dec)=>`(tactic|((with_reducible apply L2.Vp);assumption))
local macro_rules|`(tactic|array_mem_dec)=>`(tactic|with_reducible refine L2.Ms ?_)
local macro_rules|`(tactic|array_mem_dec)=>`(tactic|((with_reducible apply L2.WL);decreasing_trivial_pre_omega;decreasing_trivial_pre_omega))
local macro_rules|`(tactic|array_mem_dec)=>`(tactic|with_reducible refine L2.S1 ?_)
local macro_rules|`(tactic|array_mem_dec)=>`(tactic|with_reducible refine L2.Pj ?_)
local macro_rules|`(tactic|array_mem_dec)=>`(tactic|with_reducible first|refine L2.J6 ?_|refine L2.Ny ?_)
local macro_rules|`(tactic|cbv)=>`(tactic|repeat' (first|array_get_dec|fail))
namespace L2
open PySem PySem.Spec PyProof.Rows
variable{N:List Yp}{u:TS}{D:qB}{σ:St}{H:Hp}
theorem fq{P:List Yp}{sc:acb}(a:sc.kind=.function:=by rfl)(b:sc.isCoroutine=false:=by rfl)(c:sc.isGenerator=false:=by rfl)(d:N.Nodup:=by decide +kernel)(e:N.take P.length=P:=by rfl)(f:∀x∈P,sc.names.lookup x=Ya .local∨sc.names.lookup x=Ya .cell:=by decide +kernel)(g:∀y∈sc.names,y.2≠.free:=by decide +kernel):aG N P sc:=⟨a,b,c,d,e,f,g⟩
def Tg(_:Y0)(_:Y7)(_:Yp->Option Yd)(_:YV):Prop:=True
abbrev nI(K:Yc)(x:Yp)(f:Ye):Prop:=PySem.W.nsIn K cw x=Ya (Ya (.ref f))
def qa:List Yp->(List Yd->Prop)->Prop
 |[],p=>p []
 |_::r,p=>∀v,qa r λus=>p (v::us)
theorem Rx:∀{ps:List Yp} {p:List Yd->Prop},qa ps p->∀us:List Yd,us.length=ps.length->p us
 |[],_,h,[],_=>h
 |_::_,_,h,v::us,e=>Rx (h v) us (adO e)
section
variable{P:Y0}{w:Y7}{K:Yc}{mg:Yp->Option Yd}{base h:YV}{x Zb:Yp}{st:Y4}{f:Ye}{fd:YE}{ps:List Yp}{k:Nat}{sp:Sp}
theorem bN.oj(F:bN K x Zb st f fd)(S:aG N ps (av st))
  (b:∀(a:Yd) (A:uc) (outer:List ack) (s:Yn) (H:Hp) (vs:List V) (Q:VK) (E:XK),cZ k (A.deeper (acd Zb (av st) s.heap.objs.size f a))->(A.deeper (acd Zb (av st) s.heap.objs.size f a)).units+ 64<aax->(A.deeper (acd Zb (av st) s.heap.objs.size f a)).units<aax->(A.deeper (acd Zb (av st) s.heap.objs.size f a)).units+ 1<aax->sp vs H Q E->
   ∃t,CS (oZ bx P w K mg base N Zb (av st) f a A outer s H E).nox (dW st) t/\t {nx:=λ_ e=>Q .non e,rt:=Q} (start N vs) H)
  (len:∀vs H Q E,sp vs H Q E->vs.length=ps.length:=by intro _ _ _ _ h;(repeat obtain⟨_,h⟩:=h);subst_vars;rfl):aH P w K mg base bx (k+ 1) f fd ps sp:=F.ok S len λc A o s H vs Q E d h=>b c A o s H vs Q E d d.units d.units0 (Ij d) h
theorem bN.bq(F:bN K x Zb st f fd)(h:∀(kV i k:Yd) (l:Option Ye) (j ct:Yd),qa ps λus=>afX (aaS x Zb (gQ st) (dW st) (av st) .none kV i k l j ct) ⟨us,[]⟩=pure (ps.zip us):=by(repeat refine λ_=>?_);rfl):Binds K fd ps []:=F.binds λa b c d e g us hl=>Rx (h a b c d e g) us hl
theorem bN.cal(F:bN K x Zb st f fd)(X:K.In h)(G:h.Ns cw mg)(a:nI K x f)(q:∀(kV b d:Yd) (e:Option Ye) (c ct:Yd),qa ps λus=>afX (aaS x Zb (gQ st) (dW st) (av st) .none kV b d e c ct) ⟨us,[]⟩=pure (ps.zip us):=by(repeat refine λ_=>?_);rfl):eM K mg x f fd ps:=⟨PySem.W.mg_of X G a,F.kp,F.bq q⟩
end
theorem ln1{α:Type}:∀{us:List α},us.length=1->∃a0,us=[a0]|[a0],_=>⟨a0,rfl⟩
theorem ln3{α:Type}:∀{us:List α},us.length=3->∃a0 a b,us=[a0,a,b]|[a0,a,b],_=>⟨a0,a,b,rfl⟩
theorem Sg{a b c:TS}(h:∀R:TS,R=qy c u->qy a (qy b R) D σ H):qy a (qy b (qy c u)) D σ H:=h _ rfl
theorem Vx{R:TS}(e:R=u)(h:u D σ H):R D σ H:=e▸h
end L2
namespace K44
open PySem L2
set_option hygiene false in
local macro_rules|`(∅)=>`(aH P w K mg base bx)
variable{f a b p r am ah ap as:Ye}{fd:YE}{H H' A B:Hp}{v mv:V}{σ:St}{Q:VK}{m m' m0:List (Int×Int)}{xs ws pl:List V}{ns gs Zk so:List Nm}{j i:Nat}{Zf:Option Int}{tb Zs la:List (Int×List (Int×Int))}{h sm sk:Int}{e:Int×List (Int×Int)}{F sl:List Ye}{kvs:List (List bR×V)}{u:HO}{ml:List (List (Int×Int))}
noncomputable def fm(i:Nat):Y4:=PySem.Challenge.pw_groupcall_k44_one_order_in_a_list.main.body.getD i (.Pass ⟨0,0,0,0⟩)
noncomputable abbrev su:Y4:=fm 2
noncomputable abbrev lY:Y4:=fm 3
noncomputable abbrev yK:Y4:=fm 4
noncomputable abbrev sO:Y4:=fm 9
noncomputable abbrev yz:Y4:=fm 5
noncomputable abbrev kZ:Y4:=fm 10
noncomputable abbrev iW:Y4:=bD (fm 24) 0
noncomputable abbrev fV:Y4:=bD (fm 25) 0
noncomputable abbrev sZ:Y4:=fm 17
noncomputable abbrev vQ:Y4:=fm 28
noncomputable abbrev pJ:Y4:=fm 29
noncomputable abbrev jz:Y4:=bD (fm 24) 4
noncomputable abbrev qO:Y4:=bD (fm 24) 5
noncomputable abbrev ic:Y4:=bD (fm 26) 1
noncomputable abbrev nG:Y4:=fm 36
noncomputable abbrev vn:Y4:=fm 37
noncomputable abbrev qM:Y4:=bD (fm 24) 1
noncomputable abbrev qJ:Y4:=bD (fm 24) 2
noncomputable abbrev gz:Y4:=bD (fm 24) 6
noncomputable abbrev eX:Y4:=bD (fm 27) 1
noncomputable abbrev vJ:Y4:=fm 34
noncomputable abbrev jP:Y4:=fm 38
noncomputable abbrev iV:Y4:=fm 39
noncomputable abbrev jR:Y4:=fm 40
noncomputable abbrev MG:Y4:=fm 41
noncomputable abbrev jq:Y4:=fm 42
section
variable{P:Y0}{w:Y7}{K:Yc}{mg:Yp->Option Yd}{base:YV}
def pQ(K:Yc):Sp:=λa H Q _=>∃(d:Ye) (m:List (Int×Int)) (h:Int),a=[.ref d,.int h]/\Rd H d (.dK (dI m))/\Q (.int (ct m h)) H
abbrev JX:List Yp:=["counts","hand"]
theorem Ek:aG ["counts","hand"] JX (av su):=fq
variable(eV:Tg P w mg base)
include eV in
theorem D6(F:bN K "count_of" "count_of" su f fd):∅ 1 f fd JX (pQ K):=by
 refine F.oj Ek ?_;rintro _ _ _ _ H _ Q _ _ _ _ hu ⟨d,m,h,rfl,h⟩;refine⟨_,(ax (aP (Nv hu (pv 0) (pv 1) az ⟨rfl,rfl,rfl,rfl⟩))),?_⟩;obtain⟨hd,k⟩:=h;refine⟨_,rfl,d,rfl,.inl ⟨_,hd⟩,_,rfl,_,.inl ⟨_,YL h,hd,rfl,rfl⟩,?_⟩;show Q ((eK (dI m) (YL h:bR)).getD (.int 0)) H;rw[Pd];exact k
def jE(K:Yc):Sp:=λe H Q _=>∃(a:Ye) (d:List V) (b:List (List (Int×Int))),e=[.ref a]/\a9 K H a d/\OJ H d b/\(∀m∈b,Ck m)/\b.length<=10/\
 ∀(c:Hp) (l:Ye) (S:List Int),aJ H c->c l=Ya (.lst (S.map V.int))->S.Nodup->(∀k,k∈S↔∃m∈b,k∈m.map (·.1))->Q (.ref l) c
abbrev zH:List Yp:=["some"]
theorem jw:aG ["some","hands","counts"] zH (av lY):=fq
variable(gR:mg "list"=Yb)(Ic:mg "set"=Yb)(fJ:mg "sorted"=Yb)
include eV gR Ic fJ in
theorem zi(F:bN K "hands_among" "hands_among" lY f fd):∅ 1 f fd zH (jE K):=by
 refine F.oj jw ?_;rintro _ _ _ _ H _ _ _ _ _ _ _ ⟨a,C,D,rfl,h⟩;refine⟨_,(aj (bc (i:=1) jw.nd rfl (Or.inl rfl) (d5 ai))
   (aj (lU aam rfl (bo (K:=K) rfl (pv 0)) (aQ (i:=2) jw.nd rfl (Or.inl rfl))
   (ax (dC (D9 abC PySem.F.slot_list_extend PySem.F.type_list_extend Kl (pv 1) (aa (bZ (G3 rfl) (by rfl) gR aaO (aa (pv 2) ai)) ai)))))
   (ax (aP (bH (uv rfl) (by rfl) fJ abt (aa (bZ (AE rfl) (by rfl) Ic (show abk "set"=Ya (.type "set") by decide +kernel) (aa (pv 1) ai)) ai)))))),?_⟩
 obtain⟨E,dc,G,l10,k⟩:=h;refine⟨cT _,λhl c=>?_⟩;have L:C.length=D.length:=Y2 dc;refine⟨_,rfl,a,rfl,⟨_,(aC c).seq E⟩,mG (K:=K) (a:=a) (xs:=C) (λi σ p=>∃v ns,σ=[Ya (.ref a),Ya (.ref hl),v]/\aJ H p/\p hl=Ya (.lst (ns.map V.int))/\ns.length<=63*i/\∀k,k∈ns↔∃m∈D.take i,k∈m.map (·.1))
  ⟨Yb,[],rfl,aC c,af,cT _,λk=>by simp⟩ (λi σ p _ ⟨_,_,_,g,_⟩=>g.seq E) ?_ ?_⟩
 ·rintro i x σ p M ⟨v,ns,rfl,g,r,s,hm⟩;obtain⟨m,n,d,rfl,hd⟩:=OJ.get dc M;have R:=(Yh.mp n).1;have N:=G m (Yw n);have lm:=N.len;refine⟨_,rfl,.inl ⟨rfl,_,a9.of r⟩,_,rfl,d,m,rfl,cY g hd,by omega,λl t=>?_⟩;have nl:hl≠l:=ay r t;refine⟨hl,l,_,_,rfl,rfl,by rw[ak nl];exact r,af,?_,Ya (.ref d),ns++m.map (·.1),rfl,λb o e=>?_,?_,?_,λk=>?_⟩
  ·rw[Yf,Yf,Yf];exact xl (aF (by omega))
  ·rw[ak (ay e c),ak (ay (g b o e) t)];exact g b o e
  ·rw[af,Yr]
  ·rw[Yq,Yf];omega
  ·rw[aN n,YD,hm k];constructor
   ·rintro(⟨y,A,u⟩|q)
    ·exact⟨y,YY _ A,u⟩
    ·exact⟨m,YK _ (by simp),q⟩
   ·rintro⟨y,A,u⟩;rcases YD.mp A with z|z
    ·exact .inl ⟨y,z,u⟩
    ·rw[Yi.mp z]at u;exact .inr u
 rintro σ p ⟨v,ns,rfl,g,r,s,hm⟩;rw[L,YI]at hm;refine⟨_,rfl,hl,ns,rfl,a9.of r,by omega,λq I O nd mem=>?_⟩;have rg:∀k∈I,0<=k/\k<63:=λk Q=>by
  obtain⟨m,h1,h2⟩:=(hm k).mp ((mem k).mp Q);exact(G m h1).keys k h2
 refine⟨q,I,rfl,af,nd,iY nd rg,λl S B J T=>?_⟩;refine k _ l S (g.trans ((aC O).trans (aC B))) af (J.nodup_iff.mpr nd) λj=>?_;rw[J.mem_iff,mem j,hm j]
def vd(K:Yc):Sp:=λb H Q _=>∃(d e:Ye) (m n:List (Int×Int)),b=[.ref d,.ref e]/\Rd H d (.dK (dI m))/\Rd H e (.dK (dI n))/\Ck m/\Ck n/\∀a,aJ H a->Q (.bl (cov m n)) a
abbrev yB:List Yp:=["one","other"]
theorem Ki:aG ["one","other"] yB (av yK):=fq
variable{sT:Ye}{lP:Ye}{pP:YE}{jQ:YE}(cW:∅ 1 sT pP JX (pQ K))(bU:eM K mg "count_of" sT pP JX)(iM:∅ 1 lP jQ zH (jE K))(eh:eM K mg "hands_among" lP jQ zH)(RO:mg "all"=Yb)
include eV cW bU iM eh RO in
theorem Jp(F:bN K "covers" "covers" yK f fd):∅ 2 f fd yB (vd K):=by
 refine F.oj Ki ?_;rintro _ _ _ _ _ _ _ _ s _ _ _ ⟨d,e,m,n,rfl,h⟩;refine⟨_,(ax (aP (bH (NF rfl) (by rfl) RO aiT (aa (bS ["one","other","hand"] [Ya 0,Ya 1,Yb] rfl rfl (by kernel_rfl) (bo (K:=K) rfl (bg iM eh s (aa (d5 (aa (pv 0) (aa (pv 1) ai))) ai))) (λ_ _ _ _ _ nd=>aQ (i:=2) nd rfl (Or.inl rfl)) (λ_ _ _ _ _=>dD) (λ_ _ _ _ _=>(qT Dd (bg cW bU s (aa (pv 0) (aa (pv 2) ai))) (bg cW bU s (aa (pv 1) (aa (pv 2) ai))) (bC _)))) ai)))),?_⟩;obtain⟨hd,B,r,t,k⟩:=h;refine⟨_,rfl,_,rfl,by show 2<=YB;decide,λH u=>?_⟩;have y:=aC (o:=.lst [V.ref d,.ref e]) u;refine⟨H,_,[m,n],rfl,a9.of af,.cons ⟨d,rfl,cY y hd⟩ (.cons ⟨e,rfl,cY y B⟩ .nil),λx A=>?_,by show 2<=10;decide,λI l S J hl nd mem=>?_⟩
 ·rcases Ym.mp A with z|z
  ·rw[z];exact r
  ·rw[Yi.mp z];exact t
 have C:=y.trans J;have rg:∀j∈S,0<=j/\j<63:=λj g=>by
  rcases two.mp ((mem j).mp g)with z|z
  ·exact r.keys j z
  ·exact t.keys j z
 have O:=iY nd rg;refine⟨l,rfl,⟨_,a9.of hl⟩,λD E=>?_⟩;refine bh (K:=K) (a:=l) (xs:=S.map V.int) (λi σ p=>∃v,σ=[Ya (.ref d),Ya (.ref e),v]/\aJ I p/\p D=Ya (.lst (((S.take i).map λj=>decide (ct n j<=ct m j)).map V.bl))) ⟨Yb,rfl,aC E,af⟩ ?_ ?_ ?_
 ·rintro i σ p _ ⟨_,_,q,_⟩;exact a9.of (q _ _ hl)
 ·rintro i x σ p A ⟨v,rfl,q,c⟩;obtain⟨j,g,rfl⟩:=gF A;have L:=(Yh.mp g).1;have G:=C.trans q;refine Cy ⟨_,rfl,_,rfl,d,m,j,rfl,cY G hd,_,rfl,_,rfl,e,n,j,rfl,cY G B,_,_,rfl,rfl,_,c,?_,Ya (.int j),rfl,λb o z=>?_,?_⟩
  ·rw[Yf,Yf,mr];exact aF (by omega)
  ·rw[ak (ay z E)];exact q b o z
  ·rw[af,aN g,Yr,Yr];rfl
 rintro σ p ⟨v,rfl,q,c⟩;rw[show S.take (S.map V.int).length=S by rw[Yf,YI]]at c;refine⟨D,_,rfl,a9.of c,?_⟩;have M:((S.map λj=>decide (ct n j<=ct m j)).all λb=>b)=cov m n:=by
  rw[abQ,QB r t,ae4];constructor
  ·intro h j;by_cases g:j∈S
   ·exact of_decide_eq_true (h _ (Y3 (f:=λj=>decide (ct n j<=ct m j)) g))
   ·rw[lJ (λz=>g ((mem j).mpr (two.mpr (.inr z))))];exact r.ct j
  ·intro h b N;obtain⟨j,_,rfl⟩:=YA.mp N;exact decide_eq_true (h j)
 rw[M];exact k _ (C.trans q)
def kJ(K:Yc):Sp:=λe H Q _=>∃(a:Ye) (b:List V) (ps:List (Int×Int)),e=[.ref a]/\(a9 K H a b∨bJ K H a b)/\jW H b ps/\ps.length<=1000/\(ps.map (·.1)).Nodup/\
 ∀(c:Hp) (d:Ye),aJ H c->H d=Yb->c d=Ya (.dK (dI (fj ps)))->Q (.ref d) c
abbrev Gz:List Yp:=["pairs"]
theorem FP:aG ["pairs"] Gz (av sO):=fq
variable(pj:mg "dict"=Yb)
include eV pj in
theorem ET(F:bN K "unpacked" "unpacked" sO f fd):∅ 1 f fd Gz (kJ K):=by
 refine F.oj FP ?_;rintro _ _ _ _ H _ Q _ _ _ _ _ ⟨a,t,ps,rfl,h⟩;refine⟨_,(ax (aP (bZ (GU rfl) (by rfl) pj acj (aa (bS ["hand","count"] [Yb,Yb] rfl rfl (by kernel_rfl) (HI (K:=K) rfl (pv 0)) (λ_ _ _ _ _ nd=>kM (K:=K) (n:=2) rfl rfl (cH (aQ (i:=0) nd rfl (Or.inl rfl)) (cH (aQ (i:=1) nd rfl (Or.inl rfl)) kT))) (λ_ _ _ _ _=>(dA (br Nf (pv 1) az (bC _)))) (λ_ _ _ _ _=>(cF (aa (pv 0) (aa (pv 1) ai))))) ai)))),?_⟩;obtain⟨r,hp,u,nd,k⟩:=h;have J:=hp.len
 -- one turn
 have turn:∀(D:Ye) (_:H D=Yb) (i:Nat) (x:V) (σ:St) (c:Hp),t[i]?=Ya x->(∃v l d,σ=[v,l]/\aJ H c/\c D=Ya (.lst d)/\d.length<=i/\jW c d (fj (ps.take i)))->
   fF (QW K 2 (Ht (yt 0) (Ht (yt 1) Tv))) (MX (Vc (Nx λi j=>.bl (decide (j<i))) (Jw 1) (tC (.int 0)))) (UW (zu (Jw 0) (zu (Jw 1) CQ))) D
    (λσ c=>∃v l d,σ=[v,l]/\aJ H c/\c D=Ya (.lst d)/\d.length<=i+ 1/\jW c d (fj (ps.take (i+ 1)))) x σ c:=by
  rintro D m i x σ c L ⟨v,l,d,rfl,sm,g,E,y⟩;obtain⟨p,s,b,rfl,M⟩:=hp.get L;have N:=(Yh.mp s).1;refine⟨b,_,rfl,bJ.of (sm _ _ M),rfl,_,_,rfl,_,_,rfl,rfl,_,rfl,_,_,rfl,rfl,_,rfl,dP (λh=>?_) λh=>?_⟩
  ·have G:0<p.2:=of_decide_eq_true h;refine⟨_,rfl,_,rfl,by show 2<=YB;decide,λq I=>?_⟩;have A:D≠q:=ay g I;refine⟨d,by rw[ak A];exact g,aF (by omega),Ya (.int p.1),Ya (.int p.2),_,rfl,λb o e=>?_,af,by rw[Yq];exact aau E,?_⟩
   ·rw[ak (ay e m),ak (ay (sm b o e) I)];exact sm b o e
   ·rw[aN s,Q6 G];refine jW.snoc (y.mono λa d e=>?_) ⟨q,rfl,?_⟩
    ·rw[ak (bM e g (by intro z;cases z)),ak (ay e I)];exact e
    ·rw[ak (Ne.symm A),af]
  ·have G:¬ 0<p.2:=λz=>h (decide_eq_true z);refine⟨Ya (.int p.1),Ya (.int p.2),d,rfl,sm,g,acr E,?_⟩;rw[aN s,Sf G];exact y
 have fin:∀(D:Ye) (_:H D=Yb) (σ:St) (c:Hp),(∃v l d,σ=[v,l]/\aJ H c/\c D=Ya (.lst d)/\d.length<=t.length/\jW c d (fj (ps.take t.length)))->
   ∃(a:Ye) (d:List V) (C:List (Int×Int)),[V.ref D]=[.ref a]/\c a=Ya (.lst d)/\jW c d C/\(C.map (·.1)).Nodup/\C.length<=1000/\∀p,c p=Yb->Q (.ref p) (upd c p (.dK (dI C))):=by
  rintro D m σ c ⟨v,l,d,rfl,sm,g,E,y⟩;rw[J,YI]at y;refine⟨D,d,fj ps,rfl,g,y,BF nd,ir (Rf ps) u,λp B=>?_⟩;exact k _ p (sm.trans (aC B)) (sm.free B) af
 rcases r with r|r
 ·refine⟨_,rfl,a,rfl,.inl ⟨⟨_,r⟩,λD m=>?_⟩⟩;exact bh (K:=K) (a:=a) (xs:=t) (λi σ c=>∃v l d,σ=[v,l]/\aJ H c/\c D=Ya (.lst d)/\d.length<=i/\jW c d (fj (ps.take i))) ⟨Yb,Yb,[],rfl,aC m,af,Yl _,.nil⟩
   (λi σ c _ ⟨_,_,_,_,sm,_⟩=>sm.seq r) (turn D m) (fin D m)
 ·refine⟨_,rfl,a,rfl,.inr ⟨⟨_,r⟩,λD m=>?_⟩⟩;exact Oj (K:=K) (a:=a) (xs:=t) (λi σ c=>∃v l d,σ=[v,l]/\aJ H c/\c D=Ya (.lst d)/\d.length<=i/\jW c d (fj (ps.take i))) ⟨Yb,Yb,[],rfl,aC m,af,Yl _,.nil⟩
   (λi σ c _ ⟨_,_,_,_,sm,_⟩=>NH sm r) (turn D m) (fin D m)
def vh(K:Yc):Sp:=λb H Q _=>∃(d e:Ye) (m n:List (Int×Int)),b=[.ref d,.ref e]/\Rd H d (.dK (dI m))/\Rd H e (.dK (dI n))/\Ck m/\Ck n/\
 ∀(a:Hp) (p:Ye) (j:List (Int×Int)),aJ H a->H p=Yb->a p=Ya (.dK (dI j))->Td j->(∀k,Ou [m,n] k (ct j k))->Q (.ref p) a
theorem Jn:aG ["one","other"] yB (av yz):=fq
variable{nJ:Ye}{ke:YE}(zK:∅ 1 nJ ke Gz (kJ K))(eY:eM K mg "unpacked" nJ ke Gz)(Sd:mg "max"=Yb)
include eV cW bU iM eh zK eY Sd in
theorem JG(F:bN K "joined" "joined" yz f fd):∅ 2 f fd yB (vh K):=by
 refine F.oj Jn ?_;rintro _ _ _ _ _ _ _ _ A _ _ _ ⟨d,e,m,n,rfl,h⟩;refine⟨_,(ax (aP (bg zK eY A (aa (bS ["one","other","hand"] [Ya 0,Ya 1,Yb] rfl rfl (by kernel_rfl) (bo (K:=K) rfl (bg iM eh A (aa (d5 (aa (pv 0) (aa (pv 1) ai))) ai))) (λ_ _ _ _ _ nd=>aQ (i:=2) nd rfl (Or.inl rfl)) (λ_ _ _ _ _=>dD) (λ_ _ _ _ _=>(cF (aa (pv 2) (aa (bH (KC rfl) (by rfl) Sd aiU (aa (bg cW bU A (aa (pv 0) (aa (pv 2) ai))) (aa (bg cW bU A (aa (pv 1) (aa (pv 2) ai))) ai))) ai))))) ai)))),?_⟩;obtain⟨hd,M,C,E,k⟩:=h;refine⟨_,rfl,_,rfl,by show 2<=YB;decide,λR G=>?_⟩;have H:=aC (o:=.lst [V.ref d,.ref e]) G;refine⟨R,_,[m,n],rfl,a9.of af,.cons ⟨d,rfl,cY H hd⟩ (.cons ⟨e,rfl,cY H M⟩ .nil),λx s=>?_,by show 2<=10;decide,λT l S U hl nd mem=>?_⟩
 ·rcases Ym.mp s with z|z
  ·rw[z];exact C
  ·rw[Yi.mp z];exact E
 have I:=H.trans U;have rg:∀j∈S,0<=j/\j<63:=λj g=>by
  rcases two.mp ((mem j).mp g)with z|z
  ·exact C.keys j z
  ·exact E.keys j z
 have Z:=iY nd rg;refine⟨l,rfl,⟨_,a9.of hl⟩,λD N=>?_⟩;refine bh (K:=K) (a:=l) (xs:=S.map V.int) (λi σ t=>∃v r,σ=[Ya (.ref d),Ya (.ref e),v]/\aJ T t/\t D=Ya (.lst r)/\r.length<=i/\jW t r (IU (S.take i) λj=>if ct n j>ct m j then ct n j else ct m j)) ⟨Yb,[],rfl,aC N,af,Yl _,.nil⟩ ?_ ?_ ?_
 ·rintro i σ t _ ⟨_,_,_,q,_⟩;exact a9.of (q _ _ hl)
 ·rintro i x σ t s ⟨v,r,rfl,q,c,O,B⟩;obtain⟨j,g,rfl⟩:=gF s;have W:=(Yh.mp g).1;have Q:=I.trans q;refine Cy ⟨_,rfl,_,rfl,_,rfl,d,m,j,rfl,cY Q hd,_,rfl,_,rfl,e,n,j,rfl,cY Q M,_,_,rfl,by show 2<=YB;decide,λp hp=>?_⟩;have u:D≠p:=ay c hp;refine⟨r,by rw[ak u];exact c,aF (by omega),Ya (.int j),_,rfl,λb o z=>?_,af,by rw[Yq];exact aau O,?_⟩
  ·rw[ak (ay z N),ak (ay (q b o z) hp)];exact q b o z
  ·rw[aN g];show jW _ _ (ahm _ (_++[j]));rw[Yr];refine jW.snoc (B.mono λa r z=>?_) ⟨p,rfl,?_⟩
   ·rw[ak (bM z c (by intro z;cases z)),ak (ay z hp)];exact z
   ·rw[ak (Ne.symm u),af]
 rintro σ t ⟨v,r,rfl,q,c,O,B⟩;rw[show S.take (S.map V.int).length=S by rw[Yf,YI]]at B;refine⟨D,r,_,rfl,.inl (a9.of c),B,?_,by rw[mw];exact nd,λH2 p J L hp=>?_⟩
 ·show(ahm _ S).length<=1000;rw[Yf];omega
 refine k _ p _ ((I.trans q).trans J) ((I.trans q).free L) hp (Lb nd rg) λj=>?_;have mx:Ou [m,n] j (if ct n j>ct m j then ct n j else ct m j):=by
  by_cases z:ct n j>ct m j
  ·rw[if_pos z];refine⟨⟨n,by simp,rfl⟩,λx s=>?_⟩;rcases Ym.mp s with y|y
   ·rw[y];omega
   ·rw[Yi.mp y];omega
  ·rw[if_neg z];refine⟨⟨m,by simp,rfl⟩,λx s=>?_⟩;rcases Ym.mp s with y|y
   ·rw[y];omega
   ·rw[Yi.mp y];omega
 by_cases g:j∈S
 ·rw[NU nd j g (by have:=C.ct j;have:=E.ct j;split<;>omega)];exact mx
 ·have X:ct m j=0:=lJ λz=>g ((mem j).mpr (two.mpr (.inl z)));have Y:ct n j=0:=lJ λz=>g ((mem j).mpr (two.mpr (.inr z)));rw[Hy g];rw[X,Y]at mx;exact mx
def gi(K:Yc):Sp:=λb H Q _=>∃(d a:Ye),b=[.ref d,.ref a]/\∃m n h c,Rd H d (.dK (dI m))/\bJ K H a [.int n,.int h,.int c]/\Q (.bl (decide (c<=ct m h))) H
abbrev He:List Yp:=["counts","name"]
theorem yI:aG ["counts","name"] He (av kZ):=fq
include eV cW bU in
theorem z5(F:bN K "covers_name" "covers_name" kZ f fd):∅ 2 f fd He (gi K):=by
 refine F.oj yI ?_;rintro _ _ _ _ _ _ _ _ b _ _ _ ⟨d,a,rfl,h⟩;refine⟨_,(ax (aP (qT Dd (bg cW bU b (aa (pv 0) (aa (bB (bG (K:=K) rfl) (pv 1) az (λ_ _=>rfl)) ai))) (bB (bG (K:=K) rfl) (pv 1) az (λ_ _=>rfl)) (bC _)))),?_⟩;obtain⟨m,n,h,c,hd,ha,k⟩:=h;cbv;refine⟨d,m,h,rfl,hd,?_⟩;cbv;exact k
def EN(K:Yc)(v:V):Prop:=∃a,v=.ref a/\∀H,bJ K H a [.str "own",.str "heard",.str "one"]
def hW(K:Yc):Sp:=λd H Q _=>∃(p:Ye) (n c k w cs:V),d=[.ref p,n,c,k,w,cs]/\∃C b,i9 K C/\H p=Ya (.ins C b [])/\∀a,KS p H a->a p=Ya (.ins C b (tG n c k w cs))->Q .non a
def i8(K:Yc):Sp:=λe H Q _=>∃(p:Ye) (n c k w cs:V),e=[.ref p,n,c,k,w,cs]/\∃C d,i9 K C/\H p=Ya (.ins C d [])/\∀a t,(∀b o,H b=Ya o->b≠p->a b=Ya o)->a t=Ya (.tup [])->a p=Ya (.ins C d (tG n c k w (.ref t)))->Q .non a
abbrev yQ:List Yp:=["self","number","caller","count","word","causes"]
theorem vH:aG ["self","number","caller","count","word","causes"] yQ (av iW):=fq
include eV in
theorem vw(F:bN K "__init__" "Call.__init__" iW f fd):∅ 1 f fd yQ (hW K):=by
 refine F.oj vH ?_;rintro _ _ _ _ _ _ _ _ _ _ _ _ ⟨p,n,c,k,w,cs,rfl,h⟩;refine⟨_,(aj (cM (K:=K) rfl (pv 0) (pv 1) rfl)
   (aj (cM (K:=K) rfl (pv 0) (pv 2) rfl)
   (aj (cM (K:=K) rfl (pv 0) (pv 3) rfl)
   (aj (cM (K:=K) rfl (pv 0) (pv 4) rfl)
   (ax (cM (K:=K) rfl (pv 0) (pv 5) rfl)))))),?_⟩
 obtain⟨C,l,⟨cl,n1,n2,n3,n4,n5⟩,hp,q⟩:=h;cbv;intro m d o;cbv;intro r e s;cbv;intro t g u;cbv;intro v i x;cbv;intro y j a;rw[QO]at a;exact q _ (λb h=>(j b h).trans ((i b h).trans ((g b h).trans ((e b h).trans (d b h))))) a
theorem rm:aG ["self","number","caller","count","word","causes"] yQ (av fV):=fq
variable{d8:Ye}{sy:Ye}{ik:YE}(oN:∅ 1 d8 ik yQ (hW K))(ef:Binds K ik yQ [])(Gk:i9 K sy)(CI:mg "Call"=Ya (.ref sy))(fy:LG K sy "__init__" d8)
include eV oN ef Gk CI fy in
theorem rj(F:bN K "__init__" "OwnCall.__init__" fV f fd):∅ 2 f fd yQ (i8 K):=by
 refine F.oj rm ?_;rintro _ _ _ _ _ _ _ _ g _ _ _ ⟨p,n,c,k,w,cs,rfl,h⟩;refine⟨_,(ax (dC (Ol rfl CI fy oN ef g (aa (pv 0) (aa (pv 1) (aa (pv 2) (aa (pv 3) (aa (pv 4) (aa (cF ai) ai))))))))),?_⟩;obtain⟨C,i,T,hp,q⟩:=h;cbv;intro t r s a j;cbv;refine⟨p,n,c,k,w,_,rfl,C,i,T,a _ _ hp,λu d l=>?_⟩;cbv;exact q _ t (λb o e m=>d.at m (a _ _ e)) (d.of (a _ _ hp) j (by intro z;cases z)) l
def yS(K:Yc):Sp:=λa H Q _=>∃(w:Int),a=[.int w]/\Q (.bl (decide ((if w<0 then-w else w)<10^(60:Int).toNat))) H
def OL(mg:Yp->Option Yd)(kd:Yp)(C:Ye):Prop:=(kd="own"/\mg "OwnCall"=Ya (.ref C))∨(kd="heard"/\mg "HeardCall"=Ya (.ref C))∨(kd="one"/\mg "OneCall"=Ya (.ref C))
def nB(K:Yc)(mg:Yp->Option Yd):Sp:=λe H Q _=>∃(n c k:Int) (kd:Yp) (w:Int) (t:Ye),e=[.int n,.int c,.int k,.str kd,.int w,.ref t]/\∃b,(kd="own"∨kd="heard"∨kd="one")/\(if w<0 then-w else w)<10^(60:Int).toNat/\H t=Ya (.tup b)/\
 ∀a p C f d,aJ H a->H p=Yb->OL mg kd C->i9 K C->a p=Ya (.ins C f (tG (.int n) (.int c) (.int k) (.int w) (.ref d)))->a d=Ya (.tup (if kd="own"then[]else b))->Q (.ref p) a
def wY(K:Yc):Sp:=λa H Q _=>∃(w:Int),a=[.int w]/\Q (.bl true) H
theorem Et:aG ["value"] ["value"] (av sZ):=fq
variable(MD:mg "bool"=Yb)(Rz:mg "int"=Yb)(gj:mg "isinstance"=Yb)
include eV MD Rz gj in
theorem Dw(F:bN K "is_whole" "is_whole" sZ f fd):∅ 1 f fd ["value"] (wY K):=by
 refine F.oj Et ?_;rintro _ _ _ _ _ _ _ _ _ _ _ _ ⟨w,rfl,h⟩;refine⟨_,(ax (aP (By (bH (vm (K:=K) rfl) (by rfl) gj acC (aa (pv 0) (aa (BW Rz aiV) ai))) (yW (MB (bH (vm (K:=K) rfl) (by rfl) gj acC (aa (pv 0) (aa (BW MD aiN) ai)))))))),?_⟩;cbv;refine⟨_,_,_,true,rfl,.int _,(by kernel_rfl),?_⟩;cbv;refine⟨_,_,_,false,rfl,.int _,(by kernel_rfl),?_⟩;cbv;exact h
theorem FV:aG ["word"] ["word"] (av vQ):=fq
variable{zY:Ye}{xh:YE}(zh:∅ 1 zY xh ["value"] (wY K))(yp:eM K mg "is_whole" zY xh ["value"])(RU:mg "abs"=Yb)
include eV zh yp RU in
theorem GR(F:bN K "is_word" "is_word" vQ f fd):∅ 2 f fd ["word"] (yS K):=by
 refine F.oj FV ?_;rintro _ _ _ _ _ _ _ _ a _ _ _ ⟨w,rfl,h⟩;refine⟨_,(ax (aP (By (bg zh yp a (aa (pv 0) ai)) (yW (qT Ay (bH MY (by rfl) RU aiW (aa (pv 0) ai)) (a8 Ct az az) (bC _)))))),?_⟩;cbv;refine⟨w,rfl,?_⟩;cbv;refine⟨_,rfl,?_⟩;cbv;exact h
abbrev J0:List Yp:=["number","caller","count","kind","word","causes"]
theorem CJ:aG ["number","caller","count","kind","word","causes"] J0 (av pJ):=fq
variable{jI:Ye}{Bp:Ye}{bj:Ye}{bL:Ye}{bK:Ye}{ja:YE}{y7:YE}{Dq:V}{Dv:Yd}(fW:∅ 2 d8 ik yQ (hW K))(jD:∅ 2 jI ja yQ (i8 K))(jO:Binds K ja yQ [])(Ax:∅ 3 Bp y7 ["word"] (yS K))(AY:eM K mg "is_word" Bp y7 ["word"])(ao:i9 K bj)(aA:i9 K bL)(aB:i9 K bK)(aw:mg "HeardCall"=Ya (.ref bj))(aD:mg "OneCall"=Ya (.ref bL))(aE:mg "OwnCall"=Ya (.ref bK))(kF:Mk K bj d8)(qY:Mk K bL d8)(rh:Mk K bK jI)(tN:mg "KINDS"=Ya Dv)(uN:RelV Dq Dv)(tP:EN K Dq)
include eV fW ef jD jO Ax AY ao aA aB aw aD aE kF qY rh tN uN tP in
theorem BV(F:bN K "make_call" "make_call" pJ f fd):∅ 4 f fd J0 (nB K mg):=by
 refine F.oj CJ ?_;rintro _ _ _ _ H _ _ _ r d _ _ ⟨n,c,k,kd,w,t,rfl,h⟩;refine⟨_,(aj (eF (br (Rq (K:=K) rfl d) (pv 3) (HD rfl tN uN) (by rfl)) (ax Fs) cg)
   (aj (eF (vF (dS K rfl (bg Ax AY r (aa (pv 4) ai)))) (ax Fs) cg)
   (aj (eF (br oP (pv 3) fS (bC _)) (ax (aP (ri rh jD r rfl aE jO .nil oF (aa (pv 0) (aa (pv 1) (aa (pv 2) (aa (pv 4) (aa (pv 5) ai)))))))) cg)
   (aj (eF (br oP (pv 3) fS (bC _)) (ax (aP (ri kF fW r rfl aw ef .nil oF (aa (pv 0) (aa (pv 1) (aa (pv 2) (aa (pv 4) (aa (pv 5) ai)))))))) cg)
   (ax (aP (ri qY fW r rfl aD ef .nil oF (aa (pv 0) (aa (pv 1) (aa (pv 2) (aa (pv 4) (aa (pv 5) ai)))))))))))),?_⟩
 obtain⟨D,g,hw,x,q⟩:=h;obtain⟨E,rfl,z⟩:=tP;have u:=z H;cbv;refine Pz g u ?_;cbv;refine⟨w,rfl,?_⟩;cbv;rw[decide_eq_true hw];cbv;rcases g with rfl|rfl|rfl
 ·rw[VA];cbv;intro p a y hp i j;refine⟨p,_,_,_,_,_,rfl,_,a,aB,j,λs A B l C=>⟨rfl,?_⟩⟩;refine q _ p _ a A (λb o e=>B _ _ (i _ _ e) (ay e hp)) hp (.inl ⟨rfl,aE⟩) aB C ?_;rw[if_pos rfl];exact l
 ·rw[VV];cbv;rw[WH];cbv;intro p a y hp i j;refine⟨p,_,_,_,_,_,rfl,_,a,ao,j,λs v l=>⟨rfl,?_⟩⟩;have m:aJ H s:=λb o e=>v.at (ay e hp) (i _ _ e);refine q _ p _ a t m hp (.inr (.inl ⟨rfl,aw⟩)) ao l ?_;rw[if_neg (by decide +kernel)];exact m _ _ x
 ·rw[VF];cbv;rw[Xe];cbv;intro p a y hp i j;refine⟨p,_,_,_,_,_,rfl,_,a,aA,j,λs v l=>⟨rfl,?_⟩⟩;have m:aJ H s:=λb o e=>v.at (ay e hp) (i _ _ e);refine q _ p _ a t m hp (.inr (.inr ⟨rfl,aD⟩)) aA l ?_;rw[if_neg (by decide +kernel)];exact m _ _ x
def iZ(K:Yc):Sp:=λa H Q _=>∃(p d:Ye),a=[.ref p,.ref d]/\∃C b m n c k w cs,i9 K C/\H p=Ya (.ins C b (tG n (.int c) (.int k) w cs))/\Rd H d (.dK (dI m))/\Q (.bl (decide (ct m c=k-1))) H
def tQ(K:Yc)(mg:Yp->Option Yd):Sp:=λa H Q _=>∃(p d:Ye),a=[.ref p,.ref d]/\∃C b m n c k w cs,mg "OwnCall"=Ya (.ref C)/\H p=Ya (.ins C b (tG n (.int c) (.int k) w cs))/\Rd H d (.dK (dI m))/\Q (.bl (decide (ct m c=k-1))) H
def j8(K:Yc)(mg:Yp->Option Yd):Sp:=λe H Q _=>∃(p d:Ye),e=[.ref p,.ref d]/\∃C f m n c k w t a ps,(mg "HeardCall"=Ya (.ref C)∨mg "OneCall"=Ya (.ref C))/\H p=Ya (.ins C f (tG n (.int c) (.int k) w (.ref t)))/\Rd H d (.dK (dI m))/\H t=Ya (.tup a)/\jW H a ps/\Ck m/\Ck ps/\∀b,aJ H b->Q (.bl (decide (ct m c=k-1)&&cov m (fj ps))) b
theorem Ts{ps:List (Int×Int)}(c:Ck ps):Ck (fj ps):=⟨BF c.nd,λp hp=>c.nn p ((YU.mp hp).1),λp hp=>c.rg p ((YU.mp hp).1)⟩
abbrev sM:List Yp:=["self","counts"]
theorem xI:aG ["self","counts"] sM (av jz):=fq
include eV cW bU in
theorem xU(F:bN K "in_turn" "Call.in_turn" jz f fd):∅ 2 f fd sM (iZ K):=by
 refine F.oj xI ?_;rintro _ _ _ _ _ _ _ _ a _ _ _ ⟨p,d,rfl,h⟩;refine⟨_,(ax (aP (qT oP (bg cW bU a (aa (pv 1) (aa (aL (K:=K) rfl (pv 0) rfl) ai))) (a8 zN (aL (K:=K) rfl (pv 0) rfl) az) (bC _)))),?_⟩;obtain⟨C,b,m,n,c,k,w,cs,⟨cl,n1,n2,n3,n4,n5⟩,hp,hd,q⟩:=h;cbv;refine⟨d,m,c,rfl,hd,?_⟩;cbv;exact q
theorem B6:aG ["self","counts"] sM (av qO):=fq
variable{gn:Ye}{oa:YE}(eR:∅ 2 gn oa sM (iZ K))(eW:Binds K oa sM [])(dZ:bE K bK "in_turn" gn)
include eV eR eW aB aE dZ in
theorem BA(F:bN K "free" "Call.free" qO f fd):∅ 3 f fd sM (tQ K mg):=by
 refine F.oj B6 ?_;rintro _ _ _ _ _ _ _ _ a _ _ _ ⟨p,d,rfl,h⟩;refine⟨_,(ax (aP (bV (bT.cons aB.cl dZ eR eW bT.nil) (pv 0) a (aa (pv 1) ai)))),?_⟩;obtain⟨C,b,m,n,c,k,w,cs,e,hp,hd,q⟩:=h;rw[aE]at e;cases e;cbv;exact⟨p,d,rfl,_,b,m,n,c,k,w,cs,aB,hp,hd,q⟩
theorem uL:aG ["self","counts"] sM (av ic):=fq
variable{Eo:Ye}{Aq:YE}(EV:∅ 2 Eo Aq yB (vd K))(Ey:eM K mg "covers" Eo Aq yB)(iK:∅ 2 nJ ke Gz (kJ K))(dJ:bE K bj "in_turn" gn)(d6:bE K bL "in_turn" gn)
include eV EV Ey iK eY eR eW ao aA aw aD dJ d6 in
theorem va(F:bN K "free" "HeardCall.free" ic f fd):∅ 3 f fd sM (j8 K mg):=by
 refine F.oj uL ?_;rintro _ _ _ _ H _ _ _ o _ _ _ ⟨p,d,rfl,h⟩;refine⟨_,(ax (aP (By (bV (bT.cons ao.cl dJ eR eW (bT.cons aA.cl d6 eR eW bT.nil)) (pv 0) o (aa (pv 1) ai)) (yW (bg EV Ey o (aa (pv 1) (aa (bg iK eY o (aa (aL (K:=K) rfl (pv 0) rfl) ai)) ai))))))),?_⟩;obtain⟨C,A,m,n,c,k,w,t,s,ps,e,hp,hd,u,v,B,g,q⟩:=h;have T:i9 K C:=by
  rcases e with e|e
  ·rw[aw]at e;cases e;exact ao
  ·rw[aD]at e;cases e;exact aA
 have go:∀{i:VK},(i (.bl (decide (ct m c=k-1))) H)->iZ K [.ref p,.ref d] H i E0:=λz=>⟨p,d,rfl,_,A,m,n,c,k,w,_,T,hp,hd,z⟩;obtain⟨cl,n1,n2,n3,n4,n5⟩:=id T;have tail:∀{i:VK},(∀x,aJ H x->i (.bl (cov m (fj ps))) x)->∀e a,aJ H a->a e=Ya (.dK (dI (fj ps)))->vd K [.ref d,.ref e] a i E0:=λz e a b j=>⟨d,e,m,fj ps,rfl,cY b hd,.inl j,B,Ts g,λy l=>z _ (b.trans l)⟩;rcases e with e|e
 ·rw[aw]at e;cases e;cbv;refine go ?_;cbv;refine dP (λh1=>?_) λh1=>?_
  ·cbv;refine⟨t,s,ps,rfl,.inr (bJ.of u),v,by have:=g.len;omega,g.nd,λa D b r j=>?_⟩;cbv;refine tail (λy l=>?_) _ _ b j;have:=q _ l;rw[h1,aeq]at this;exact this
  ·have h1:=aby.mpr h1;have:=q _ (aJ.refl H);rw[h1,abV]at this;exact this
 ·rw[aD]at e;cases e;cbv;refine go ?_;cbv;refine dP (λh1=>?_) λh1=>?_
  ·cbv;refine⟨t,s,ps,rfl,.inr (bJ.of u),v,by have:=g.len;omega,g.nd,λa D b r j=>?_⟩;cbv;refine tail (λy l=>?_) _ _ b j;have:=q _ l;rw[h1,aeq]at this;exact this
  ·have h1:=aby.mpr h1;have:=q _ (aJ.refl H);rw[h1,abV]at this;exact this
abbrev xZ(m:List (Int×Int))(p:Nm):Prop:=p.2.2<=ct m p.2.1
def lV(K:Yc):Sp:=λc H Q _=>∃(a d:Ye) (i:Nat),c=[.ref a,.ref d,.int i]/\∃b m ns,(a9 K H a b∨bJ K H a b)/\Rd H d (.dK (dI m))/\nv H b ns/\i<=ns.length/\(∀k (e:k<ns.length),k<i->xZ m ns[k])/\
 ∀j:Nat,j<=ns.length->(∀k (e:k<ns.length),k<j->xZ m ns[k])->(∀f:j<ns.length,¬ xZ m ns[j])->Q (.int j) H
abbrev JP:List Yp:=["places","counts","start"]
theorem lD:aG ["places","counts","start","at"] JP (av nG):=fq
variable{iN:Ye}{f9:YE}(iC:∅ 2 iN f9 He (gi K))(c6:eM K mg "covers_name" iN f9 He)(fc:mg "len"=Yb)
include eV iC c6 fc in
theorem z8(F:bN K "first_open" "first_open" nG f fd):∅ 3 f fd JP (lV K):=by
 refine F.oj lD ?_;rintro _ _ _ _ H _ _ _ r _ _ _ ⟨a,d,i,rfl,h⟩;refine⟨_,(aj (bc (i:=3) lD.nd rfl (Or.inl rfl) (pv 2))
   (aj (ze aam (PW.pt (zW (br Ay (pv 3) (bH (c8 (K:=K) rfl) (by rfl) fc aal (aa (pv 0) ai)) (bC _)) (uK (dS K rfl (bg iC c6 r (aa (pv 1) (aa (bB (Hu (K:=K) rfl) (pv 0) (pv 3) (λ_ _=>rfl)) ai)))))))
   (ax (bc (i:=3) lD.nd rfl (Or.inl rfl) (a8 eQ (pv 3) az))))
   (ax (aP (pv 3))))),?_⟩
 obtain⟨e,m,ns,y,hd,hn,s,g,k⟩:=h;cbv;have hl:=hn.len;let l:Nat->St->Hp->Prop:=λM σ o=>∃j:Nat,M=ns.length-j/\j<=ns.length/\σ=[Ya (.ref a),Ya (.ref d),Ya (.int i),Ya (.int j)]/\o=H/\(∀k (p:k<ns.length),k<j->xZ m ns[k]);refine⟨l,⟨_,i,rfl,s,rfl,rfl,g⟩,?_⟩;rintro M σ o ⟨j,rfl,q,rfl,rfl,n⟩;cbv;refine dP (λh1=>?_) λh1=>?_
 ·have h1:(j:Int)<(e.length:Nat):=of_decide_eq_true h1;have c:j<ns.length:=by omega
  obtain⟨x,t,b,rfl,u⟩:=hn.at c;have v:uZ e (j:Int)=Ya (.ref b):=cG t;cbv;refine⟨d,b,rfl,m,_,_,_,hd,bJ.of u,?_⟩;cbv;refine dP (λh2=>?_) λh2=>?_
  ·have h2:xZ m ns[j]:=of_decide_eq_true h2;refine⟨_,λ_ _ z=>z,?_⟩;cbv;refine⟨ns.length-(j+ 1),by omega,j+ 1,rfl,c,rfl,rfl,λk p h=>?_⟩;rcases abY k j with z|z
   ·exact n k p z
   ·obtain rfl:k=j:=by omega
    exact h2
  ·have h2:¬ xZ m ns[j]:=λz=>h2 (decide_eq_true z);cbv;exact k j q n λ_=>h2
 ·have h1:¬ (j:Int)<(e.length:Nat):=λz=>h1 (decide_eq_true z);cbv;exact k j q n λz=>absurd z (by omega)
def tu(K:Yc):Sp:=λc H Q _=>∃(a:Ye) (i:Int),c=[.ref a,.int i]/\∃b,(a9 K H a b∨bJ K H a b)/\0<=i/\(∀v,b[i.toNat]?=Ya v->Q v H)/\(b.length<=i.toNat->Q .non H)
abbrev OF:List Yp:=["places","at"]
theorem Hg:aG ["places","at"] OF (av vn):=fq
include eV fc in
theorem F0(F:bN K "name_at" "name_at" vn f fd):∅ 1 f fd OF (tu K):=by
 refine F.oj Hg ?_;rintro _ _ _ _ _ _ _ _ _ _ _ _ ⟨a,i,rfl,h⟩;refine⟨_,(ax (aP (z4 (br Ay (pv 1) (bH (c8 (K:=K) rfl) (by rfl) fc aal (aa (pv 0) ai)) (bC _)) (bB (Hu (K:=K) rfl) (pv 0) (pv 1) (λ_ _=>rfl)) pY))),?_⟩;obtain⟨b,k,d,e,g⟩:=h;cbv;refine dP (λh1=>?_) λh1=>?_
 ·have h1:i<(b.length:Nat):=of_decide_eq_true h1;have c:i.toNat<b.length:=by omega
  have j:uZ b i=Ya b[i.toNat]:=HC d (Yk c);cbv;exact e _ (Yk c)
 ·have h1:¬ i<(b.length:Nat):=λz=>h1 (decide_eq_true z);cbv;exact g (by omega)
structure bF where
 kd:Yp
 n:Int
 c:Int
 k:Int
 w:Int
 cs:List (Int×Int)
variable{x c:bF}{L:Int->Int->Option (V×bF)}{q:V×bF}{n:List (Int×Int)}{zs rw Zi Zv z:List (V×bF)}{mk mk' Zw ex:List bF}{es:List (bF×V)}{res:List (Nat×List (V×bF))}
def f7(K:Yc)(mg:Yp->Option Yd)(H:Hp)(v:V)(x:bF):Prop:=∃p C b t a,v=.ref p/\OL mg x.kd C/\i9 K C/\H p=Ya (.ins C b (tG (.int x.n) (.int x.c) (.int x.k) (.int x.w) (.ref t)))/\H t=Ya (.tup a)/\jW H a x.cs/\Ck x.cs
def U9(H a:Hp):Prop:=(∀p C b fs,H p=Ya (.ins C b fs)->a p=Ya (.ins C b fs))/\de H a
theorem U9.same(s:aJ H H'):U9 H H':=⟨λ_ _ _ _ e=>s _ _ e,.same s⟩
theorem f7.up(s:U9 H H')(h:f7 K mg H v x):f7 K mg H' v x:=by
 obtain⟨p,C,a,t,b,c,d,e,f,g,i,j⟩:=h;exact⟨p,C,a,t,b,c,d,e,s.1 _ _ _ _ f,s.2 _ _ g,i.mono s.2,j⟩
def cX(K:Yc):Sp:=λb H Q _=>∃(p:Ye),b=[.ref p]/\∃C d n c k w cs,i9 K C/\H p=Ya (.ins C d (tG n c k w cs))/\∀a t,aJ H a->H t=Yb->a t=Ya (.tup [n,c,k])->Q (.ref t) a
abbrev aV:List Yp:=["self"]
theorem CD:aG ["self"] aV (av qM):=fq
include eV in
theorem Cp(F:bN K "name" "Call.name" qM f fd):∅ 1 f fd aV (cX K):=by
 refine F.oj CD ?_;rintro _ _ _ _ _ _ _ _ _ _ _ _ ⟨p,rfl,h⟩;refine⟨_,(ax (aP (cF (aa (aL (K:=K) rfl (pv 0) rfl) (aa (aL (K:=K) rfl (pv 0) rfl) (aa (aL (K:=K) rfl (pv 0) rfl) ai)))))),?_⟩;obtain⟨C,g,n,c,k,w,cs,⟨cl,n1,n2,n3,n4,n5⟩,hp,q⟩:=h;cbv;intro t a b d e;exact q a t d b e
def tO(K:Yc):Sp:=λb H Q _=>∃(p:Ye),b=[.ref p]/\∃C d n c k w cs,i9 K C/\H p=Ya (.ins C d (tG n c k w cs))/\∀a t,aJ H a->H t=Yb->a t=Ya (.tup [c,k])->Q (.ref t) a
theorem BS:aG ["self"] aV (av qJ):=fq
include eV in
theorem CO(F:bN K "rank" "Call.rank" qJ f fd):∅ 1 f fd aV (tO K):=by
 refine F.oj BS ?_;rintro _ _ _ _ _ _ _ _ _ _ _ _ ⟨p,rfl,h⟩;refine⟨_,(ax (aP (cF (aa (aL (K:=K) rfl (pv 0) rfl) (aa (aL (K:=K) rfl (pv 0) rfl) ai))))),?_⟩;obtain⟨C,g,n,c,k,w,cs,⟨cl,n1,n2,n3,n4,n5⟩,hp,q⟩:=h;cbv;intro t a b d e;exact q a t d b e
def d3(K:Yc):Sp:=λa H Q _=>∃(p:Ye),a=[.ref p]/\Q (.bl false) H
def dz(K:Yc):Sp:=λa H Q _=>∃(p:Ye),a=[.ref p]/\Q (.bl true) H
theorem sV:aG ["self"] aV (av gz):=fq
include eV in
theorem tf(F:bN K "asks_place" "Call.asks_place" gz f fd):∅ 1 f fd aV (d3 K):=by
 refine F.oj sV ?_;rintro _ _ _ _ _ _ _ _ _ _ _ _ ⟨p,rfl,h⟩;refine⟨_,(ax (aP wM)),?_⟩;cbv;exact h
theorem oX:aG ["self"] aV (av eX):=fq
include eV in
theorem oY(F:bN K "asks_place" "OneCall.asks_place" eX f fd):∅ 1 f fd aV (dz K):=by
 refine F.oj oX ?_;rintro _ _ _ _ _ _ _ _ _ _ _ _ ⟨p,rfl,h⟩;refine⟨_,(ax (aP wM)),?_⟩;cbv;exact h
noncomputable def Lk(m:List (Int×Int))(x:bF):Bool:=decide (ct m x.c=x.k-1)&&(decide (x.kd="own")||cov m (fj x.cs))
noncomputable def vS(m:List (Int×Int))(x:bF)(o:Option Nm):Bool:=Lk m x&&(!decide (x.kd="one")||decide (o=Ya (x.n,x.c,x.k)))
def Ui(H:Hp)(v:V):Option Nm->Prop
 |none=>v=.non
 |some q=>xQ H v q
theorem Ui.up(s:de H H'){o:Option Nm}(h:Ui H v o):Ui H' v o:=by
 cases o with
 |none=>exact h
 |some q=>obtain⟨a,b,c⟩:=h;exact⟨a,b,s _ _ c⟩
noncomputable def Vv:Option Nm->abo
 |none=>.none
 |some q=>xD q
theorem V6{K:Yc}{o:Option Nm}(h:Ui H v o):Dl K H v (Vv o):=by
 cases o with
 |none=>obtain rfl:v=.non:=h;exact .inl .none
 |some q=>exact .inl (xQ.dp h)
theorem T2(o:Option Nm):(Vv o).canLay0=true:=by
 cases o with
 |none=>rfl
 |some q=>exact F7 q
theorem Uc(o:Option Nm):(Vv o).depth<=60:=by
 cases o with
 |none=>show 0<=60;decide
 |some q=>show 1<=60;decide
theorem VH(q r:Nm):(xD q).eqv (xD r)=decide (r=q):=by
 have e:(xD q).eqv (xD r)=(decide (q.1=r.1)&&(decide (q.2.1=r.2.1)&&(decide (q.2.2=r.2.2)&&true))):=by rfl
 rw[e];obtain⟨a,b,c⟩:=q;obtain⟨x,y,z⟩:=r;by_cases h:(x,y,z)=(a,b,c)
 ·cases h;simp
 ·rw[decide_eq_false h];simp at h⊢;intro h1 h2 h3;exact h h1.symm h2.symm h3.symm
theorem Xa(q:Nm)(o:Option Nm):(xD q).eqv (Vv o)=decide (o=Ya q):=by
 cases o with
 |none=>rfl
 |some r=>
  show(xD q).eqv (xD r)=_;rw[VH];by_cases z:r=q
  ·rw[z,decide_eq_true rfl,decide_eq_true rfl]
  ·rw[decide_eq_false z,decide_eq_false (λw=>z (YF w))]
def tD(K:Yc)(mg:Yp->Option Yd):Sp:=λb H Q _=>∃(v:V),b=[v]/\∃x,f7 K mg H v x/\∀a t,aJ H a->H t=Yb->a t=Ya (.tup [.int x.c,.int x.k])->Q (.ref t) a
abbrev pS:List Yp:=["call"]
theorem Gw:aG ["call"] pS (av vJ):=fq
variable{km:Ye}{ud:YE}(kY:∅ 1 km ud aV (tO K))(kO:Binds K ud aV [])(eE:bE K bj "rank" km)(fO:bE K bL "rank" km)(fR:bE K bK "rank" km)
include eV kY kO ao aA aB aw aD aE eE fO fR in
theorem Gj(F:bN K "rank_of" "rank_of" vJ f fd):∅ 2 f fd pS (tD K mg):=by
 refine F.oj Gw ?_;rintro _ _ _ _ _ _ _ _ d _ _ _ ⟨v,rfl,h⟩;refine⟨_,(ax (aP (bp (bT.cons aB.cl fR kY kO (bT.cons ao.cl eE kY kO (bT.cons aA.cl fO kY kO bT.nil))) (pv 0) d))),?_⟩;obtain⟨x,⟨p,C,a,t,i,rfl,g,b,hp,j,k,l⟩,c⟩:=h;rcases g with⟨_,e⟩|⟨_,e⟩|⟨_,e⟩
 ·rw[aE]at e;cases e;cbv;exact⟨p,rfl,_,a,_,_,_,_,_,b,hp,c⟩
 ·rw[aw]at e;cases e;cbv;exact⟨p,rfl,_,a,_,_,_,_,_,b,hp,c⟩
 ·rw[aD]at e;cases e;cbv;exact⟨p,rfl,_,a,_,_,_,_,_,b,hp,c⟩
theorem VO:decide (("own":Yp)="own")=true:=by decide +kernel
theorem We:decide (("heard":Yp)="own")=false:=by decide +kernel
theorem MP:decide (("one":Yp)="own")=false:=by decide +kernel
theorem RF:decide (("own":Yp)="one")=false:=by decide +kernel
theorem R3:decide (("heard":Yp)="one")=false:=by decide +kernel
theorem R9:decide (("one":Yp)="one")=true:=by decide +kernel
def oq(K:Yc)(mg:Yp->Option Yd):Sp:=λb H Q _=>∃(v:V) (d:Ye) (y:V),b=[v,.ref d,y]/\∃x m o,f7 K mg H v x/\Rd H d (.dK (dI m))/\Ck m/\Ui H y o/\∀a,aJ H a->Q (.bl (vS m x o)) a
abbrev ED:List Yp:=["call","counts","name"]
theorem xK:aG ["call","counts","name"] ED (av jP):=fq
variable{wN:Ye}{iq:Ye}{eZ:Ye}{dB:Ye}{dH:Ye}{ui:YE}{kW:YE}{gZ:YE}{dY:YE}{dy:YE}(kh:∅ 3 wN ui sM (tQ K mg))(kP:Binds K ui sM [])(c9:∅ 3 iq kW sM (j8 K mg))(c7:Binds K kW sM [])(j6:∅ 3 eZ gZ aV (cX K))(bz:Binds K gZ aV [])(cS:∅ 3 dB dY aV (d3 K))(a7:Binds K dY aV [])(dF:∅ 3 dH dy aV (dz K))(bA:Binds K dy aV [])(aM:bE K bj "asks_place" dB)(cu:bE K bj "free" iq)(aZ:bE K bj "name" eZ)(aR:bE K bL "asks_place" dH)(cU:bE K bL "free" iq)(bu:bE K bL "name" eZ)(aT:bE K bK "asks_place" dB)(cV:bE K bK "free" wN)(bw:bE K bK "name" eZ)
include eV kh kP c9 c7 j6 bz cS a7 dF bA ao aA aB aw aD aE aM cu aZ aR cU bu aT cV bw in
theorem xW(F:bN K "can_be_taken" "can_be_taken" jP f fd):∅ 4 f fd ED (oq K mg):=by
 refine F.oj xK ?_;rintro _ _ _ _ H _ _ _ z g _ _ ⟨v,d,y,rfl,h⟩;refine⟨_,(ax (aP (By (bV (bT.cons aB.cl cV kh kP (bT.cons ao.cl cu c9 c7 (bT.cons aA.cl cU c9 c7 bT.nil))) (pv 0) z (aa (pv 1) ai)) (yW (V5 (MB (bp (bT.cons aB.cl aT cS a7 (bT.cons ao.cl aM cS a7 (bT.cons aA.cl aR dF bA bT.nil))) (pv 0) z)) (yW (qT (U4 (K:=K) rfl g) (bp (bT.cons aB.cl bw j6 bz (bT.cons ao.cl aZ j6 bz (bT.cons aA.cl bu j6 bz bT.nil))) (pv 0) z) (pv 2) (bC _)))))))),?_⟩;obtain⟨x,m,o,⟨p,C,i,t,A,rfl,B,I,hp,D,q,r⟩,hd,E,J,a⟩:=h;obtain⟨kd,n,c,k,w,cs⟩:=x;have B:OL mg kd C:=B;have hp:H p=Ya (.ins C i (tG (.int n) (.int c) (.int k) (.int w) (.ref t))):=hp;have q:jW H A cs:=q;have r:Ck cs:=r;rcases B with⟨rfl,e⟩|⟨rfl,e⟩|⟨rfl,e⟩
 ·have j:vS m ⟨"own",n,c,k,w,cs⟩ o=decide (ct m c=k-1):=by
   unfold vS Lk;rw[VO,RF];simp
  rw[j]at a;rw[aE]at e;cases e;cbv;refine⟨p,d,rfl,_,i,m,_,c,k,_,_,aE,hp,hd,?_⟩;cbv;refine dP (λh1=>?_) λh1=>?_
  ·cbv;refine⟨p,rfl,?_⟩;cbv;have:=a H (.refl _);rw[h1]at this;exact this
  ·have h1:=aby.mpr h1;have:=a H (.refl _);rw[h1]at this;exact this
 ·have j:vS m ⟨"heard",n,c,k,w,cs⟩ o=(decide (ct m c=k-1)&&cov m (fj cs)):=by
   unfold vS Lk;rw[We,R3];simp
  rw[j]at a;rw[aw]at e;cases e;cbv;refine⟨p,d,rfl,_,i,m,_,c,k,_,t,A,cs,.inl aw,hp,hd,D,q,E,r,λs b=>?_⟩;have l:=b _ _ hp;cbv;refine dP (λh1=>?_) λh1=>?_
  ·cbv;refine⟨p,rfl,?_⟩;cbv;have:=a s b;rw[h1]at this;exact this
  ·have h1:=aby.mpr h1;have:=a s b;rw[h1]at this;exact this
 ·have j:vS m ⟨"one",n,c,k,w,cs⟩ o=((decide (ct m c=k-1)&&cov m (fj cs))&&decide (o=Ya (n,c,k))):=by
   unfold vS Lk;rw[MP,R9];simp
  rw[j]at a;rw[aD]at e;cases e;cbv;refine⟨p,d,rfl,_,i,m,_,c,k,_,t,A,cs,.inr aD,hp,hd,D,q,E,r,λs b=>?_⟩;have l:=b _ _ hp;cbv;refine dP (λh1=>?_) λh1=>?_
  ·cbv;refine⟨p,rfl,?_⟩;cbv;refine⟨p,rfl,_,i,_,_,_,_,_,I,l,λL u G M N=>?_⟩;cbv;refine⟨xD (n,c,k),Vv o,.inl (xQ.dp ⟨u,rfl,N⟩),V6 (J.up (.same (b.trans G))),F7 _,T2 _,by have:=Uc o;omega,?_⟩;rw[Xa];have:=a L (b.trans G);rw[h1,aeq]at this;exact this
  ·have h1:=aby.mpr h1;have:=a s b;rw[h1,abV]at this;exact this
theorem O5{td ty:TE}(h:td σ H λx b=>∃a,x=.ref a/\Xn b a/\ty σ b λy c=>∃o,jc c a y o/\Q (o.getD .non) c):NQ td ty σ H Q:=h
structure Sq(K:Yc)(mg:Yp->Option Yd)(H:Hp)(D:Ye)(L:Int->Int->Option (V×bF)):Prop where
 dc:∃kvs,H D=Ya (.dT kvs)/\∀a b,eK kvs [YL a,YL b]=(L a b).map (·.1)
 cl:∀a b v x,L a b=Ya (v,x)->f7 K mg H v x/\x.c=a/\x.k=b
theorem Sq.same{D:Ye}(h:Sq K mg H D L)(s:aJ H H'):Sq K mg H' D L:=by
 obtain⟨⟨c,f,g⟩,d⟩:=h;exact⟨⟨c,s _ _ f,g⟩,λa b v x e=>⟨(d a b v x e).1.up (.same s),(d a b v x e).2⟩⟩
noncomputable def CV(L:Int->Int->Option (V×bF))(m:List (Int×Int))(o:Option Nm)(h:Int):Option (V×bF):=(L h (ct m h+ 1)).bind λq=>if vS m q.2 o=true then Ya q else Yb
noncomputable def fst(hs:List Int)(L:Int->Int->Option (V×bF))(m:List (Int×Int))(o:Option Nm):Option (V×bF):=hs.findSome? (CV L m o)
noncomputable def RL:Option (V×bF)->V
 |none=>.non
 |some q=>q.1
def mM(K:Yc)(mg:Yp->Option Yd):Sp:=λc H Q _=>∃(a D d:Ye) (y:V),c=[.ref a,.ref D,.ref d,y]/\∃hs L m o,a9 K H a (hs.map V.int)/\Sq K mg H D L/\Rd H d (.dK (dI m))/\Ck m/\Ui H y o/\∀b,aJ H b->Q (RL (fst hs L m o)) b
abbrev EK:List Yp:=["callers","ranked","counts","name"]
theorem iy:aG ["callers","ranked","counts","name","caller","call"] EK (av iV):=fq
variable{p8:Ye}{og:YE}(iz:∅ 4 sT pP JX (pQ K))(qb:∅ 4 p8 og ED (oq K mg))(qS:eM K mg "can_be_taken" p8 og ED)
include eV iz bU qb qS ao aA aB aw aD aE in
theorem wa(F:bN K "first_to_take" "first_to_take" iV f fd):∅ 5 f fd EK (mM K mg):=by
 refine F.oj iy ?_;rintro _ A _ _ H _ _ _ E _ _ hu ⟨a,D,d,y,rfl,h⟩;refine⟨_,(aj (lU aam rfl (bo (K:=K) rfl (pv 0)) (aQ (i:=4) iy.nd rfl (Or.inl rfl))
   (aj (bc (i:=5) iy.nd rfl (Or.inl rfl) (Lz hu (pv 1) (cF (aa (pv 4) (aa (a8 eQ (bg iz bU E (aa (pv 2) (aa (pv 4) ai))) az) ai))) ⟨rfl,rfl,rfl,rfl⟩))
   (ax (eF (PW.pt (zW (br yc (pv 5) pY (bC _)) (uK (dS K rfl (bg qb qS E (aa (pv 5) (aa (pv 2) (aa (pv 3) ai)))))))) (ax (aP (pv 5))) cg))))
   (ax (aP pY))),?_⟩
 obtain⟨hs,L,m,o,N,R,hd,O,Q,G⟩:=h;refine zq ?_;cbv;let l:Nat->St->Hp->Prop:=λi σ A=>∃n r,σ=[Ya (.ref a),Ya (.ref D),Ya (.ref d),Ya y,n,r]/\aJ H A/\(hs.take i).findSome? (CV L m o)=Yb;refine mG (xs:=hs.map V.int) l ⟨Yb,Yb,rfl,.refl _,rfl⟩ (λi σ A _ z=>by obtain⟨_,_,_,z,_⟩:=z;exact z.seq N) ?_ ?_
 ·rintro i x σ A S ⟨n,r,rfl,b,hn⟩;obtain⟨h,j,rfl⟩:=gF S;have T:=R.same b;have g:=cY b hd;obtain⟨⟨s,I,U⟩,W⟩:=id T;have X:fst hs L m o=((CV L m o h).or ((hs.drop (i+ 1)).findSome? (CV L m o))):=by
   unfold fst;have Y:=(Yh.mp j).1;have e:hs=hs.take i++(h::hs.drop (i+ 1)):=by
    conv=>lhs;rw[←List.take_append_drop i hs,aeJ Y,(Yh.mp j).2]
   conv=>lhs;rw[e,adF,hn,adh,ad1]
   cases CV L m o h<;>rfl
  refine zq ?_;cbv;refine O5 ?_;cbv;refine⟨D,rfl,.inr ⟨s,.inl I⟩,?_⟩;cbv;refine⟨d,m,h,rfl,g,?_⟩;cbv;intro t A1 ht c Z;have u:=c _ _ I;refine⟨_,jc.t (k:=[YL h,YL (ct m h+ 1)]) u Z,?_⟩;rw[U];cases z:L h (ct m h+ 1)with
  |none=>
   have tn:CV L m o h=none:=by unfold CV;rw[z];rfl
   rw[Option.map_none,aeU];cbv;rw[show decide (V.non=V.non)=true from decide_eq_true rfl];cbv;refine⟨_,_,rfl,b.trans c,?_⟩;rw[aN j,adF,hn,adh,ad1,tn];rfl
  |some q=>
   obtain⟨v,x⟩:=q;have J:=(W _ _ _ _ z).1;obtain⟨p,C,dx,t',ab,ev,_⟩:=id J;have B:=J.up (.same c);subst ev;rw[abS,ae0];cbv;rw[show decide (V.ref p=V.non)=false from decide_eq_false (by intro z;cases z)];cbv;refine⟨.ref p,d,y,rfl,x,m,o,B,cY c g,O,Q.up (.same (b.trans c)),λA2 M=>?_⟩;cbv;refine dP (λh2=>?_) λh2=>?_
   ·have ts:CV L m o h=Ya (.ref p,x):=by unfold CV;rw[z];show(if vS m x o=true then _ else _)=_;rw[if_pos h2]
    cbv;have:=G A2 (b.trans (c.trans M));rw[X,ts]at this;exact this
   ·have tn:CV L m o h=none:=by unfold CV;rw[z];show(if vS m x o=true then _ else _)=_;rw[if_neg h2]
    refine⟨_,_,rfl,b.trans (c.trans M),?_⟩;rw[aN j,adF,hn,adh,ad1,tn];rfl
 rintro σ A ⟨n,r,rfl,b,hn⟩;rw[show hs.take (hs.map V.int).length=hs by rw[Yf,YI]]at hn;cbv;have:=G A b;unfold fst at this;rw[hn]at this;exact this
noncomputable def Pc(hs:List Int)(l:Int):List Int:=(hs.filter λh=>decide (l<=h))++hs.filter λh=>decide (h<l)
def oG(K:Yc):Sp:=λc H Q _=>∃(a:Ye) (l:Int),c=[.ref a,.int l]/\∃hs:List Int,a9 K H a (hs.map V.int)/\hs.length<=400/\∀b q,aJ H b->H q=Yb->b q=Ya (.lst ((Pc hs l).map V.int))->Q (.ref q) b
abbrev Fg:List Yp:=["callers","last"]
theorem xH:aG ["callers","last"] Fg (av jR):=fq
include eV in
theorem xB(F:bN K "callers_from" "callers_from" jR f fd):∅ 1 f fd Fg (oG K):=by
 refine F.oj xH ?_;rintro _ A _ _ H _ _ _ _ _ _ _ ⟨a,l,rfl,h⟩;refine⟨_,(ax (aP (a8 zD (bS ["last","caller"] [Ya 1,Yb] rfl rfl (by kernel_rfl) (bo (K:=K) rfl (pv 0)) (λ_ _ _ _ _ nd=>aQ (i:=1) nd rfl (Or.inl rfl)) (λ_ _ _ _ _=>(dA (br Dd (pv 1) (pv 0) (bC _)))) (λ_ _ _ _ _=>(pv 1))) (bS ["last","caller"] [Ya 1,Yb] rfl rfl (by kernel_rfl) (bo (K:=K) rfl (pv 0)) (λ_ _ _ _ _ nd=>aQ (i:=1) nd rfl (Or.inl rfl)) (λ_ _ _ _ _=>(dA (br Ay (pv 1) (pv 0) (bC _)))) (λ_ _ _ _ _=>(pv 1)))))),?_⟩;obtain⟨hs,p,J,t⟩:=h;cbv;intro D r;refine bh (K:=K) (a:=a) (xs:=hs.map V.int) (λi σ A=>∃v,σ=[Ya (.int l),v]/\aJ H A/\A D=Ya (.lst (((hs.take i).filter λh=>decide (l<=h)).map V.int))) ⟨Yb,rfl,aC r,af⟩ ?_ ?_ ?_
 ·rintro i σ A _ ⟨_,_,z,_⟩;exact z.seq p
 ·rintro i x σ A m ⟨v,rfl,d,g⟩;obtain⟨h,c,rfl⟩:=gF m;have u:=(Yh.mp c).1;have y:=YQ (λh=>decide (l<=h)) (hs.take i);have lt:=aa6 i hs;cbv;refine dP (λh1=>?_) λh1=>?_
  ·cbv;refine⟨_,g,by rw[Yf];exact aF (by omega),_,rfl,λb o z=>?_,?_⟩
   ·rw[ak (ay z r)];exact d b o z
   ·rw[af,aN c,YS,Yr];congr 2;simp at h1;simp[h1]
  ·refine⟨_,rfl,d,?_⟩;rw[g,aN c,YS,Yr];congr 1;simp at h1;simp[h1]
 rintro σ A ⟨v,rfl,d,g⟩;rw[show hs.take (hs.map V.int).length=hs by rw[Yf,YI]]at g;have n:=d.seq p;cbv;intro C j;refine bh (K:=K) (a:=a) (xs:=hs.map V.int) (λi σ B=>∃v,σ=[Ya (.int l),v]/\aJ A B/\B C=Ya (.lst (((hs.take i).filter λh=>decide (h<l)).map V.int))) ⟨Yb,rfl,aC j,af⟩ ?_ ?_ ?_
 ·rintro i σ B _ ⟨_,_,z,_⟩;exact z.seq n
 ·rintro i x σ B m ⟨v,rfl,e,k⟩;obtain⟨h,c,rfl⟩:=gF m;have u:=(Yh.mp c).1;have y:=YQ (λh=>decide (h<l)) (hs.take i);have lt:=aa6 i hs;cbv;refine dP (λh1=>?_) λh1=>?_
  ·cbv;refine⟨_,k,by rw[Yf];exact aF (by omega),_,rfl,λb o z=>?_,?_⟩
   ·rw[ak (ay z j)];exact e b o z
   ·rw[af,aN c,YS,Yr];congr 2;simp at h1;simp[h1]
  ·refine⟨_,rfl,e,?_⟩;rw[k,aN c,YS,Yr];congr 1;simp at h1;simp[h1]
 rintro σ B ⟨v,rfl,e,k⟩;rw[show hs.take (hs.map V.int).length=hs by rw[Yf,YI]]at k;have L:=YQ (λh=>decide (l<=h)) hs;have M:=YQ (λh=>decide (h<l)) hs;refine DU (e _ _ g) k (by rw[Yf,Yf];omega) λq E G I s=>?_;rw[←Yr]at s;exact t E q (d.trans (e.trans I)) ((d.trans e).free G) s
noncomputable def uR(ns:List Nm)(m:List (Int×Int)):Option Nm:=ns.find? λp=>!decide (xZ m p)
theorem Mn{m:List (Int×Int)}:∀{ns:List Nm} {j:Nat},(∀k (hk:k<ns.length),k<j->xZ m ns[k])->(∀a:j<ns.length,¬ xZ m ns[j])->j<=ns.length->uR ns m=ns[j]?
 |[],j,_,_,_=>by simp[uR]
 |p::ns,0,_,h,_=>by
  have:=h (by simp);unfold uR;rw[afz (by simpa using this)];rfl
 |p::ns,j+ 1,h1,h2,h3=>by
  have hp:=h1 0 (by simp) (by omega);have b:=Mn (m:=m) (ns:=ns) (j:=j) (λk hk c=>h1 (k+ 1) (ahn hk) (by omega)) (λa=>h2 (ahn a)) (by simpa using h3);unfold uR at b⊢;rw[List.find?_cons_of_neg (by simpa using hp),b];simp
noncomputable def RT(hs:List Int):Option Int->List Int
 |none=>hs
 |some l=>Pc hs l
noncomputable def vf(cs:List (V×bF))(a b:Int):Option (V×bF):=cs.reverse.find? λq=>decide (q.2.c=a/\q.2.k=b)
inductive Fw (hs:List Int) (L:Int->Int->Option (V×bF)) (ns:List Nm) (m0:List (Int×Int)):List (V×bF)->Option Int->List (Int×Int)->Prop
 |start:Fw hs L ns m0 [] Yb m0
 |step {rw:List (V×bF)} {Zf:Option Int} {m:List (Int×Int)} {v:V} {x:bF}:Fw hs L ns m0 rw Zf m->fst (RT hs Zf) L m (uR ns m)=Ya (v,x)->Fw hs L ns m0 (rw++[(v,x)]) (Ya x.c) (dU m x.c x.k)
theorem flt{α:Type}{p q:α->Bool}:∀{l:List α},(∀a∈l,q a=true->p a=true)->∀{x:α},x∈l->p x=true->q x=false->(l.filter q).length<(l.filter p).length
 |a::l,h,x,hx,px,qx=>by
  have hl:(l.filter q).length<=(l.filter p).length:=by
   have:∀(c:List α),(∀a∈c,q a=true->p a=true)->(c.filter q).length<=(c.filter p).length:=by
    intro c
    induction c with
    |nil=>intro _;exact Yl _
    |cons b c ih=>
     intro d;have i:=ih λa ha=>d a (Yo _ ha);have:=d b Yu;rw[aac,aac];cases z:q b
     ·cases w:p b<;>simp<;>omega
     ·rw[this z];simp;omega
   exact this l λb d=>h b (Yo _ d)
  rcases Ym.mp hx with z|z
  ·rw[←z,aac,aac,px,qx];simp;omega
  ·have i:=flt (l:=l) (λb d=>h b (Yo _ d)) z px qx;have ha:=h a Yu;rw[aac,aac];cases y:q a
   ·cases w:p a<;>simp<;>omega
   ·rw[ha y];simp;omega
noncomputable def mz(cs:List bF)(m:List (Int×Int)):Nat:=(cs.filter λq=>decide (ct m q.c<q.k)).length
theorem N8{cs:List bF}(a:x∈cs)(hk:x.k=ct m x.c+ 1):mz cs (dU m x.c x.k)<mz cs m:=by
 unfold mz;refine flt (λq _ h=>?_) a (decide_eq_true (by omega)) (decide_eq_false ?_)
 ·have h:=of_decide_eq_true h;rw[lH]at h;refine decide_eq_true ?_;by_cases z:q.c=x.c
  ·rw[if_pos z]at h;rw[z];omega
  ·rw[if_neg z]at h;exact h
 ·rw[lH,if_pos rfl];omega
theorem kH{hs:List Int}{o:Option Nm}(h:fst hs L m o=Ya (v,x)):∃h∈hs,L h (ct m h+ 1)=Ya (v,x)/\vS m x o=true:=by
 unfold fst at h;obtain⟨a,hm,e⟩:=List.exists_of_findSome?_eq_some h;refine⟨a,hm,?_⟩;unfold CV at e;cases z:L a (ct m a+ 1)with
 |none=>rw[z]at e;cases e
 |some q=>
  rw[z]at e;have e:(if vS m q.2 o=true then Ya q else Yb)=Ya (v,x):=e;by_cases w:vS m q.2 o=true
  ·rw[if_pos w]at e;cases e;exact⟨rfl,w⟩
  ·rw[if_neg w]at e;cases e
theorem iL{cs:List (V×bF)}{a b:Int}(h:vf cs a b=Ya q):q∈cs/\q.2.c=a/\q.2.k=b:=by
 unfold vf at h;have h1:=List.mem_of_find?_eq_some h;have h2:=List.find?_some h;have h2:=of_decide_eq_true h2;exact⟨aho.mp h1,h2⟩
theorem JY{k:List bR}:∀(ps:List (List bR×V)) (a:List (List bR×V)),eK (ps.foldl (λa p=>hJ a p.1 p.2) a) k=((ps.reverse.find? λp=>decide (p.1=k)).map (·.2)).or (eK a k):=by
 intro ps
 induction ps with
 |nil=>intro a;rfl
 |cons p ps ih=>
  intro a;rw[abn,ih,agT,agY];cases z:ps.reverse.find? λp=>decide (p.1=k)with
  |some q=>rfl
  |none=>
   rw[adh,LO,abR];by_cases w:k=p.1
   ·rw[if_pos w,decide_eq_true w.symm];rfl
   ·rw[if_neg w,decide_eq_false (λu=>w u.symm)];rfl
abbrev Cs(K:Yc)(mg:Yp->Option Yd)(H:Hp):List V->List bF->Prop:=YX (f7 K mg H)
theorem qg(s:U9 H H'){vs:List V}{cs:List bF}(h:Cs K mg H vs cs):Cs K mg H' vs cs:=YX.mapP h λ_ _ z=>z.up s
noncomputable def TV(q:V×bF):List bR×V:=([YL q.2.c,YL q.2.k],q.1)
theorem QG(cs:List (V×bF))(a b:Int):eK (ju (cs.map TV)) [YL a,YL b]=(vf cs a b).map (·.1):=by
 unfold ju;rw[JY];have e:(eK ([]:List (List bR×V)) [YL a,YL b])=none:=rfl;rw[e,Option.or_none,←List.map_reverse,List.find?_map,ah2];unfold vf;have c:((λp:List bR×V=>decide (p.1=[YL a,YL b]))∘TV)=λq:V×bF=>decide (q.2.c=a/\q.2.k=b):=by
  funext q;show decide (([YL q.2.c,YL q.2.k]:List bR)=[YL a,YL b])=_;congr 1;simp
 rw[c];rfl
theorem Co(s:de H H'){ps:List (List bR×V)}(h:E8 H xs ps):E8 H' xs ps:=YX.mapP h λ_ _ ⟨a,b,c,d,e⟩=>⟨a,b,c,s _ _ d,s _ _ e⟩
theorem Bu:∀{xs:List V} {ps:List (List bR×V)} {x:V} {p:List bR×V},E8 H xs ps->(∃a b,x=.ref a/\H a=Ya (.tup [.ref b,p.2])/\H b=Ya (.tup (p.1.map kV)))->E8 H (xs++[x]) (ps++[p]):=by
 intro c d e f w h
 induction w with
 |nil=>exact .cons h .nil
 |cons r _ ih=>exact .cons r ih
theorem Fd{α β:Type}:∀(l:List α) (m:List β) (i:Nat) {a:α} {b:β},l[i]?=Ya a->m[i]?=Ya b->(l.zip m).take (i+ 1)=(l.zip m).take i++[(a,b)]:=by
 intro l m i a b h1 h2;exact aN (by rw[acZ];exact⟨h1,h2⟩)
theorem AK{k b:Int}(h:Ou [m,n] k b):b=max (ct m k) (ct n k):=by
 obtain⟨⟨q,a,e⟩,u⟩:=h;have c:=u m (by simp);have d:=u n (by simp);simp at a;rcases a with z|z<;>rw[z]at e<;>omega
theorem xY{α β:Type}{F:α->β->Prop}:∀{l:List α} {m:List β} {q:α×β},YX F l m->q∈l.zip m->F q.1 q.2:=by
 intro a b q w h
 induction w with
 |nil=>simp at h
 |cons r _ ih=>
  rw[aej]at h;rcases Ym.mp h with z|z
  ·rw[z];exact r
  ·exact ih z
theorem EH{K:Yc}(s:∀o,H b=Ya o->A b=Ya o)(h:a9 K H b xs∨bJ K H b xs):a9 K A b xs∨bJ K A b xs:=by
 rcases h with h|h
 ·refine .inl ?_;rcases h with(h|⟨z,h⟩)|h
  ·exact .inl (.inl (s _ h))
  ·exact .inl (.inr ⟨z,s _ h⟩)
  ·exact .inr h
 ·refine .inr ?_;rcases h with(h|⟨z,h⟩)|h
  ·exact .inl (.inl (s _ h))
  ·exact .inl (.inr ⟨z,s _ h⟩)
  ·exact .inr h
theorem F9{k v:Int}(t:Td m)(a:0<=k)(b:k<63)(c:0<v):Td (dU m k v):=by
 refine⟨t.toCk.put a b (by omega),λe d=>?_⟩;rcases ux _ _ _ _ d with z|z
 ·rw[z];exact c
 ·exact t.ps e z
theorem Ea{K:Yc}{c:VK}(d:a9 K A b xs∨bJ K A b xs)(hn:nv A xs ns)(h1:j<=ns.length)(h2:∀k (hk:k<ns.length),k<j->xZ m ns[k])(h3:∀g:j<ns.length,¬ xZ m ns[j])(q:∀y,Ui A y (uR ns m)->c y A):tu K [.ref b,.int j] A c E0:=by
 have e:=Mn h2 h3 h1;refine⟨b,j,rfl,xs,d,by omega,λv a=>q v ?_,λa=>q .non ?_⟩
 ·rw[YO]at a;obtain⟨p,hp,f⟩:=hn.get a;rw[e,hp];exact f
 ·rw[YO]at a;have:=hn.len;rw[e,abi (by omega)];rfl
def Gb(K:Yc)(mg:Yp->Option Yd):Sp:=λn H Q _=>∃(d a b:Ye),n=[.ref d,.ref a,.ref b]/\∃m f cs g ns,Rd H d (.dK (dI m))/\Ck m/\a9 K H a f/\Cs K mg H f cs/\cs.length<=60/\(∀x∈cs,0<=x.c/\x.c<63)/\(a9 K H b g∨bJ K H b g)/\nv H g ns/\
 ∀c t l r hs i rw j e,aJ H c->H l=Yb->H r=Yb->c t=Ya (.tup [.ref l,.ref r])->c l=Ya (.lst ((rw:List (V×bF)).map (·.1)))->c r=Ya (.dK (dI e))->Td e->hs.Pairwise (·<·)->(∀h,h∈hs↔∃x∈cs,x.c=h)->Td i->(∀k,ct i k=ct m k)->Fw hs (vf (f.zip cs)) ns i rw j e->fst (RT hs j) (vf (f.zip cs)) e (uR ns e)=Yb->Q (.ref t) c
abbrev pK:List Yp:=["counts","calls","places"]
theorem mY:aG ["counts","calls","places","reached","ranked","callers","row","at","call"] pK (av MG):=fq
variable{zM:Ye}{m9:Ye}{As:Ye}{vp:Ye}{om:Ye}{pT:Ye}{vk:YE}{lA:YE}{zm:YE}{sF:YE}{mj:YE}{nU:YE}(Fj:∅ 5 zM vk yB (vh K))(uW:eM K mg "joined" zM vk yB)(nA:∅ 5 m9 lA JP (lV K))(gG:eM K mg "first_open" m9 lA JP)(vA:∅ 5 As zm OF (tu K))(vK:eM K mg "name_at" As zm OF)(Ba:∅ 5 vp sF pS (tD K mg))(fZ:eM K mg "rank_of" vp sF pS)(iX:∅ 5 om mj EK (mM K mg))(iU:eM K mg "first_to_take" om mj EK)(qA:∅ 5 pT nU Fg (oG K))(qw:eM K mg "callers_from" pT nU Fg)
include eV Fj uW nA gG vA vK Ba fZ iX iU qA qw pj Ic fJ ao aA aB aw aD aE in
theorem Tt(F:bN K "run" "run" MG f fd):∅ 6 f fd pK (Gb K mg):=by
 refine F.oj mY ?_;rintro _ A _ _ H _ _ E I au _ hu ⟨d,a,b,rfl,h⟩;refine⟨_,(aj (bc (i:=3) mY.nd rfl (Or.inl rfl) (bg Fj uW I (aa (pv 0) (aa qP ai))))
   (aj (bc (i:=4) mY.nd rfl (Or.inl rfl) (bZ (wD rfl (ace (acS (by decide) _) au)) (by rfl) pj acj (aa (bS ["call"] [Yb] rfl rfl (by kernel_rfl) (bo (K:=K) rfl (pv 1)) (λ_ _ _ _ _ nd=>aQ (i:=0) nd rfl (Or.inl rfl)) (λ_ _ _ _ _=>dD) (λ_ _ _ _ _=>(cF (aa (bg Ba fZ I (aa (pv 0) ai)) (aa (pv 0) ai))))) ai)))
   (aj (bc (i:=5) mY.nd rfl (Or.inl rfl) (bH (uv rfl) (by rfl) fJ abt (aa (bZ (AE rfl) (by rfl) Ic (show abk "set"=Ya (.type "set") by decide +kernel) (aa (bS ["call"] [Yb] rfl rfl (by kernel_rfl) (bo (K:=K) rfl (pv 1)) (λ_ _ _ _ _ nd=>aQ (i:=0) nd rfl (Or.inl rfl)) (λ_ _ _ _ _=>dD) (λ_ _ _ _ _=>(aL (K:=K) rfl (pv 0) rfl))) ai)) ai)))
   (aj (bc (i:=6) mY.nd rfl (Or.inl rfl) (d5 ai))
   (aj (bc (i:=7) mY.nd rfl (Or.inl rfl) (bg nA gG I (aa (pv 2) (aa (pv 3) (aa az ai)))))
   (aj (bc (i:=8) mY.nd rfl (Or.inl rfl) (bg iX iU I (aa (pv 5) (aa (pv 4) (aa (pv 3) (aa (bg vA vK I (aa (pv 2) (aa (pv 7) ai))) ai))))))
   (aj (ze aam (br yc (pv 8) pY (bC _))
   (aj (dC (ny (K:=K) rfl (D9 abC ab1 ab3 mL (pv 6) (aa (pv 8) ai))))
   (aj (q5 hu (pv 3) (aL (K:=K) rfl (pv 8) rfl) (aL (K:=K) rfl (pv 8) rfl) rfl)
   (aj (bc (i:=7) mY.nd rfl (Or.inl rfl) (bg nA gG I (aa (pv 2) (aa (pv 3) (aa (pv 7) ai)))))
   (ax (bc (i:=8) mY.nd rfl (Or.inl rfl) (bg iX iU I (aa (bg qA qw I (aa (pv 5) (aa (aL (K:=K) rfl (pv 8) rfl) ai))) (aa (pv 4) (aa (pv 3) (aa (bg vA vK I (aa (pv 2) (aa (pv 7) ai))) ai)))))))))))
   (ax (aP (cF (aa (pv 6) (aa (pv 3) ai)))))))))))),?_⟩
 obtain⟨m,g,cs,xs,ns,hd,cm,hS,hc,lc,rg,hP,hn,kk⟩:=h;have lw:g.length=cs.length:=Y2 hc;have lx:=hn.len;cbv;intro e0 H1 bn s1 g1;cbv;refine⟨d,e0,m,[],rfl,cY s1 hd,.inl g1,cm,Ck.nil,λH2 r m0 s2 I g2 ae mx=>?_⟩;have aw:∀k,ct m0 k=ct m k:=λk=>by
  have:=AK (mx k);have c0:=cm.ct k;have e:ct [] k=0:=rfl;rw[e]at this;omega
 have T:=s1.trans s2;have aA:=T.seq hS;have aB:=qg (.same T) hc;cbv;intro E hE;refine bh (K:=K) (a:=a) (xs:=g) (λi σ A=>∃v B,σ=[v]/\aJ H2 A/\A E=Ya (.lst B)/\B.length=i/\E8 A B (((g.zip cs).take i).map TV)) ⟨Yb,[],rfl,aC hE,af,rfl,.nil⟩ ?_ ?_ ?_
 ·rintro i σ A _ ⟨_,_,_,z,_⟩;exact z.seq aA
 ·rintro i x σ A hx ⟨v,B,rfl,sA,gE,ly,pr⟩;obtain⟨y,U,cy⟩:=cR aB hx;have hi:=(Yh.mp U).1;cbv;refine⟨x,rfl,y,cy.up (.same sA),λA1 t t1 ht ag=>?_⟩;cbv;intro u S bt t2 J;have L:=t2 _ _ (t1 _ _ gE);have kp:de S (upd S E (.lst (B++[V.ref u]))):=de.lst L;refine⟨B,L,aF (by omega),_,B++[.ref u],rfl,λb' o z=>?_,af,by rw[Yq,ly];rfl,?_⟩
  ·rw[ak (ay z hE)];exact t2 _ _ (t1 _ _ (sA b' o z))
  ·rw[Fd g cs i hx U,Yr];exact Bu (Co (λa xs z=>kp _ _ (t2 _ _ (t1 _ _ z))) pr) ⟨u,t,rfl,kp _ _ J,kp _ _ (t2 _ _ ag)⟩
 rintro σ H3 ⟨v,B,rfl,s3,gE,ly,pr⟩;rw[show(g.zip cs).take g.length=g.zip cs by rw[abI];rw[ahR];omega]at pr;refine⟨E,B,_,rfl,gE,pr,by have:=Y2 pr;omega,λD hD=>?_⟩;have s4:=aC (o:=.dT (ju ((g.zip cs).map TV))) hD;have gD:(upd H3 D (.dT (ju ((g.zip cs).map TV)))) D=Ya (.dT (ju ((g.zip cs).map TV))):=af;generalize upd H3 D (.dT (ju ((g.zip cs).map TV)))=H4 at s4 gD⊢;have N:aJ H2 H4:=s3.trans s4;have aD:=qg (.same N) aB;have RK:Sq K mg H4 D (vf (g.zip cs)):=⟨⟨_,gD,QG _⟩,λa b v x e=>by
  obtain⟨e1,e2,e3⟩:=iL e;exact⟨xY aD e1,e2,e3⟩⟩
 have a5:=N.seq aA;cbv;intro E2 aE;refine bh (K:=K) (a:=a) (xs:=g) (λi σ A=>∃v,σ=[v]/\aJ H4 A/\A E2=Ya (.lst (((cs.take i).map (·.c)).map V.int))) ⟨Yb,rfl,aC aE,af⟩ ?_ ?_ ?_
 ·rintro i σ A _ ⟨_,_,z,_⟩;exact z.seq a5
 ·rintro i x σ A hx ⟨v,rfl,sA,gA⟩;obtain⟨y,U,cy⟩:=cR aD hx;have hi:=(Yh.mp U).1;obtain⟨p,C,dx,t,a6,rfl,hk,hT,hp,_⟩:=cy.up (.same sA);obtain⟨cl,n1,n2,n3,n4,n5⟩:=id hT;cbv;refine⟨_,gA,?_,_,rfl,λb o z=>?_,?_⟩
  ·rw[Yf,Yf,mr];exact aF (by omega)
  ·rw[ak (ay z aE)];exact sA b o z
  ·rw[af,aN U,Yr,Yr];rfl
 rintro σ H5 ⟨v,rfl,s5,L⟩;rw[lw,YI]at L;refine⟨E2,cs.map (·.c),rfl,a9.of L,by rw[Yf];omega,λq ks hq W mk=>?_⟩;refine⟨q,ks,rfl,af,W,?_,λcl hs ah pm so=>?_⟩
 ·exact iY W λk hk=>by
   obtain⟨x,hx,e⟩:=YA.mp ((mk k).mp hk);rw[←e];exact rg x hx
 generalize Nj _ _ q ks=so' at ah⊢;have aI:=aC (o:=so') hq;have s6:=aC (o:=.lst (hs.map V.int)) ah;have g6:(upd (upd H5 q so') cl (.lst (hs.map V.int))) cl=Ya (.lst (hs.map V.int)):=af;generalize upd (upd H5 q so') cl (.lst (hs.map V.int))=H6 at s6 g6⊢;generalize upd H5 q so'=H5' at aI s6 ah;have X:aJ H4 H6:=s5.trans (aI.trans s6);have a7:hs.Pairwise (·<·):=by
  have:=afS.mpr ⟨so,pm.nodup_iff.mpr W⟩;exact this.imp λh=>by omega
 have aK:∀h,h∈hs↔∃x∈cs,x.c=h:=λh=>by
  rw[pm.mem_iff,mk h];exact YA
 have lhs:hs.length<=400:=by
  have:hs.length<64:=iY (pm.nodup_iff.mpr W) λk hk=>by
   obtain⟨x,hx,e⟩:=(aK k).mp hk;rw[←e];exact rg x hx
  omega
 cbv;intro l H7 hl s7 g7;have aM:aJ H2 H7:=N.trans (X.trans s7);have al:=T.trans aM;have am:=aM _ _ g2;have an:a9 K H7 b xs∨bJ K H7 b xs:=EH (λo e=>al _ _ e) hP;have ao:nv H7 xs ns:=hn.up (.same al);have aR:=s7 _ _ g6;have aS:=RK.same (X.trans s7);have aT:l≠r:=λz=>by rw[z,(N.trans X) _ _ g2]at hl;cases hl
 have aU:cl≠l:=λz=>by rw[←z,g6]at hl;cases hl
 cbv;refine⟨b,r,0,rfl,xs,m0,ns,an,.inl am,ao,cT _,λk _ h=>absurd h (adR _),λj j1 j2 j3=>?_⟩;cbv;refine Ea an ao j1 j2 j3 λy U=>?_;cbv;refine⟨cl,D,r,y,rfl,hs,_,m0,uR ns m0,a9.of aR,aS,.inl am,ae.toCk,U,λH8 s8=>?_⟩;have aW:=s8 _ _ g7;have Y:=s8 _ _ am;have G:=s8 _ _ aR;have ba:=aS.same s8;have bu:a9 K H8 b xs∨bJ K H8 b xs:=EH (λo e=>s8 _ _ e) an;have bb:nv H8 xs ns:=ao.up (.same s8);have ap:=al.trans s8;have Pc:H l=none:=(T.trans (N.trans X)).free hl;have Z:H r=none:=s1.free I;have bl:∀o,H8 b=Ya o->(a9 K H b xs∨bJ K H b xs)->True:=λ_ _ _=>trivial;cbv;let bd:Nat->St->Hp->Prop:=λM σ A=>∃rw Zf c j,M=mz cs c/\σ=[Ya (.ref d),Ya (.ref a),Ya (.ref b),Ya (.ref r),Ya (.ref D),Ya (.ref cl),Ya (.ref l),Ya (.int (j:Nat)),Ya (RL (fst (RT hs Zf) (vf (g.zip cs)) c (uR ns c)))]/\(∀x o,H8 x=Ya o->x≠l->x≠r->A x=Ya o)/\A l=Ya (.lst ((rw:List (V×bF)).map (·.1)))/\A r=Ya (.dK (dI c))/\Td c/\Fw hs (vf (g.zip cs)) ns m0 rw Zf c/\j<=ns.length/\(∀k (hk:k<ns.length),k<j->xZ c ns[k])/\rw.length+ mz cs c<=60;refine⟨bd,⟨_,[],Yb,m0,j,rfl,rfl,λx o e _ _=>e,aW,Y,ae,.start,j1,j2,?_⟩,?_⟩
 ·have:=YQ (λq:bF=>decide (ct m0 q.c<q.k)) cs;unfold mz;rw[aa4];omega
 rintro M σ A ⟨ab,Zf,c,j',rfl,rfl,kA,gl,gr,O,fw,q1,q2,q3⟩;have aq:∀{x:Ye} {o:HO},H8 x=Ya o->(∀B,o≠.lst B)->(∀n,o≠.dK n)->A x=Ya o:=λe n1 n2=>kA _ _ e (λz=>by rw[z,aW]at e;cases e;exact n1 _ rfl) (λz=>by rw[z,Y]at e;cases e;exact n2 _ rfl);have aX:U9 H8 A:=⟨λp C dx fs e=>aq e (by intro _ z;cases z) (by intro _ z;cases z),λa xs e=>aq e (by intro _ z;cases z) (by intro _ z;cases z)⟩;have bv:a9 K A b xs∨bJ K A b xs:=by
  refine EH (λo e=>?_) hP;exact kA _ _ (ap _ _ e) (λz=>by rw[z,Pc]at e;cases e) (λz=>by rw[z,Z]at e;cases e)
 have be:nv A xs ns:=bb.up aX.2;have bw:=kA _ _ G aU (λz=>by rw[z,Y]at G;cases G);have aY:Sq K mg A D (vf (g.zip cs)):=by
  obtain⟨⟨n,e1,e2⟩,e3⟩:=ba;exact⟨⟨n,aq e1 (by intro _ z;cases z) (by intro _ z;cases z),e2⟩,λa b v x e=>⟨(e3 a b v x e).1.up aX,(e3 a b v x e).2⟩⟩
 cases z:fst (RT hs Zf) (vf (g.zip cs)) c (uR ns c)with
 |none=>
  cbv;rw[show decide (RL Yb=V.non)=true from decide_eq_true rfl];cbv;intro t A1 ht s9 g9;refine kk A1 t l r hs m0 ab Zf c (λx o e=>s9 _ _ (kA _ _ (ap _ _ e) (λz=>by rw[z,Pc]at e;cases e) (λz=>by rw[z,Z]at e;cases e))) Pc Z g9 (s9 _ _ gl) (s9 _ _ gr) O a7 aK ae aw fw z
 |some q=>
  obtain⟨v,x⟩:=q;obtain⟨hh,bz,eL,tk⟩:=kH z;obtain⟨cx,ec,ek⟩:=aY.cl _ _ _ _ eL;obtain⟨p,C,dx,t,a6,rfl,hk,hT,hp,ht,bA,bI⟩:=id cx;obtain⟨bK,n1,n2,n3,n4,n5⟩:=id hT;have xm:x∈cs:=by
   have:=(iL eL).1;exact(abm this).2
  have xr:=rg x xm;have bi:x.k=ct c x.c+ 1:=by rw[ek,ec]
  have bj:0<x.k:=by have:=O.toCk.ct x.c;omega
  have ml:=N8 xm bi;rw[show RL (Ya (V.ref p,x))=V.ref p from rfl];cbv;rw[show decide (V.ref p=V.non)=false from decide_eq_false (by intro z;cases z)];refine dP (λ_=>?_) λz=>absurd rfl z;refine⟨_,λ_ _ z=>z,?_⟩;have ls:(ab.map (·.1)).length<YB:=aF (by rw[Yf];omega);cbv;intro A1 b1 ag;have bL:=b1.of gl hp (by intro z;cases z);have bP:=b1.at aT.symm gr;have nd:=O.nd;have lm:=O.toCk.len;cbv;intro S b2 J;have ar:∀x o,H8 x=Ya o->x≠l->x≠r->S x=Ya o:=λx o e n1 n2=>b2.at n2 (b1.at n1 (kA x o e n1 n2));have Q:∀{x:Ye} {o:HO},A x=Ya o->(∀B,o≠.lst B)->(∀n,o≠.dK n)->S x=Ya o:=λe n1 n2=>b2.at (λz=>by rw[z,gr]at e;cases e;exact n2 _ rfl) (b1.at (λz=>by rw[z,gl]at e;cases e;exact n1 _ rfl) e);have R:U9 A S:=⟨λp C dx fs e=>Q e (by intro _ z;cases z) (by intro _ z;cases z),λa xs e=>Q e (by intro _ z;cases z) (by intro _ z;cases z)⟩;have ac:a9 K S b xs∨bJ K S b xs:=by
   refine EH (λo e=>?_) hP;exact ar _ _ (ap _ _ e) (λz=>by rw[z,Pc]at e;cases e) (λz=>by rw[z,Z]at e;cases e)
  have ad:nv S xs ns:=be.up R.2;have aZ:=ar _ _ G aU (λz=>by rw[z,Y]at G;cases G);have bQ:=R.1 _ _ _ _ hp;have a0:Sq K mg S D (vf (g.zip cs)):=by
   obtain⟨⟨n,e1,e2⟩,e3⟩:=aY;exact⟨⟨n,Q e1 (by intro _ z;cases z) (by intro _ z;cases z),e2⟩,λa b v x e=>⟨(e3 a b v x e).1.up R,(e3 a b v x e).2⟩⟩
  have a4:=F9 O xr.1 xr.2 bj;have mono:∀k,ct c k<=ct (dU c x.c x.k) k:=λk=>by
   rw[lH];by_cases w:k=x.c
   ·rw[if_pos w,w];omega
   ·rw[if_neg w];exact aat _
  cbv;refine⟨b,r,j',rfl,xs,dU c x.c x.k,ns,ac,.inl J,ad,q1,λk hk h=>aaK (q2 k hk h) (mono _),λj2 a1 a2 a3=>?_⟩;cbv;refine⟨cl,x.c,rfl,hs,a9.of aZ,lhs,λA3 cf s bU bm=>?_⟩;cbv;refine Ea (EH (λo e=>s _ _ e) ac) (ad.up (.same s)) a1 a2 a3 λy U=>?_;cbv;refine⟨cf,D,r,y,rfl,_,_,dU c x.c x.k,uR ns (dU c x.c x.k),a9.of bm,a0.same s,.inl (s _ _ J),a4.toCk,U,λA4 as=>?_⟩;refine⟨mz cs (dU c x.c x.k),ml,ab++[(.ref p,x)],Ya x.c,dU c x.c x.k,j2,rfl,rfl,λx o e n1 n2=>as _ _ (s _ _ (ar x o e n1 n2)),?_,as _ _ (s _ _ J),a4,.step fw z,a1,a2,?_⟩
  ·rw[Yr];exact as _ _ (s _ _ (b2.at aT ag))
  ·rw[Yq];show ab.length+ 1+ _<=60;omega
noncomputable def jY(m:List (Int×Int))(x:bF):Bool:=decide (x.kd="one")&&Lk m x
def Sj(zs:List (V×bF))(m:List (Int×Int)):Option (V×bF)->Prop
 |none=>∀q∈zs,jY m q.2=false
 |some q=>q∈zs/\jY m q.2=true/\∀a∈zs,jY m a.2=true->HT.eJ [a.2.c,a.2.k] [q.2.c,q.2.k]=false
def oR(K:Yc)(mg:Yp->Option Yd):Sp:=λe H Q _=>∃(a d:Ye),e=[.ref a,.ref d]/\∃b cs m,a9 K H a b/\Cs K mg H b cs/\cs.length<=60/\Rd H d (.dK (dI m))/\Ck m/\∀c o,aJ H c->Sj (b.zip cs) m o->Q (RL o) c
abbrev Fi:List Yp:=["calls","counts"]
theorem xX:aG ["calls","counts"] Fi (av jq):=fq
variable(jh:∅ 2 vp sF pS (tD K mg))(wA:mg "min"=Yb)
include eV kh kP c9 c7 cS a7 dF bA jh fZ wA ao aA aB aw aD aE aM cu aR cU aT cV in
theorem xV(F:bN K "least_asking" "least_asking" jq f fd):∅ 4 f fd Fi (oR K mg):=by
 refine F.oj xX ?_;rintro _ A _ _ H _ _ E U L _ _ ⟨a,d,rfl,h⟩;refine⟨_,(ax (aP (Jr (K:=K) rfl rfl (ace (acS (by decide) _) L) (aa (bS ["counts","call"] [Ya 1,Yb] rfl rfl (by kernel_rfl) (bo (K:=K) rfl (pv 0)) (λ_ _ _ _ _ nd=>aQ (i:=1) nd rfl (Or.inl rfl)) (λ_ _ _ _ _=>(dA (PW.pt (zW (dS K rfl (bp (bT.cons aB.cl aT cS a7 (bT.cons ao.cl aM cS a7 (bT.cons aA.cl aR dF bA bT.nil))) (pv 1) U)) (uK (dS K rfl (bV (bT.cons aB.cl cV kh kP (bT.cons ao.cl cu c9 c7 (bT.cons aA.cl cU c9 c7 bT.nil))) (pv 1) U (aa (pv 0) ai)))))))) (λ_ _ _ _ _=>(pv 1))) ai) pY (by rfl) wA jh fZ.mg fZ.bd (by rfl) U))),?_⟩;obtain⟨r,cs,m,hS,W,lc,hd,cm,kk⟩:=h;have lw:r.length=cs.length:=Y2 W;cbv;intro E hE;refine bh (K:=K) (a:=a) (xs:=r) (λi σ A=>∃v g,σ=[Ya (.ref d),v]/\aJ H A/\A E=Ya (.lst ((g:List (V×bF)).map (·.1)))/\g=((r.zip cs).take i).filter λq=>jY m q.2) ⟨Yb,[],rfl,aC hE,af,rfl⟩ ?_ ?_ ?_
 ·rintro i σ A _ ⟨_,_,_,z,_⟩;exact z.seq hS
 ·rintro i v σ A hx ⟨v0,g,rfl,s,I,u⟩;obtain⟨x,hy,cy⟩:=cR W hx;have hi:=(Yh.mp hy).1;have tk:=Fd r cs i hx hy;have lz:g.length<=i:=by
   rw[u];exact ir (YQ _ _) (aa6 _ _)
  have X:=cY s hd;have Y:jY m x=true->g++[(v,x)]=((r.zip cs).take (i+ 1)).filter λq=>jY m q.2:=λw=>by
   rw[tk,YS,←u];simp[w]
  have no:jY m x=false->g=((r.zip cs).take (i+ 1)).filter λq=>jY m q.2:=λw=>by
   rw[tk,YS,←u];simp[w]
  obtain⟨p,C,dx,t,M,rfl,J,hT,hp,ht,B,D⟩:=cy.up (.same s);obtain⟨kd,n,c,k,w,j⟩:=x;have J:OL mg kd C:=J;have hp:A p=Ya (.ins C dx (tG (.int n) (.int c) (.int k) (.int w) (.ref t))):=hp;have B:jW A M j:=B;have D:Ck j:=D;rcases J with⟨rfl,e⟩|⟨rfl,e⟩|⟨rfl,e⟩
  ·rw[aE]at e;cases e;cbv;refine⟨p,rfl,?_⟩;cbv;exact⟨_,g,rfl,s,I,no (by unfold jY;rw[RF];rfl)⟩
  ·rw[aw]at e;cases e;cbv;refine⟨p,rfl,?_⟩;cbv;exact⟨_,g,rfl,s,I,no (by unfold jY;rw[R3];rfl)⟩
  ·have ev:jY m ⟨"one",n,c,k,w,j⟩=(decide (ct m c=k-1)&&cov m (fj j)):=by
    unfold jY Lk;rw[MP,R9];simp
   rw[aD]at e;cases e;cbv;refine⟨p,rfl,?_⟩;cbv;refine⟨p,d,rfl,_,dx,m,_,c,k,_,t,M,j,.inr aD,hp,X,ht,B,cm,D,λA1 T=>?_⟩;cbv;refine dP (λh1=>?_) λh1=>?_
   ·have Z:=T _ _ I;cbv;refine⟨_,Z,by rw[Yf];exact aF (by omega),_,g++[(.ref p,⟨"one",n,c,k,w,j⟩)],rfl,λb o z=>?_,by rw[af,Yr];rfl,Y (by rw[ev];exact h1)⟩;rw[ak (ay z hE)];exact T _ _ (s b o z)
   ·exact⟨_,g,rfl,s.trans T,T _ _ I,no (by rw[ev];exact aby.mpr h1)⟩
 rintro σ A ⟨v,g,rfl,s,I,u⟩;rw[show(r.zip cs).take r.length=r.zip cs by rw[abI];rw[ahR];omega]at u;have N:=qg (.same s) W;have G:∀q∈g,q∈r.zip cs/\jY m q.2=true:=λq y=>by
  rw[u]at y;exact YU.mp y
 have O:∀{i:Nat} {v:V},(g.map (·.1))[i]?=Ya v->∃q,g[i]?=Ya q/\q.1=v:=fun{i v} h=>by
  rw[Yy]at h;cases w:g[i]? with
  |none=>rw[w]at h;cases h
  |some q=>rw[w]at h;exact⟨q,rfl,YF h⟩
 cbv;refine⟨E,g.map (·.1),g.map (λq=>[q.2.c,q.2.k]),rfl,a9.of I,by rw[Yf,Yf],λv Q=>?_,λi v k H3 Q' Q J s3 y=>?_,λe=>?_,λi v kb H' Q R S s'=>?_⟩
 ·obtain⟨q,y,rfl⟩:=YA.mp Q;obtain⟨p,_,_,_,_,e,_⟩:=xY N (G q y).1;exact⟨p,e⟩
 ·obtain⟨q,l,rfl⟩:=O Q;rw[Yy,l]at J;cases J;have cq:=(xY N (G q (Yw l)).1).up (.same s3);exact⟨q.1,rfl,q.2,cq,λH4 t s4 _ g4=>y H4 t s4 (bJ.of g4)⟩
 ·refine kk A Yb s λq y=>?_;have e0:g=[]:=ab8.mp e;rw[u]at e0;have:=List.filter_eq_nil_iff.mp e0 q y;exact aby.mpr this
 ·obtain⟨q,l,rfl⟩:=O Q;rw[Yy,l]at R;cases R;obtain⟨z1,z2⟩:=G q (Yw l);refine kk H' (Ya q) (s.trans s') ⟨z1,z2,λq' ab ha=>?_⟩;have:q'∈g:=by rw[u];exact YU.mpr ⟨ab,ha⟩
  obtain⟨j',ac⟩:=YJ this;exact(S j' [q'.2.c,q'.2.k] (by rw[Yy,ac];rfl)).1
noncomputable abbrev y8:Y4:=fm 43
noncomputable abbrev lG:Y4:=fm 6
noncomputable abbrev zf:Y4:=fm 7
noncomputable abbrev zF:Y4:=fm 8
noncomputable abbrev yP:Y4:=fm 18
noncomputable abbrev K2:Y4:=fm 19
noncomputable abbrev sL:Y4:=fm 20
noncomputable abbrev ij:Y4:=bD (fm 32) 0
noncomputable abbrev lK:Y4:=bD (fm 32) 1
noncomputable abbrev jt:Y4:=bD (fm 32) 6
noncomputable abbrev lF:Y4:=bD (fm 32) 7
def KP(zs:List (V×bF)):Prop:=∀q∈zs,∀r∈zs,q.2.c=r.2.c->q.2.k=r.2.k->q=r
theorem IJ(u:KP zs)(h:q∈zs):vf zs q.2.c q.2.k=Ya q:=by
 cases z:vf zs q.2.c q.2.k with
 |none=>
  unfold vf at z;have:=agD.mp z q (aho.mpr h);exact absurd (decide_eq_true ⟨rfl,rfl⟩) this
 |some r=>
  obtain⟨a,b,c⟩:=iL z;rw[u r a q h b c]
theorem Ll{cs:List bF}(h:∀k,ct m k=ct m' k):mz cs m=mz cs m':=by
 unfold mz;congr 1;refine congrArg (λf=>cs.filter f) ?_;funext q;rw[h]
theorem Wv{hs:List Int}{cs:List bF}(h:Fw hs (vf (ws.zip cs)) ns m0 rw Zf m):rw.length+ mz cs m<=mz cs m0:=by
 induction h with
 |start=>rw[aa4];omega
 |step f e ih=>
  obtain⟨h,_,a,_⟩:=kH e;obtain⟨b,c,d⟩:=iL a;have:=N8 (abm b).2 (by rw[c];exact d);rw[Yq,Y6];omega
theorem O4{hs:List Int}(h:Fw hs L ns m0 rw Zf m)(e:fst (RT hs Zf) L m (uR ns m)=Yb)(n:fst hs L m0 (uR ns m0)≠Yb):0<rw.length:=by
 cases h with
 |start=>exact absurd e n
 |step=>rw[Yq,Y6];omega
theorem Cf(h:jY m x=true):x.kd="one"/\ct m x.c=x.k-1:=by
 unfold jY Lk at h;simp at h;exact⟨h.1,h.2.1⟩
theorem UX(h:jY m x=true):vS m x (Ya (x.n,x.c,x.k))=true:=by
 unfold jY at h;unfold vS;simp at h⊢;exact h.2
theorem Pe{hs:List Int}(u:KP zs)(h:q∈zs)(ha:jY m q.2=true)(a:q.2.c∈hs):fst hs (vf zs) m (Ya (q.2.n,q.2.c,q.2.k))≠none:=by
 intro z;unfold fst at z;have:=aew.mp z _ a;unfold CV at this;rw[show ct m q.2.c+ 1=q.2.k by have:=(Cf ha).2;omega,IJ u h]at this;have this:(if vS m q.2 (Ya (q.2.n,q.2.c,q.2.k))=true then Ya q else Yb)=none:=this;rw[if_pos (UX ha)]at this;cases this
theorem HW{p:Nm}(h1:∀k (hk:k<ns.length),k<j->xZ m ns[k])(h2:j<=ns.length)(h3:¬ xZ m p):uR (ns.take j++[p]) m=Ya p:=by
 unfold uR;rw[agY];have:(ns.take j).find? (λp=>!decide (xZ m p))=none:=by
  rw[agD];intro q a;obtain⟨k,hk⟩:=YJ a;rw[agE]at hk;by_cases w:k<j
  ·rw[if_pos w]at hk;obtain⟨b,e⟩:=Yh.mp hk;have:=h1 k b w;rw[e]at this;simp[this]
  ·rw[if_neg w]at hk;cases hk
 rw[this,adh,afz (by simpa using h3)]
theorem OZ(h:∀k,ct m k=ct m' k)(x:bF):jY m x=jY m' x:=by
 unfold jY Lk cov;simp only[h]
def HsO(cs:List bF)(hs:List Int):Prop:=hs.Pairwise (·<·)/\∀h,h∈hs↔∃x∈cs,x.c=h
def Rn(c:List V)(cs:List bF)(m:List (Int×Int))(ns:List Nm)(rw:List (V×bF))(a:List (Int×Int)):Prop:=∃hs b d,HsO cs hs/\Td b/\(∀k,ct b k=ct m k)/\Fw hs (vf (c.zip cs)) ns b rw d a/\fst (RT hs d) (vf (c.zip cs)) a (uR ns a)=Yb
def Fo(ns:List Nm)(m:List (Int×Int))(j:Nat):Prop:=j<=ns.length/\(∀k (a:k<ns.length),k<j->xZ m ns[k])/\∀b:j<ns.length,¬ xZ m ns[j]
inductive Pw (ws:List V) (cs:List bF) (m:List (Int×Int)) (ns:List Nm):List (V×bF)->List Nm->List (Int×Int)->Prop
 |start {rw:List (V×bF)} {m':List (Int×Int)}:Rn ws cs m ns rw m'->Pw ws cs m ns rw ns m'
 |step {Zv rw:List (V×bF)} {gs:List Nm} {m1 m2:List (Int×Int)} {q:V×bF} {j:Nat}:Pw ws cs m ns Zv gs m1->Sj (ws.zip cs) m1 (Ya q)->Fo gs m1 j->Rn ws cs m1 (gs.take j++[(q.2.n,q.2.c,q.2.k)]) rw m2->Pw ws cs m ns (Zv++rw) (gs.take j++[(q.2.n,q.2.c,q.2.k)]) m2
theorem Ec{cs:List bF}(h:Rn ws cs m ns rw m'):rw.length+ mz cs m'<=mz cs m:=by
 obtain⟨hs,a,b,_,_,e,f,_⟩:=h;have:=Wv f;rw[Ll e]at this;exact this
theorem HL{cs:List bF}(u:KP (ws.zip cs))(i:Sj (ws.zip cs) m (Ya q))(b:Fo gs m j)(h:Rn ws cs m (gs.take j++[(q.2.n,q.2.c,q.2.k)]) rw m'):0<rw.length:=by
 obtain⟨hs,a,r,⟨_,hm⟩,_,e,f,g⟩:=h;obtain⟨c,l,_⟩:=i;have d:jY a q.2=true:=by rw[OZ e];exact l
 have n:q.2.c∈hs:=(hm _).mpr ⟨q.2,(abm c).2,rfl⟩;refine O4 f g ?_;rw[HW (λk o p=>?_) b.1 ?_]
 ·exact Pe u c d n
 ·show ¬ (q.2.k<=ct a q.2.c);have:=(Cf d).2;omega
 ·show _<=ct a _;rw[e];exact b.2.1 k o p
theorem DY(xs:List V)(k:Nat)(h:k<=xs.length):uY xs Yb (Ya (k:Int))=xs.take k:=by
 unfold uY;have a:HT.f6 xs.length 0 Yb=0:=rfl;have b:HT.f6 xs.length xs.length (Ya (k:Int))=k:=by
  show(if(k:Int)<0 then((k:Int)+ (xs.length:Nat)).toNat else min (k:Int).toNat xs.length)=k;rw[if_neg (by omega),YO];omega
 rw[a,b,ah8,aiB]
theorem uS{H:Hp}:∀{xs:List V} {ns:List Nm} (k:Nat),nv H xs ns->nv H (xs.take k) (ns.take k)
 |_,_,0,_=>.nil
 |_,_,k+ 1,.nil=>.nil
 |_,_,k+ 1,.cons r t=>.cons r (uS k t)
theorem Xc:decide (("one":Yp)="heard")=false:=by decide +kernel
def Bc(K:Yc)(mg:Yp->Option Yd):Sp:=λk H Q _=>∃(d a b:Ye),k=[.ref d,.ref a,.ref b]/\∃m e cs f ns,Rd H d (.dK (dI m))/\Ck m/\a9 K H a e/\Cs K mg H e cs/\cs.length<=60/\KP (e.zip cs)/\(∀x∈cs,0<=x.c/\x.c<63)/\(a9 K H b f∨bJ K H b f)/\nv H f ns/\ns.length<=300/\
 ∀c t l g rw h i j,aJ H c->H l=Yb->H g=Yb->c t=Ya (.tup [.ref l,.ref g])->c l=Ya (.lst ((rw:List (V×bF)).map (·.1)))->c g=Ya (.lst h)->nv c h i->Pw e cs m ns rw i j->Sj (e.zip cs) j Yb->Q (.ref t) c
theorem fA:aG ["counts","calls","places","given","told","row","call"] pK (av y8):=fq
variable{Mj:Ye}{p9:Ye}{Ga:YE}{oK:YE}(oT:∅ 6 m9 lA JP (lV K))(gN:∅ 6 eZ gZ aV (cX K))(Lp:∅ 6 Mj Ga pK (Gb K mg))(Bl:eM K mg "run" Mj Ga pK)(jN:∅ 6 p9 oK Fi (oR K mg))(jF:eM K mg "least_asking" p9 oK Fi)
include eV oT gG gN bz Lp Bl jN jF gR ao aA aB aw aD aE aZ bu bw in
theorem Ju(F:bN K "placed" "placed" y8 f fd):∅ 7 f fd pK (Bc K mg):=by
 refine F.oj fA ?_;rintro _ A _ _ H _ _ _ L _ _ _ ⟨d,a,b,rfl,h⟩;refine⟨_,(aj (bc (i:=3) fA.nd rfl (Or.inl rfl) (bZ (sI (K:=K) rfl) (by rfl) gR aaO (aa (pv 2) ai)))
   (aj (bc (i:=4) fA.nd rfl (Or.inl rfl) (bg Lp Bl L (aa (pv 0) (aa (pv 1) (aa (pv 3) ai)))))
   (aj (bc (i:=5) fA.nd rfl (Or.inl rfl) (bB (bG (K:=K) rfl) (pv 4) az (λ_ _=>rfl)))
   (aj (bc (i:=6) fA.nd rfl (Or.inl rfl) (bg jN jF L (aa (pv 1) (aa (bB (bG (K:=K) rfl) (pv 4) az (λ_ _=>rfl)) ai))))
   (aj (ze aam (br yc (pv 6) pY (bC _))
   (aj (bc (i:=3) fA.nd rfl (Or.inl rfl) (a8 zD (fN (mf (K:=K) rfl) (pv 3) iD (iO (bg oT gG L (aa (pv 3) (aa (bB (bG (K:=K) rfl) (pv 4) az (λ_ _=>rfl)) (aa az ai)))))) (d5 (aa (bp (bT.cons aB.cl bw gN bz (bT.cons ao.cl aZ gN bz (bT.cons aA.cl bu gN bz bT.nil))) (pv 6) L) ai))))
   (aj (bc (i:=4) fA.nd rfl (Or.inl rfl) (bg Lp Bl L (aa (bB (bG (K:=K) rfl) (pv 4) az (λ_ _=>rfl)) (aa (pv 1) (aa (pv 3) ai)))))
   (aj (bc (i:=5) fA.nd rfl (Or.inl rfl) (a8 zD (pv 5) (bB (bG (K:=K) rfl) (pv 4) az (λ_ _=>rfl))))
   (ax (bc (i:=6) fA.nd rfl (Or.inl rfl) (bg jN jF L (aa (pv 1) (aa (bB (bG (K:=K) rfl) (pv 4) az (λ_ _=>rfl)) ai)))))))))
   (ax (aP (cF (aa (pv 5) (aa (pv 3) ai)))))))))),?_⟩
 obtain⟨m,D,cs,N,ns,hd,cm,hS,hc,lc,u,rg,hP,hn,ln,kk⟩:=h;have lw:D.length=cs.length:=Y2 hc;have lx:=hn.len;cbv;refine⟨b,N,rfl,hP,λg0 O=>?_⟩;have Q:=aC (o:=.lst N) O;have g1:(upd H g0 (.lst N)) g0=Ya (.lst N):=af;generalize upd H g0 (.lst N)=H1 at Q g1⊢;cbv;refine⟨d,a,g0,rfl,m,D,cs,N,ns,cY Q hd,cm,Q.seq hS,qg (.same Q) hc,lc,rg,.inl (a9.of g1),hn.up (.same Q),λH2 t l r hs m0 rw Zf m' s2 hl L gt gl gr ac R an ap e0 fw fe=>?_⟩;have rn:Rn D cs m ns rw m':=⟨hs,m0,Zf,⟨R,an⟩,ap,e0,fw,fe⟩;have gT:bJ K H2 t [.ref l,.ref r]:=bJ.of gt;have E:=Q.trans s2;cbv;refine⟨a,r,rfl,D,cs,m',E.seq hS,qg (.same E) hc,lc,.inl gr,ac.toCk,λH3 o s3 S=>?_⟩;have aX:mz cs m<=60:=ir (YQ _ _) lc;cbv;let aq:Nat->St->Hp->Prop:=λM σ A=>∃t l ll r g T G y s o,M=mz cs s/\σ=[Ya (.ref d),Ya (.ref a),Ya (.ref b),Ya (.ref g),Ya (.ref t),Ya (.ref l),Ya (RL o)]/\aJ H A/\H l=Yb/\H g=Yb/\A t=Ya (.tup [.ref ll,.ref r])/\A l=Ya (.lst ((T:List (V×bF)).map (·.1)))/\A r=Ya (.dK (dI s))/\Td s/\A g=Ya (.lst G)/\nv A G y/\Pw D cs m ns T y s/\Sj (D.zip cs) s o/\T.length+ mz cs s<=60/\y.length<=ns.length+ T.length;refine⟨aq,⟨_,t,l,l,r,g0,rw,N,ns,m',o,rfl,rfl,E.trans s3,Q.free hl,O,s3 _ _ gt,s3 _ _ gl,s3 _ _ gr,ac,s3 _ _ (s2 _ _ g1),hn.up (.same (E.trans s3)),.start rn,S,by have:=Ec rn;omega,by omega⟩,?_⟩;clear S gT gt gl gr g1 hl L O rn fw fe;rintro M σ A ⟨t,l,ll,r,g,T,G,y,s,o,rfl,rfl,sA,hl,hg,gt,gl,gr,ar,gg,nm,pw,S,q1,q2⟩;have ly:=nm.len;cases o with
 |none=>
  cbv;rw[show decide (RL Yb=V.non)=true from decide_eq_true rfl];cbv;intro t' A1 aY s9 g9;exact kk A1 t' l g T G y s (sA.trans s9) hl hg g9 (s9 _ _ gl) (s9 _ _ gg) (nm.up (.same s9)) pw S
 |some q=>
  obtain⟨v,n,a0⟩:=id S;obtain⟨vq,x⟩:=q;have cx:f7 K mg A vq x:=xY (qg (.same sA) hc) v;obtain⟨p,C,dx,tt,a1,rfl,hk,hT,hp,ht,a2,a3⟩:=id cx;have ek:=(Cf n).1;obtain⟨kd,nn,c,k,w,as⟩:=x;have ek:kd="one":=ek;subst ek;have hp:A p=Ya (.ins C dx (tG (.int nn) (.int c) (.int k) (.int w) (.ref tt))):=hp;have hk:OL mg "one" C:=hk;rcases hk with⟨z,_⟩|⟨z,_⟩|⟨_,e⟩
  ·exact absurd z (of_decide_eq_false MP)
  ·exact absurd z (of_decide_eq_false Xc)
  rw[aD]at e;cases e;rw[show RL (Ya (V.ref p,(⟨"one",nn,c,k,w,as⟩:bF)))=V.ref p from rfl];cbv;rw[show decide (V.ref p=V.non)=false from decide_eq_false (by intro z;cases z)];refine dP (λ_=>?_) λz=>absurd rfl z;refine⟨_,λ_ _ z=>z,?_⟩;have a4:bJ K A t [.ref ll,.ref r]:=bJ.of gt;cbv;refine⟨g,r,0,rfl,G,s,y,.inl (a9.of gg),.inl gr,nm,cT _,λk _ h=>absurd h (adR _),λj j1 j2 j3=>?_⟩;have a5:a9 K A g G:=a9.of gg;cbv;intro c1 A1 a6 t1 ad;rw[DY _ _ (by omega)]at ad;have R:=t1 _ _ hp;cbv;refine⟨p,rfl,_,dx,_,_,_,_,_,hT,R,λA2 u2 t2 a7 g2=>?_⟩;cbv;intro e1 A3 ba t3 g3;have au:=t3 _ _ (t2 _ _ ad);have lt:=aa6 j G;refine DU au g3 (by rw[Y6];omega) λg' A4 aw t4 g4=>?_;have B:aJ A A4:=t1.trans (t2.trans (t3.trans t4));have ae:nv A4 (G.take j++[.ref u2]) (y.take j++[(nn,c,k)]):=nv.snoc (uS j (nm.up (.same B))) ⟨u2,rfl,t4 _ _ (t3 _ _ g2)⟩;have bb:bJ K A4 t [.ref ll,.ref r]:=bJ.of (B _ _ gt);have I:=sA.trans B;cbv;refine⟨r,a,g',rfl,s,D,cs,_,_,.inl (B _ _ gr),ar.toCk,I.seq hS,qg (.same I) hc,lc,rg,.inl (a9.of g4),ae,λA5 U l5 r5 aE m5 ag W J s5 bd be X aI ah al aK aM aR e5 aS aT=>?_⟩;have Y:Rn D cs s (y.take j++[(nn,c,k)]) ag J:=⟨aE,m5,W,⟨aK,aM⟩,aR,e5,aS,aT⟩;have fo:Fo y s j:=⟨j1,j2,j3⟩;have pos:=HL u S fo Y;have bi:=Ec Y;have bj:bJ K A5 U [.ref l5,.ref r5]:=bJ.of X;have am:=s5 _ _ (B _ _ gl);cbv;refine DU am aI (by rw[Yf,Yf];omega) λl6 A6 aU Z g6=>?_;rw[←Yr]at g6;have bl:bJ K A6 U [.ref l5,.ref r5]:=bJ.of (Z _ _ X);have ab:=I.trans (s5.trans Z);cbv;refine⟨a,r5,rfl,D,cs,J,ab.seq hS,qg (.same ab) hc,lc,.inl (Z _ _ ah),al.toCk,λA7 o7 s7 aW=>?_⟩;refine⟨mz cs J,by omega,U,l6,l5,r5,g',T++ag,G.take j++[.ref u2],y.take j++[(nn,c,k)],J,o7,rfl,rfl,ab.trans s7,(I.trans s5).free aU,(sA.trans (t1.trans (t2.trans t3))).free aw,s7 _ _ (Z _ _ X),s7 _ _ g6,s7 _ _ (Z _ _ ah),al,s7 _ _ (Z _ _ (s5 _ _ g4)),ae.up (.same (s5.trans (Z.trans s7))),.step pw S fo Y,aW,?_,?_⟩
  ·rw[Yq];omega
  ·rw[Yq,Yq,Y6];have:=aa6 j y;omega
def pA(K:Yc):Sp:=λf H Q _=>∃(a:Ye) (h:Int) (d:List V) (c:List (List (Int×Int))),f=[.ref a,.int h]/\a9 K H a d/\OJ H d c/\c≠[]/\c.length<=10/\∀(e:Hp) (b:Int),aJ H e->Gf c h b->Q (.int b) e
abbrev Fm:List Yp:=["some","hand"]
theorem zG:aG ["some","hand"] Fm (av lG):=fq
include eV cW bU wA in
theorem zv(F:bN K "least_count" "least_count" lG f fd):∅ 2 f fd Fm (pA K):=by
 refine F.oj zG ?_;rintro _ _ _ _ H _ _ _ s _ _ _ ⟨a,h,l,n,rfl,h⟩;refine⟨_,(ax (aP (bH (JQ rfl) (by rfl) wA acB (aa (bS ["hand","counts"] [Ya 1,Yb] rfl rfl (by kernel_rfl) (bo (K:=K) rfl (pv 0)) (λ_ _ _ _ _ nd=>aQ (i:=1) nd rfl (Or.inl rfl)) (λ_ _ _ _ _=>dD) (λ_ _ _ _ _=>(bg cW bU s (aa (pv 1) (aa (pv 0) ai))))) ai)))),?_⟩;obtain⟨p,dc,ne,l10,k⟩:=h;have t:l.length=n.length:=Y2 dc;refine⟨_,rfl,a,rfl,⟨_,p⟩,λD r=>?_⟩;refine bh (K:=K) (a:=a) (xs:=l) (λi σ g=>∃v,σ=[Ya (.int h),v]/\aJ H g/\g D=Ya (.lst (((n.take i).map λm=>ct m h).map V.int))) ⟨Yb,rfl,aC r,af⟩ ?_ ?_ ?_
 ·rintro i σ g _ ⟨_,_,q,_⟩;exact q.seq p
 ·rintro i x σ g u ⟨v,rfl,q,c⟩;obtain⟨m,hm,d,rfl,hd⟩:=OJ.get dc u;have y:=(Yh.mp hm).1;refine Cy ⟨_,rfl,_,rfl,d,m,h,rfl,cY q hd,_,c,?_,Ya (.ref d),rfl,λb o z=>?_,?_⟩
  ·rw[Yf,Yf,mr];exact aF (by omega)
  ·rw[ak (ay z r)];exact q b o z
  ·rw[af,aN hm,Yr,Yr];rfl
 rintro σ g ⟨v,rfl,q,c⟩;rw[t,YI]at c;refine⟨D,_,rfl,a9.of c,λz=>ne (ab8.mp z),λb A lo=>k _ b q ?_⟩;obtain⟨m,hm,e⟩:=YA.mp A;exact⟨⟨m,hm,e⟩,λB j=>lo _ (Y3 (f:=λm=>ct m h) j)⟩
def AN(K:Yc):Sp:=λe H Q _=>∃(a:Ye) (d:List V) (b:List (List (Int×Int))),e=[.ref a]/\a9 K H a d/\OJ H d b/\(∀m∈b,Ck m)/\b.length<=10/\
 ∀(c:Hp) (p:Ye) (j:List (Int×Int)),aJ H c->H p=Yb->c p=Ya (.dK (dI j))->Td j->(b=[]->j=[])->(b≠[]->∀k,Gf b k (ct j k))->Q (.ref p) c
theorem Kk:aG ["some"] zH (av zf):=fq
variable{rZ:Ye}{qd:YE}(mI:∅ 2 lP jQ zH (jE K))(rD:∅ 2 rZ qd Fm (pA K))(rJ:eM K mg "least_count" rZ qd Fm)
include eV mI eh iK eY rD rJ in
theorem Ji(F:bN K "common" "common" zf f fd):∅ 3 f fd zH (AN K):=by
 refine F.oj Kk ?_;rintro _ _ _ _ _ _ _ _ G _ _ _ ⟨a,N,r,rfl,h⟩;refine⟨_,(ax (aP (bg iK eY G (aa (bS ["some","hand"] [Ya 0,Yb] rfl rfl (by kernel_rfl) (bo (K:=K) rfl (bg mI eh G (aa (pv 0) ai))) (λ_ _ _ _ _ nd=>aQ (i:=1) nd rfl (Or.inl rfl)) (λ_ _ _ _ _=>dD) (λ_ _ _ _ _=>(cF (aa (pv 1) (aa (bg rD rJ G (aa (pv 0) (aa (pv 1) ai))) ai))))) ai)))),?_⟩;obtain⟨O,dc,H,l10,k⟩:=h;refine⟨_,rfl,a,N,r,rfl,O,dc,H,l10,λX l S I hl nd mem=>?_⟩;have rg:∀j∈S,0<=j/\j<63:=λj d=>by
  obtain⟨m,h1,h2⟩:=(mem j).mp d;exact(H m h1).keys j h2
 have lS:=iY nd rg;refine⟨l,rfl,⟨_,a9.of hl⟩,λD Q=>?_⟩;refine bh (K:=K) (a:=l) (xs:=S.map V.int) (λi σ u=>∃v s f,σ=[Ya (.ref a),v]/\aJ X u/\u D=Ya (.lst s)/\s.length<=i/\jW u s (IU (S.take i) f)/\∀j∈S.take i,Gf r j (f j)) ⟨Yb,[],λ_=>0,rfl,aC Q,af,Yl _,.nil,λj d=>by simp at d⟩ ?_ ?_ ?_
 ·rintro i σ u _ ⟨_,_,_,_,q,_⟩;exact a9.of (q _ _ hl)
 ·rintro i x σ u Y ⟨v,s,f,rfl,q,t,R,C,A⟩;obtain⟨j,d,rfl⟩:=gF Y;have Z:=(Yh.mp d).1;have T:=I.trans q;have ne:r≠[]:=λz=>by
   obtain⟨m,h1,_⟩:=(mem j).mp (Yw d);rw[z]at h1;cases h1
  refine Cy ⟨_,rfl,_,rfl,_,rfl,a,j,N,r,rfl,T.seq O,MO T dc,ne,l10,λH2 b g hb=>⟨by show 2<=YB;decide,λp hp=>?_⟩⟩;have n:=g _ _ t;have B:D≠p:=ay n hp;have U:j∉S.take i:=by
   have:=nd.sublist (aco (i+ 1) S);rw[aN d,jJ]at this;exact λz=>this.2.2 _ z _ (by simp) rfl
  refine⟨s,by rw[ak B];exact n,aF (by omega),Ya (.int j),_,λy=>if y=j then b else f y,rfl,λc o z=>?_,af,by rw[Yq];exact aau R,?_,λy E=>?_⟩
  ·rw[ak (ay z Q),ak (ay (g _ _ (q c o z)) hp)];exact g _ _ (q c o z)
  ·rw[aN d];show jW _ _ (ahm _ (_++[j]));rw[Yr];have e:(S.take i).map (λy=>(y,if y=j then b else f y))=IU (S.take i) f:=aap λy E=>by rw[if_neg (λz:y=j=>U (z▸E))]
   rw[e];refine jW.snoc (C.mono λa s z=>?_) ⟨p,rfl,?_⟩
   ·have J:=g _ _ z;rw[ak (bM J n (by intro z;cases z)),ak (ay J hp)];exact J
   ·rw[ak (Ne.symm B),af];show _=Ya (HO.tup [V.int j,V.int (if j=j then b else f j)]);rw[if_pos rfl]
  ·rw[aN d]at E;rcases YD.mp E with z|z
   ·show Gf r y (if y=j then b else f y);rw[if_neg (λy2:y=j=>U (y2▸z))];exact A y z
   ·have W:=Yi.mp z;show Gf r y (if y=j then b else f y);rw[if_pos W,W];exact hb
 rintro σ u ⟨v,s,f,rfl,q,t,R,C,A⟩;rw[show S.take (S.map V.int).length=S by rw[Yf,YI]]at C A;refine⟨D,s,_,rfl,.inl (a9.of t),C,?_,by rw[mw];exact nd,λH2 p g L hp=>?_⟩
 ·show(ahm _ S).length<=1000;rw[Yf];omega
 have nn:∀j∈S,0<=f j:=λj d=>by
  obtain⟨⟨m,hm,e⟩,_⟩:=A j d;rw[←e];exact(H m hm).ct j
 refine k _ p _ ((I.trans q).trans g) ((I.trans q).free L) hp (Lb nd rg) (λz=>?_) λne j=>?_
 ·have:S=[]:=by
   cases S with
   |nil=>rfl
   |cons j S=>
    obtain⟨m,h1,_⟩:=(mem j).mp Yu;rw[z]at h1;cases h1
  rw[this];rfl
 ·by_cases d:j∈S
  ·rw[NU nd j d (nn j d)];exact A j d
  ·rw[Hy d];have z:∀m∈r,ct m j=0:=λm hm=>lJ λz=>d ((mem j).mpr ⟨m,hm,z⟩);cases r with
   |nil=>exact absurd rfl ne
   |cons m r=>exact⟨⟨m,Yu,z m Yu⟩,λm' M=>by rw[z m' M];exact aat _⟩
def vT(K:Yc):Sp:=λc H Q _=>∃(d:Ye) (m:List (Int×Int)),c=[.ref d]/\Rd H d (.dK (dI m))/\m.length<64/\
 ∀(a:Hp) (t:Ye) (b:List V) (S:List Int),aJ H a->H t=Yb->S.Perm (m.map (·.1))->S.Pairwise (·<=·)->a t=Ya (.tup b)->jW a b (sN m S)->Q (.ref t) a
abbrev AL:List Yp:=["counts"]
theorem Jm:aG ["counts"] AL (av zF):=fq
variable(jd:mg "tuple"=Yb)
include eV fJ jd in
theorem Kr(F:bN K "packed" "packed" zF f fd):∅ 1 f fd AL (vT K):=by
 refine F.oj Jm ?_;rintro _ _ _ _ H _ _ _ _ _ _ hu ⟨d,m,rfl,h⟩;refine⟨_,(ax (aP (bZ (iQ (K:=K) rfl) (by rfl) jd abD (aa (bS ["counts","hand"] [Ya 0,Yb] rfl rfl (by kernel_rfl) (bo (K:=K) rfl (bH (BP rfl) (by rfl) fJ abt (aa (pv 0) ai))) (λ_ _ _ _ _ nd=>aQ (i:=1) nd rfl (Or.inl rfl)) (λ_ _ _ _ _=>(dA (br Nf (uV hu (pv 0) (pv 1) (λ_ _=>rfl)) az (bC _)))) (λ_ _ _ _ _=>(cF (aa (pv 1) (aa (uV hu (pv 0) (pv 1) (λ_ _=>rfl)) ai))))) ai)))),?_⟩;obtain⟨hd,r,k⟩:=h;refine⟨_,rfl,d,m,rfl,hd,r,λl S hl C N=>?_⟩;have g:aJ H (upd H l (.lst (S.map V.int))):=aC hl;have E:(upd H l (.lst (S.map V.int))) l=Ya (.lst (S.map V.int)):=af;generalize upd H l (.lst (S.map V.int))=H0 at g E⊢;have R:S.length<64:=by rw[C.length_eq,Yf];exact r
 refine⟨l,rfl,⟨_,a9.of E⟩,λD L=>?_⟩;refine bh (K:=K) (a:=l) (xs:=S.map V.int) (λi σ s=>∃v j,σ=[Ya (.ref d),v]/\aJ H0 s/\s D=Ya (.lst j)/\j.length<=i/\jW s j (sN m (S.take i))) ⟨Yb,[],rfl,aC L,af,Yl _,.nil⟩ ?_ ?_ ?_
 ·rintro i σ s _ ⟨_,_,_,q,_⟩;exact a9.of (q _ _ E)
 ·rintro i x σ s O ⟨v,j,rfl,q,c,G,u⟩;obtain⟨n,hn,rfl⟩:=gF O;have Q:=(Yh.mp hn).1;have y:n∈m.map (·.1):=C.mem_iff.mp (Yw hn);have A:Rd s d (.dK (dI m)):=cY q (cY g hd);have M:Ya (V.int (ct m n))=eK (dI m) (YL n:bR):=by rw[vY,V7 y];rfl
  refine⟨_,rfl,_,rfl,d,V.int (ct m n),rfl,.inl ⟨_,YL n,A,rfl,M⟩,_,_,rfl,rfl,_,rfl,dP (λh=>?_) λh=>?_⟩
  ·have I:0<ct m n:=of_decide_eq_true h;refine⟨_,rfl,_,rfl,_,rfl,d,V.int (ct m n),rfl,.inl ⟨_,YL n,A,rfl,M⟩,by show 2<=YB;decide,λp hp=>?_⟩;have B:D≠p:=ay c hp;refine⟨j,by rw[ak B];exact c,aF (by omega),Ya (.int n),_,rfl,λb o e=>?_,af,by rw[Yq];exact aau G,?_⟩
   ·rw[ak (ay e L),ak (ay (q b o e) hp)];exact q b o e
   ·rw[aN hn,Ie I];refine jW.snoc (u.mono λa T e=>?_) ⟨p,rfl,?_⟩
    ·rw[ak (bM e c (by intro z;cases z)),ak (ay e hp)];exact e
    ·rw[ak (Ne.symm B),af]
  ·have I:¬ 0<ct m n:=λz=>h (decide_eq_true z);refine⟨Ya (.int n),j,rfl,q,c,acr G,?_⟩;rw[aN hn,NB I];exact u
 rintro σ s ⟨v,j,rfl,q,c,G,u⟩;rw[show S.take (S.map V.int).length=S by rw[Yf,YI]]at u;refine⟨D,j,rfl,.inl ⟨a9.of c,λt J=>?_⟩⟩;exact k _ t j S (g.trans (q.trans (aC J))) (g.free (q.free J)) C N af (Mq (aC J) u)
def Az(K:Yc):Sp:=λa H Q _=>∃h:Int,a=[.int h]/\0<=h/\h<=1000/\Q (.int (2^h.toNat)) H
def NZ(K:Yc):Sp:=λa H Q _=>∃n h:Int,a=[.int n,.int h]/\0<=n/\0<=h/\h<=1000/\Q (.bl (n.toNat.testBit h.toNat)) H
def wk(K:Yc):Sp:=λb H Q _=>∃n:Int,b=[.int n]/\0<=n/\n<9223372036854775808/\∀a l,H l=Yb->aJ H a->a l=Ya (.lst ((GB.hl n).map V.int))->Q (.ref l) a
theorem IZ:aG ["hand"] ["hand"] (av yP):=fq
include eV in
theorem Jt(F:bN K "bit_of" "bit_of" yP f fd):∅ 1 f fd ["hand"] (Az K):=by
 refine F.oj IZ ?_;rintro _ _ _ _ H _ Q _ _ _ _ _ ⟨x,rfl,h⟩;refine⟨_,(ax (aP (z4 (br Dd (pv 0) az (bC _)) (a8 Ox az (pv 0)) az))),?_⟩;obtain⟨h0,h1,k⟩:=h;refine⟨_,rfl,_,_,rfl,rfl,_,rfl,?_⟩;rw[decide_eq_true (show(0:Int)<=x from h0)];refine TQ ⟨_,rfl,_,_,rfl,rfl,⟨h0,by omega,by decide⟩,?_⟩;show Q (.int (1*2^x.toNat)) H;rw[ag2];exact k
abbrev FE:List Yp:=["hands","hand"]
theorem Ul:aG ["hands","hand"] FE (av K2):=fq
variable{Ej:Ye}{AX:YE}(E4:∅ 1 Ej AX ["hand"] (Az K))(DM:eM K mg "bit_of" Ej AX ["hand"])
include eV E4 DM in
theorem SD(F:bN K "has" "has" K2 f fd):∅ 2 f fd FE (NZ K):=by
 refine F.oj Ul ?_;rintro _ _ _ _ H _ Q _ a _ _ _ ⟨n,x,rfl,h⟩;refine⟨_,(ax (aP (qT EW (a8 UB (pv 0) (bg E4 DM a (aa (pv 1) ai))) az (bC _)))),?_⟩;obtain⟨hn,h0,h1,k⟩:=h;refine⟨_,rfl,_,rfl,x,rfl,h0,h1,_,_,rfl,rfl,rfl,?_⟩;show Q (.bl (!decide (V.int (Builtin.bitAnd n (2^x.toNat))=V.int 0))) H;rw[Og hn h0];exact k
abbrev rT:List Yp:=["hands"]
theorem Dz:aG ["hands"] rT (av sL):=fq
variable{RN:Ye}{MI:YE}(R7:∅ 2 RN MI FE (NZ K))(R6:eM K mg "has" RN MI FE)(ji:mg "range"=Yb)
include eV R7 R6 ji in
theorem En(F:bN K "hands_of" "hands_of" sL f fd):∅ 3 f fd rT (wk K):=by
 refine F.oj Dz ?_;rintro _ _ _ _ H _ _ _ c _ _ _ ⟨n,rfl,h⟩;refine⟨_,(ax (aP (bS ["hands","hand"] [Ya 0,Yb] rfl rfl (by kernel_rfl) (qX rfl ji (aa (Gy PySem.F.plainAttrs_int PySem.F.slot_int_bit_length PySem.F.type_int_bit_length Jf (pv 0)) ai)) (λ_ _ _ _ _ nd=>aQ (i:=1) nd rfl (Or.inl rfl)) (λ_ _ _ _ _=>(dA (dS K rfl (bg R7 R6 c (aa (pv 0) (aa (pv 1) ai)))))) (λ_ _ _ _ _=>(pv 1))))),?_⟩;obtain⟨h0,h1,k⟩:=h;obtain⟨m,d⟩:=Jg h0 h1;refine⟨_,rfl,rfl,n,rfl,rfl,_,rfl,by omega,by omega,λD b=>?_⟩;refine sY (λi σ a=>∃v,σ=[Ya (.int n),v]/\a=upd H D (.lst ((y9 n i).map V.int))) ⟨Yb,rfl,rfl⟩ ?_ ?_
 ·rintro i σ a g ⟨v,rfl,rfl⟩;have j:i<aaw n:=by simpa using g
  refine⟨_,rfl,_,rfl,n,_,rfl,h0,(by omega),(by omega),_,rfl,?_⟩;have l:(0+ (i:Int)).toNat=i:=by omega
  rw[l];cases e:n.toNat.testBit i with
  |true=>
   refine TQ ⟨_,rfl,_,af,?_,_,rfl,?_⟩
   ·rw[Yf];have:=LP n i;exact aF (by omega)
   ·rw[O0,Lh e,Yr,ae7];rfl
  |false=>
   refine V4 ⟨_,rfl,?_⟩;rw[Pq e]
 ·rintro σ a ⟨v,rfl,rfl⟩;have e:((aaw n:Nat):Int).toNat=aaw n:=YO _;rw[e,d];exact k _ D b (aC b) af
def kg(K:Yc):Sp:=λe H Q _=>∃(p:Ye) (n:Int),e=[.ref p,.int n]/\∃C c,Hm K C/\H p=Ya (.ins C c [])/\0<=n/\n<9223372036854775808/\∀a d rs,(∀b o,H b=Ya o->b≠p->a b=Ya o)->a p=Ya (.ins C c [("learnt",.ref d)])->a d=Ya (.dK (dG rs))->sG a rs ((GB.hl n).map λh=>(h,[]))->(∀q∈rs,q.2≠V.ref d)->H d=Yb->(∀q∈rs,∀r,q.2=V.ref r->H r=Yb)->Q .non a
theorem Qf(m:de H H'):∀{xs:List V} {ps:List (Int×V)},EA H xs ps->EA H' xs ps:=by
 intro a b w
 induction w with
 |nil=>exact .nil
 |cons w _ ih=>
  obtain⟨a,e,h⟩:=w;exact .cons ⟨a,e,m _ _ h⟩ ih
theorem Ja:∀{xs:List V} {ps:List (Int×V)} {x:V} {p:Int×V},EA H xs ps->(∃a,x=.ref a/\H a=Ya (.tup [.int p.1,p.2]))->EA H (xs++[x]) (ps++[p]):=by
 intro b c d e w h
 induction w with
 |nil=>exact .cons h .nil
 |cons r _ ih=>exact .cons r ih
theorem Mw{ps:List (Int×V)}(h:EA H xs ps):xs.length=ps.length:=Y2 h
theorem gH(k:∀r m,H r=Ya (.dK (dI m))->H' r=Ya (.dK (dI m))):∀{rs:List (Int×V)} {tb:List (Int×List (Int×Int))},sG H rs tb->sG H' rs tb:=by
 intro a b w
 induction w with
 |nil=>exact .nil
 |cons w _ ih=>
  obtain⟨e,r,c,d⟩:=w;exact .cons ⟨e,r,c,k _ _ d⟩ ih
theorem MM:∀{rs:List (Int×V)} {tb:List (Int×List (Int×Int))} {q:Int×V} {e:Int×List (Int×Int)},sG H rs tb->(q.1=e.1/\∃r,q.2=.ref r/\H r=Ya (.dK (dI e.2)))->sG H (rs++[q]) (tb++[e]):=by
 intro a b c d w h
 induction w with
 |nil=>exact .cons h .nil
 |cons r _ ih=>exact .cons r ih
theorem VX(n:Int):(GB.hl n).Nodup:=by
 unfold GB.hl;refine List.Pairwise.map _ (λa b h=>?_) (GB.j0 n.toNat);intro e;have:a<b:=h;omega
theorem Kn{j:List (Int×Int)}(hn:h∉tb.map (·.1)):um tb h j=tb:=by
 unfold um
 conv=>rhs;rw[←adp tb]
 refine aap λe a=>?_;rw[if_neg (λz=>hn (by rw[←z];exact Y3 a))];rfl
theorem P7{j:List (Int×Int)}(b:H r=Ya (.dK (dI j))):∀{rs:List (Int×V)} {tb:List (Int×List (Int×Int))},(tb.map (·.1)).Nodup->h∈tb.map (·.1)->sG H rs tb->sG H (xC rs h (.ref r)) (um tb h j):=by
 intro rs tb nd hm w
 induction w with
 |nil=>simp at hm
 |@cons q e rs tb w t ih=>
  obtain⟨a,c,d,f⟩:=w;rw[YG,vc]at nd;have g:um (e::tb) h j=(if e.1=h then(e.1,j)else e)::um tb h j:=rfl;rw[g];unfold xC;by_cases z:e.1=h
  ·rw[if_pos (a.trans z),if_pos z,Kn (by rw[←z];exact nd.1)];exact .cons ⟨a,r,rfl,b⟩ t
  ·rw[if_neg (λw=>z (a.symm.trans w)),if_neg z];rw[YG]at hm;exact .cons ⟨a,c,d,f⟩ (ih nd.2 ((Ym.mp hm).resolve_left λw=>z w.symm))
theorem UZ{d:Ye}:∀{rs:List (Int×V)} {tb:List (Int×List (Int×Int))},sG H rs tb->H d=Yb->∀q∈rs,q.2≠V.ref d:=by
 intro rs tb w hd
 induction w with
 |nil=>exact λq a=>nomatch a
 |cons w t ih=>
  obtain⟨_,r,c,b⟩:=w;intro q a;rcases Ym.mp a with z|z
  ·rw[z,c];intro w;cases w;rw[hd]at b;cases b
  ·exact ih q z
theorem Qq{d:Ye}:∀{rs:List (Int×V)} {tb:List (Int×List (Int×Int))},sG H rs tb->(∀q∈rs,q.2≠V.ref d)->(∀r o,r≠d->H r=Ya o->H' r=Ya o)->sG H' rs tb:=by
 intro rs tb w ap k
 induction w with
 |nil=>exact .nil
 |cons w t ih=>
  obtain⟨e,r,a,b⟩:=w;exact .cons ⟨e,r,a,k _ _ (λz=>ap _ Yu (by rw[a,z])) b⟩ (ih λq c=>ap q (Yo _ c))
abbrev DL:List Yp:=["self","hands"]
theorem tY:aG ["self","hands"] DL (av ij):=fq
variable{zb:Ye}{wC:YE}(m8:∅ 3 zb wC rT (wk K))(ng:eM K mg "hands_of" zb wC rT)
include eV m8 ng pj in
theorem tM(F:bN K "__init__" "Known.__init__" ij f fd):∅ 4 f fd DL (kg K):=by
 refine F.oj tY ?_;rintro _ _ _ _ H _ _ _ L _ _ _ ⟨p,n,rfl,h⟩;refine⟨_,(ax (cM (K:=K) rfl (pv 0) (bZ (Gi rfl) (by rfl) pj acj (aa (bS ["hand"] [Yb] rfl rfl (by kernel_rfl) (bo (K:=K) rfl (bg m8 ng L (aa (pv 1) ai))) (λ_ _ _ _ _ nd=>aQ (i:=0) nd rfl (Or.inl rfl)) (λ_ _ _ _ _=>dD) (λ_ _ _ _ _=>(cF (aa (pv 0) (aa qP ai))))) ai)) rfl)),?_⟩;obtain⟨C,dx,⟨cl,n1⟩,hp,h0,h1,k⟩:=h;cbv;refine⟨n,rfl,h0,h1,λU l hl M g1=>?_⟩;cbv;intro D W;have ln:=GB.Sm n;refine bh (K:=K) (a:=l) (xs:=(GB.hl n).map V.int) (λi σ A=>∃v u rs,σ=[v]/\aJ U A/\A D=Ya (.lst u)/\EA A u rs/\rs.map (·.1)=(GB.hl n).take i/\sG A rs (((GB.hl n).take i).map λh=>(h,[]))/\∀q∈rs,∀r,q.2=V.ref r->U r=Yb) ⟨Yb,[],[],rfl,aC W,af,.nil,rfl,.nil,λq G=>nomatch G⟩ ?_ ?_ ?_
 ·rintro i σ A _ ⟨_,_,_,_,z,_⟩;exact a9.of (z _ _ g1)
 ·rintro i x σ A hx ⟨v,u,rs,rfl,X,N,s,E,c,B⟩;obtain⟨h,O,rfl⟩:=gF hx;have hi:=(Yh.mp O).1;have ly:u.length<=i:=by
   rw[Mw s,←Yf (f:=(·.1)),E,mr];omega
  cbv;intro r Q L y Y;cbv;intro t R ht g J;have j:=g _ _ (y _ _ N);refine⟨u,j,aF (by omega),Ya (.int h),_,rs++[(h,.ref r)],rfl,λb o z=>?_,af,?_,?_,?_,λq G r' e=>?_⟩
  ·rw[ak (ay z W)];exact g _ _ (y _ _ (X b o z))
  ·exact Ja (Qf ((de.same (y.trans g)).trans (de.lst j)) s) ⟨t,rfl,de.lst j _ _ J⟩
  ·rw[Yr,E,aN O];rfl
  ·rw[aN O,Yr];have kp:∀r m,A r=Ya (.dK (dI m))->(upd R D (.lst (u++[V.ref t]))) r=Ya (.dK (dI m)):=λr m e=>by rw[ak (bM (g _ _ (y _ _ e)) j (by intro z;cases z))];exact g _ _ (y _ _ e)
   exact MM (gH kp c) ⟨rfl,r,rfl,by rw[ak (bM (g _ _ Y) j (by intro z;cases z))];exact g _ _ Y⟩
  ·rcases YD.mp G with z|z
   ·exact B q z r' e
   ·rw[Yi.mp z]at e;cases e;exact X.free L
 rintro σ Q ⟨v,u,rs,rfl,y,S,s,E,c,B⟩;rw[show(GB.hl n).take ((GB.hl n).map V.int).length=GB.hl n by rw[Yf,YI]]at E c;refine⟨D,u,rs,rfl,S,s,by rw[E];exact VX n,by rw[←Yf (f:=(·.1)),E];omega,λd hd=>?_⟩;have g:=aC (o:=.dK (dG rs)) hd;have J:(upd Q d (.dK (dG rs))) d=Ya (.dK (dG rs)):=af;generalize upd Q d (.dK (dG rs))=R at g J⊢;have Z:aJ H R:=M.trans (y.trans g);have I:=Z _ _ hp;cbv;intro H5 T g5;refine k H5 d rs (λb o e hb=>T.at hb (Z _ _ e)) g5 (T.of I J (by intro z;cases z)) (gH (λr m e=>T.of I e (by intro z;cases z)) (gH (λr m e=>g _ _ e) c)) (UZ c hd) ((M.trans y).free hd) (λq G r e=>M.free (B q G r e))
def jV(K:Yc)(mg:Yp->Option Yd):Sp:=λi H Q _=>∃(p:Ye) (h:Int) (c:Ye),i=[.ref p,.int h,.ref c]/\∃d rs a m,mi K mg H p d rs a/\Rd H c (.dK (dI m))/\Ck m/\
 ∀e b f,KR d H e->mi K mg e p d b f->(tbl a h=Yb->f=a)->(∀g,tbl a h=Ya g->∃j,Td j/\(∀k,Ou [g,m] k (ct j k))/\f=um a h j)->(∀q∈b,q∈rs∨∃r,q.2=.ref r/\H r=Yb)->Q .non e
abbrev Bs:List Yp:=["self","hand","counts"]
theorem yR:aG ["self","hand","counts"] Bs (av lK):=fq
variable{c5:Ye}(w5:∅ 2 zM vk yB (vh K))(aU:Hm K c5)(aX:mg "Known"=Ya (.ref c5))
include eV w5 uW aU aX in
theorem ym(F:bN K "learn" "Known.learn" lK f fd):∅ 3 f fd Bs (jV K mg):=by
 refine F.oj yR ?_;rintro _ _ _ _ H _ _ _ O _ _ hu ⟨p,x,c,rfl,h⟩;refine⟨_,(ax (eF (Gv (Lf hu (pv 1) (aL (K:=K) rfl (pv 0) rfl))) (ax (q5 hu (aL (K:=K) rfl (pv 0) rfl) (pv 1) (bg w5 uW O (aa (uV hu (aL (K:=K) rfl (pv 0) rfl) (pv 1) (λ_ _=>rfl)) (aa (pv 2) ai))) rfl)) cg)),?_⟩;obtain⟨d,rs,s,m,S,Q,R,k⟩:=h;obtain⟨⟨C,T,I,hp⟩,hd,a,g,t,u⟩:=id S;rw[aX]at I;cases I;obtain⟨cl,n1⟩:=id aU;have i:=a.keys;have nd:(rs.map (·.1)).Nodup:=by rw[i];exact g.up.imp λh=>by omega
 have U:rs.length<YB:=aF (by
  have:=iY (by rw[←i];exact nd) g.rg;rw[Yf]at this;have e:rs.length=s.length:=Y2 a;omega)
 cbv;rcases a.lk x with⟨D,l⟩|⟨r,m0,D,l,V⟩
 ·rw[D];refine dP (λz=>absurd z (by decide)) λ_=>?_;exact k H rs s (.refl _ _) S (λ_=>rfl) (λm0 z=>by rw[l]at z;cases z) λq v=>.inl v
 ·have W:=hd;rw[D];refine dP (λ_=>?_) λz=>absurd rfl z;cbv;have X:=t _ (tbl_mem l);refine⟨r,c,m0,m,rfl,.inl V,Q,X.toCk,R,λH1 q j A v Y J mx=>?_⟩;have E:=A _ _ hp;have G:=A _ _ hd;cbv;intro L B Z;have Zj:x∈s.map (·.1):=tbl_key.mp (by rw[l];rfl);have M:q≠d:=λz=>by rw[z]at v;rw[v]at hd;cases hd
  have y:sG L rs s:=Qq a u λr o n e=>B.at n (A _ _ e);refine k L _ (um s x j) (λb o n e=>B.at n (A _ _ e)) ⟨⟨_,T,aX,B.of G E (by intro z;cases z)⟩,Z,P7 (B.at M Y) (by rw[←i];exact nd) Zj y,by rw[vN];exact g,λe he=>?_,λw hw=>?_⟩ (λz=>by rw[l]at z;cases z) (λm1 z=>⟨j,J,?_,rfl⟩) λw hw=>?_
  ·obtain⟨N,h0,rfl⟩:=YA.mp he;by_cases w:N.1=x
   ·rw[if_pos w];exact J
   ·rw[if_neg w];exact t N h0
  ·rcases vP _ _ _ _ hw with z|z
   ·rw[z];intro w;cases w;exact M rfl
   ·exact u w z
  ·rw[l]at z;cases z;exact mx
  ·rcases vP _ _ _ _ hw with z|z
   ·rw[z];exact .inr ⟨q,rfl,v⟩
   ·exact .inl z
theorem kQ:∀{rs:List (Int×V)} {tb:List (Int×List (Int×Int))} {i:Nat} {q:Int×V},sG H rs tb->rs[i]?=Ya q->∃e r,tb[i]?=Ya e/\q.1=e.1/\q.2=.ref r/\H r=Ya (.dK (dI e.2)):=by
 intro a b i q w
 induction w generalizing i with
 |nil=>exact λe=>by simp at e
 |cons w _ ih=>
  intro e;cases i with
  |zero=>
   obtain⟨c,r,d,f⟩:=w;simp at e;subst e;exact⟨_,r,rfl,c,d,f⟩
  |succ i=>
   obtain⟨p,r,h1,h2⟩:=ih (i:=i) (by simpa using e);exact⟨p,r,by simpa using h1,h2⟩
theorem Ov{m:List (Int×V)}{k:bR}(h:(dG m)[i]?=Ya (k,v)):∃p,m[i]?=Ya p/\k=YL p.1/\v=p.2:=by
 unfold dG at h;rw[Yy]at h;cases e:m[i]? with
 |none=>rw[e]at h;cases h
 |some p=>rw[e]at h;cases h;exact⟨p,rfl,rfl,rfl⟩
theorem Xd{a:Hp}{d:Ye}{rs:List (Int×V)}(s:aJ B a)(k:mi K mg B p d rs tb):mi K mg a p d rs tb:=by
 obtain⟨⟨C,b,e,h⟩,h2,h3,h4,h5,h6⟩:=k;exact⟨⟨C,b,e,s _ _ h⟩,s _ _ h2,gH (λr m q=>s _ _ q) h3,h4,h5,h6⟩
noncomputable def xS(g:Int->Int):List (Int×Int):=(B5.filter λk=>decide (0<g k)).map λk=>(k,g k)
theorem qq:∀{l m:List Int},l.Pairwise (·<·)->m.Pairwise (·<·)->(∀x,x∈l↔x∈m)->l=m
 |[],[],_,_,_=>rfl
 |[],b::m,_,_,h=>absurd ((h b).mpr Yu) (by simp)
 |a::l,[],_,_,h=>absurd ((h a).mp Yu) (by simp)
 |a::l,b::m,hl,hm,h=>by
  rw[ac7]at hl hm;have e:a=b:=by
   rcases Ym.mp ((h a).mp Yu)with z|z
   ·exact z
   ·rcases Ym.mp ((h b).mpr Yu)with w|w
    ·exact w.symm
    ·have:=hm.1 a z;have:=hl.1 b w;omega
  subst e;rw[qq hl.2 hm.2 λx=>?_];constructor
  ·intro c;rcases Ym.mp ((h x).mp (Yo _ c))with z|z
   ·have:=hl.1 x c;omega
   ·exact z
  ·intro c;rcases Ym.mp ((h x).mpr (Yo _ c))with z|z
   ·have:=hm.1 x c;omega
   ·exact z
theorem BB:B5.Pairwise (·<·):=by decide +kernel
theorem N9{S:List Int}(a:S.Pairwise (·<=·))(nd:S.Nodup):S.Pairwise (·<·):=by
 have:=afS.mpr ⟨a,nd⟩;exact this.imp λh=>by omega
theorem Ih{S:List Int}(c:Ck m)(a:S.Perm (m.map (·.1)))(b:S.Pairwise (·<=·)):sN m S=xS (ct m):=by
 unfold sN xS;have:=qq (l:=S.filter λk=>decide (0<ct m k)) (m:=B5.filter λk=>decide (0<ct m k)) ((N9 b (a.nodup_iff.mpr c.nd)).filter _) (BB.filter _) λx=>?_
 ·rw[this]
 ·rw[YU,YU];constructor
  ·rintro⟨h1,h2⟩;obtain⟨p,hp,e⟩:=YA.mp (a.mem_iff.mp h1);have:=c.rg p hp;rw[e]at this;exact⟨Cu.mpr this,h2⟩
  ·rintro⟨h1,h2⟩;have h3:0<ct m x:=of_decide_eq_true h2;exact⟨a.mem_iff.mpr (VG (by omega)),h2⟩
def KN(H:Hp)(x:V)(e:Int×List (Int×Int)):Prop:=∃t u a,x=.ref t/\H t=Ya (.tup [.int e.1,.ref u])/\H u=Ya (.tup a)/\jW H a e.2
abbrev yJ(H:Hp):List V->List (Int×List (Int×Int))->Prop:=YX (KN H)
theorem KN.up(h:∀a xs,H a=Ya (.tup xs)->H' a=Ya (.tup xs)){x:V}(q:KN H x e):KN H' x e:=by
 obtain⟨t,u,xs,b,c,d,f⟩:=q;exact⟨t,u,xs,b,h _ _ c,h _ _ d,f.mono h⟩
theorem iP(h:∀a xs,H a=Ya (.tup xs)->H' a=Ya (.tup xs)){ls:List (Int×List (Int×Int))}(q:yJ H xs ls):yJ H' xs ls:=YX.mapP q λ_ _ z=>z.up h
theorem Jy:∀{xs:List V} {ls:List (Int×List (Int×Int))} {x:V} {e:Int×List (Int×Int)},yJ H xs ls->KN H x e->yJ H (xs++[x]) (ls++[e]):=by
 intro a b c d w h
 induction w with
 |nil=>exact .cons h .nil
 |cons r _ ih=>exact .cons r ih
noncomputable def u6(tb:List (Int×List (Int×Int))):List (Int×List (Int×Int)):=(tb.filter λe=>!e.2.isEmpty).map λe=>(e.1,xS (ct e.2))
theorem Bn(a:tb[i]?=Ya e):u6 (tb.take (i+ 1))=u6 (tb.take i)++if e.2.isEmpty then[]else[(e.1,xS (ct e.2))]:=by
 unfold u6;rw[aN a,YS,Yr];congr 1;cases z:e.2.isEmpty<;>simp[z]
theorem Eh(c:Ck m):m.length<64:=by
 have:=iY c.nd (λk a=>by obtain⟨p,hp,e⟩:=YA.mp a;rw[←e];exact c.rg p hp);rw[Yf]at this;exact this
def oQ(K:Yc)(mg:Yp->Option Yd):Sp:=λe H Q _=>∃(p:Ye),e=[.ref p]/\∃d rs b,mi K mg H p d rs b/\∀a t c,aJ H a->H t=Yb->a t=Ya (.tup c)->yJ a c (u6 b)->Q (.ref t) a
theorem xE:aG ["self"] aV (av jt):=fq
variable{zk:Ye}{vW:YE}(FD:∅ 1 zk vW AL (vT K))(uu:eM K mg "packed" zk vW AL)
include eV FD uu jd aU aX in
theorem xT(F:bN K "listed" "Known.listed" jt f fd):∅ 2 f fd aV (oQ K mg):=by
 refine F.oj xE ?_;rintro _ A _ _ H _ _ _ hr _ U hu ⟨p,rfl,h⟩;refine⟨_,(ax (HZ (aP (bZ (iQ (K:=K) rfl) (by rfl) jd abD (aa (bS ["hand","row"] [Yb,Yb] rfl rfl (by kernel_rfl) (Ng (aL (K:=K) rfl (pv 0) rfl)) (λ_ _ _ _ _ nd=>kM (K:=K) (n:=2) rfl rfl (cH (aQ (i:=0) nd rfl (Or.inl rfl)) (cH (aQ (i:=1) nd rfl (Or.inl rfl)) kT))) (λ_ _ _ _ _=>(dA (br (Ue U) (pv 1) qP (bC _)))) (λ_ _ _ _ _=>(cF (aa (pv 0) (aa (bg FD uu hr (aa (pv 1) ai)) ai))))) ai))))),?_⟩;obtain⟨d,rs,W,S,k⟩:=h;obtain⟨⟨C,dx,eC,hp⟩,hd,E,G,X,Y⟩:=id S;rw[aX]at eC;cases eC;obtain⟨cl,n1⟩:=id aU;have I:rs.length=W.length:=Y2 E;have am:W.length<64:=by
  have:=iY (G.up.imp λh=>by omega) G.rg;rw[Yf]at this;exact this
 refine Ni (d:=d) hd ?_;cbv;refine V1 hd λo A O Z=>?_;intro D Q;have an:D≠d:=λz=>by rw[z,O]at Q;cases Q
 refine GY (λi σ s=>∃v1 v2 g,σ=[v1,v2]/\aJ A s/\s D=Ya (.lst g)/\yJ s g (u6 (W.take i))/\g.length<=i) ⟨Yb,Yb,[],rfl,aC Q,af,.nil,Yl _⟩ ?_ ?_ ?_
 ·rintro i σ s _ ⟨_,_,_,_,z,_⟩;exact z _ _ O
 ·rintro i ky v t σ H0 s ab ⟨v1,v2,g,rfl,ac,ad,ae,j⟩ ao s0 m;obtain⟨q,hq,rfl,rfl⟩:=Ov ab;obtain⟨e,r,R,e1,e2,e3⟩:=kQ E hq;have hi:=(Yh.mp R).1;have ag:r≠d:=λz=>Y q (Yw hq) (by rw[e2,z]);have sm:=ac.trans s0;have ah:=sm _ _ (Z _ _ ag e3);have x:=s0 _ _ ad;have J:=iP (λa c z=>s0 a _ z) ae;rw[e2]at m;have m:=bJ.of (K:=K) m;cbv;intro l H1 hl L g1;have al:Rd H1 r (.dK (dI e.2)):=.inl (L _ _ ah);have ap:Rd H1 l (.dK []):=.inl g1;cbv;refine dP (λh1=>?_) λh1=>?_
  ·have ne:e.2.isEmpty=false:=by
    cases z:e.2.isEmpty
    ·rfl
    ·rw[z]at h1;cases h1
   have te:=X e (Yw R);cbv;refine⟨r,e.2,rfl,al,Y5 (Eh te.toCk) (Yl _),λH2 u c S s2 hu pm so gu pr=>?_⟩;rw[Ih te.toCk pm so]at pr;cbv;intro t3 T aq y g3;have B:aJ s T:=L.trans (s2.trans y);have M:=B _ _ x;have kp:∀a c,T a=Ya (.tup c)->(upd T D (.lst (g++[V.ref t3]))) a=Ya (.tup c):=λa c z=>by
    rw[ak (bM z M (by intro z;cases z))];exact z
   refine⟨g,M,aF (by omega),_,_,_,rfl,λb o z=>?_,af,?_,by rw[Yq];exact aau j⟩
   ·rw[ak (ay z Q)];exact B _ _ (sm b o z)
   ·rw[Bn R,ne];refine Jy (iP (λa c z=>kp a c (B _ _ z)) J) ⟨t3,u,c,rfl,?_,kp _ _ (y _ _ gu),(pr.mono λa c z=>kp _ _ (y _ _ z))⟩;rw[←e1];exact kp _ _ g3
  ·have ne:e.2.isEmpty=true:=by
    cases z:e.2.isEmpty
    ·rw[z]at h1;exact absurd rfl h1
    ·rfl
   refine⟨_,_,g,rfl,sm.trans L,L _ _ x,?_,acr j⟩;rw[Bn R,ne];simp only[if_true,Y1];exact iP (λa c z=>L _ _ z) J
 rintro σ s ⟨v1,v2,g,rfl,sm,x,J,j⟩;rw[sQ,I,YI]at J;rw[sQ,I]at j;cbv;intro t T m y g3;have kd:=y _ _ (sm _ _ O);have N:t≠d:=λz=>by rw[z,sm _ _ O]at m;cases m
 refine⟨⟨o,kd⟩,?_⟩;refine k _ t g (thaw_same (λb u n e=>y _ _ (sm _ _ (Z b u n e))) hd) ?_ (by rw[ak N];exact g3) (iP (λa c z=>?_) J)
 ·cases z:H t with
  |none=>rfl
  |some u=>rw[sm _ _ (Z t u N z)]at m;cases m
 ·have z3:=y _ _ z;rw[ak (bM z3 kd (by intro z;cases z))];exact z3
noncomputable def RV:List (Int×List (Int×Int))->Int->Int->Int->Int
 |[],_,_,c=>c
 |e::ls,h,k,c=>RV ls h k (if e.1=h then max c (ct e.2 k)else c)
theorem Il(h k:Int)(e:Int×List (Int×Int)):∀(ls:List (Int×List (Int×Int))) (c:Int),RV (ls++[e]) h k c=if e.1=h then max (RV ls h k c) (ct e.2 k)else RV ls h k c
 |[],c=>rfl
 |_::ls,c=>Il h k e ls _
theorem Qv{K:Yc}{d:Ye}{kvs:List (bR×V)}(b:KR d H H')(hd:H d=Ya (.dK kvs))(h:bJ K H a xs):bJ K H' a xs:=by
 rcases h with(h|⟨z,h⟩)|h
 ·exact .inl (.inl (b _ _ (bM h hd (by intro z;cases z)) h))
 ·exact .inl (.inr ⟨z,b _ _ (bM h hd (by intro z;cases z)) h⟩)
 ·exact .inr h
theorem gJ:h∉tb.map (·.1)↔tbl tb h=none:=by
 rw[←tbl_key];cases tbl tb h<;>simp
theorem PV(t:Td m):fj m=m:=by
 unfold fj;exact List.filter_eq_self.mpr λp hp=>decide_eq_true (t.ps p hp)
theorem NM:∀{xs:List V} {ls:List (Int×List (Int×Int))} {i:Nat} {x:V},yJ H xs ls->xs[i]?=Ya x->∃e,ls[i]?=Ya e/\KN H x e:=by
 intro a b i x w
 induction w generalizing i with
 |nil=>exact λe=>by simp at e
 |cons r _ ih=>
  intro e;cases i with
  |zero=>simp at e;subst e;exact⟨_,rfl,r⟩
  |succ i=>
   obtain⟨p,h1,h2⟩:=ih (i:=i) (by simpa using e);exact⟨p,by simpa using h1,h2⟩
def qf(K:Yc)(mg:Yp->Option Yd):Sp:=λj H Q _=>∃(p a:Ye),j=[.ref p,.ref a]/\∃d rs c i ls,mi K mg H p d rs c/\bJ K H a i/\yJ H i ls/\ls.length<=64/\(∀e∈ls,Td e.2)/\
 ∀f b g,KR d H f->mi K mg f p d b g->g.map (·.1)=c.map (·.1)->(∀h∈c.map (·.1),∀k,ct ((tbl g h).getD []) k=RV ls h k (ct ((tbl c h).getD []) k))->(∀q∈b,q∈rs∨∃r,q.2=.ref r/\H r=Yb)->Q .non f
abbrev Es:List Yp:=["self","listed"]
theorem jC:aG ["self","listed","hand","row"] Es (av lF):=fq
variable{l7:Ye}{jv:YE}(rq:∅ 3 nJ ke Gz (kJ K))(rS:∅ 3 l7 jv Bs (jV K mg))(fK:Binds K jv Bs [])(cN:bE K c5 "learn" l7)
include eV rq eY rS fK aU aX cN in
theorem zA(F:bN K "merge" "Known.merge" lF f fd):∅ 4 f fd Es (qf K mg):=by
 refine F.oj jC ?_;rintro _ _ _ _ H _ _ _ Y _ _ _ ⟨p,a,rfl,h⟩;refine⟨_,(ax (lU aam rfl (Im (K:=K) rfl (pv 1)) (kM (K:=K) (n:=2) rfl rfl (cH (aQ (i:=2) jC.nd rfl (Or.inl rfl)) (cH (aQ (i:=3) jC.nd rfl (Or.inl rfl)) kT)))
   (ax (dC (bV (bT.cons aU.cl cN rS fK bT.nil) (pv 0) Y (aa (pv 2) (aa (bg rq eY Y (aa (pv 3) ai)) ai))))))),?_⟩
 obtain⟨d,rs,y,Z,ls,S,hS,hx,hl,ht,k⟩:=h;have lx:Z.length=ls.length:=Y2 hx;cbv;let I:Nat->St->Hp->Prop:=λi σ s=>∃J L g c,σ=[Ya (.ref p),Ya (.ref a),J,L]/\KR d H s/\mi K mg s p d g c/\c.map (·.1)=y.map (·.1)/\(∀h∈y.map (·.1),∀k,ct ((tbl c h).getD []) k=RV (ls.take i) h k (ct ((tbl y h).getD []) k))/\(∀q∈g,q∈rs∨∃r,q.2=.ref r/\H r=Yb);refine CB (xs:=Z) I ⟨Yb,Yb,rs,y,rfl,.refl _ _,S,rfl,λ_ _ _=>rfl,λq hq=>.inl hq⟩ (λi σ s _ z=>?_) ?_ ?_
 ·obtain⟨_,_,_,_,_,z,_⟩:=z;exact Qv z S.dc hS
 ·rintro i x σ s M ⟨J,L,g,c,rfl,l,A,v,B,N⟩;obtain⟨e,he,t,u,ys,rfl,e2,e3,e4⟩:=NM hx M;have D:=ht e (Yw he);have O:t≠d:=bM e2 S.dc (by intro z;cases z);have Q:u≠d:=bM e3 S.dc (by intro z;cases z);have ab:=bJ.of (K:=K) (l _ _ O e2);have R:=bJ.of (K:=K) (l _ _ Q e3);have py:jW s ys e.2:=e4.mono λb zs z=>l _ _ (bM z S.dc (by intro z;cases z)) z;obtain⟨⟨C,dx,eC,hp⟩,m,_⟩:=id A;rw[aX]at eC;cases eC;obtain⟨cl,n1⟩:=id aU;cbv;refine⟨u,ys,e.2,rfl,.inr R,py,by have:=Eh D.toCk;omega,D.nd,λH2 q E hq g2=>?_⟩;have S2:=Xd E A;rw[PV D]at g2;have m:=E _ _ m;cbv;refine⟨p,e.1,q,rfl,d,g,c,e.2,S2,.inl g2,D.toCk,λH3 T U V S3 c1 c2 c3=>?_⟩;refine⟨_,_,T,U,rfl,λb o n z=>V _ _ n (E _ _ (l _ _ n z)),S3,?_,λh hh k=>?_,λw hw=>?_⟩
  ·cases z:tbl c e.1 with
   |none=>rw[c1 z];exact v
   |some m0=>
    obtain⟨j,_,_,W⟩:=c2 m0 z;rw[W,vN];exact v
  ·rw[aN he,Il,←B h hh k];cases z:tbl c e.1 with
   |none=>
    rw[c1 z,if_neg];intro w;rw[w,←gJ]at z;exact z (by rw[v];exact hh)
   |some m0=>
    obtain⟨j,_,mx,W⟩:=c2 m0 z;rw[W,ub];by_cases w:e.1=h
    ·rw[if_pos w,if_pos ⟨w.symm,by rw[z];rfl⟩,←w,z];exact AK (mx k)
    ·rw[if_neg w,if_neg (λu=>w u.1.symm)]
  ·rcases c3 w hw with z|⟨r,e5,G⟩
   ·exact N w z
   ·refine .inr ⟨r,e5,?_⟩;have X:r≠d:=λz=>by rw[z,m]at G;cases G
    cases z:H r with
    |none=>rfl
    |some o=>rw[E _ _ (l _ _ X z)]at G;cases G
 rintro σ s ⟨J,L,g,c,rfl,l,A,v,B,N⟩;cbv;rw[lx,YI]at B;exact k _ g c l A v B N
noncomputable abbrev lL:Y4:=bD (fm 32) 4
noncomputable abbrev nO:Y4:=bD (fm 32) 5
noncomputable abbrev lZ:Y4:=bD (fm 32) 3
noncomputable abbrev jT:Y4:=bD (fm 25) 1
noncomputable abbrev ie:Y4:=bD (fm 26) 0
noncomputable abbrev jL:Y4:=bD (fm 27) 0
noncomputable abbrev pL:Y4:=bD (fm 24) 7
noncomputable abbrev vg:Y4:=fm 30
noncomputable def De(tb:List (Int×List (Int×Int)))(h c:Int):Nat:=(tb.filter λe=>decide (c<=ct e.2 h)).length
noncomputable def OH(tb:List (Int×List (Int×Int))):List Nm->Nat
 |[]=>0
 |p::ns=>if 2*De tb p.2.1 p.2.2<=tb.length then 0 else OH tb ns+ 1
theorem Hf{tb:List (Int×List (Int×Int))}:∀{ns:List Nm} {i:Nat},(∀k (hk:k<ns.length),k<i->¬ 2*De tb ns[k].2.1 ns[k].2.2<=tb.length)->i<=ns.length->(∀a:i<ns.length,2*De tb ns[i].2.1 ns[i].2.2<=tb.length)->OH tb ns=i
 |[],i,_,h2,_=>by
  have:i=0:=by simpa using h2
  rw[this];rfl
 |p::ns,0,_,_,h3=>by
  have this:2*De tb p.2.1 p.2.2<=tb.length:=h3 (by simp);unfold OH;rw[if_pos this]
 |p::ns,i+ 1,h1,h2,h3=>by
  have z:¬ 2*De tb p.2.1 p.2.2<=tb.length:=h1 0 (by simp) (by omega);unfold OH;rw[if_neg z,Hf (i:=i) (λk hk b=>h1 (k+ 1) (by simpa using hk) (by omega)) (by simpa using h2) λa=>h3 (by simpa using a)]
def pE(K:Yc)(mg:Yp->Option Yd):Sp:=λe H Q _=>∃(p t:Ye),e=[.ref p,.ref t]/\∃d rs a n h c,mi K mg H p d rs a/\H t=Ya (.tup [.int n,.int h,.int c])/\∀b,aJ H b->Q (.int (De a h c)) b
theorem DQ{c:Int}(a:tb[i]?=Ya e):De (tb.take (i+ 1)) h c=De (tb.take i) h c+ if c<=ct e.2 h then 1 else 0:=by
 unfold De;rw[aN a,YS,Yq];congr 1;by_cases z:c<=ct e.2 h
 ·rw[if_pos z];simp[z]
 ·rw[if_neg z];simp;omega
abbrev DN:List Yp:=["self","name"]
theorem zV:aG ["self","name"] DN (av lL):=fq
include eV iC c6 fc aU aX in
theorem yC(F:bN K "reach" "Known.reach" lL f fd):∅ 3 f fd DN (pE K mg):=by
 refine F.oj zV ?_;rintro _ A _ _ _ _ _ _ X _ _ _ ⟨p,t,rfl,h⟩;refine⟨_,(ax (HZ (aP (bH (c8 (K:=K) rfl) (by rfl) fc aal (aa (bS ["name","row"] [Ya 1,Yb] rfl rfl (by kernel_rfl) (QP (aL (K:=K) rfl (pv 0) rfl)) (λ_ _ _ _ _ nd=>aQ (i:=1) nd rfl (Or.inl rfl)) (λ_ _ _ _ _=>(dA (dS K rfl (bg iC c6 X (aa (pv 1) (aa (pv 0) ai)))))) (λ_ _ _ _ _=>(pv 1))) ai))))),?_⟩;obtain⟨d,rs,G,n,x,c,S,T,k⟩:=h;obtain⟨⟨C,dx,U,hp⟩,hd,l,m,Y,H⟩:=id S;rw[aX]at U;cases U;obtain⟨cl,n1⟩:=id aU;have I:rs.length=G.length:=Y2 l;have Z:G.length<64:=by
  have:=iY (m.up.imp λh=>by omega) m.rg;rw[Yf]at this;exact this
 refine Ni (d:=d) hd ?_;cbv;refine V1 hd λo A J L=>?_;intro D E;have ab:D≠d:=λz=>by rw[z,J]at E;cases E
 refine Ku (λi σ s=>∃v j,σ=[Ya (.ref t),v]/\aJ A s/\s D=Ya (.lst j)/\j.length=De (G.take i) x c/\j.length<=i) ⟨Yb,[],rfl,aC E,af,by simp[De],Yl _⟩ ?_ ?_ ?_
 ·rintro i σ s _ ⟨_,_,_,z,_⟩;exact z _ _ J
 ·rintro i ky v σ s M ⟨v1,j,rfl,a,g,y,B⟩;obtain⟨q,V,rfl,rfl⟩:=Ov M;obtain⟨e,r,N,e1,W,e3⟩:=kQ l V;have hi:=(Yh.mp N).1;have O:r≠d:=λz=>H q (Yw V) (by rw[W,z]);have Q:=a _ _ (L _ _ O e3);have R:=a _ _ (L _ _ (bM T hd (by intro z;cases z)) T);rw[W];cbv;refine⟨r,t,rfl,_,_,_,_,.inl Q,bJ.of R,?_⟩;cbv;refine dP (λh1=>?_) λh1=>?_
  ·have h1:c<=ct e.2 x:=of_decide_eq_true h1;cbv;refine⟨_,g,aF (by omega),_,_,rfl,λb o z=>?_,af,?_,?_⟩
   ·rw[ak (ay z E)];exact a b o z
   ·rw[Yq,y,DQ N,if_pos h1];rfl
   ·rw[Yq];exact aau B
  ·have h1:¬ c<=ct e.2 x:=λz=>h1 (decide_eq_true z);exact⟨_,j,rfl,a,g,by rw[y,DQ N,if_neg h1];rfl,by omega⟩
 rintro σ s ⟨v1,j,rfl,a,g,y,B⟩;rw[sQ,I,YI]at y;cbv;refine⟨⟨o,a _ _ J⟩,?_⟩;rw[y];exact k _ (thaw_same (λb u n e=>a _ _ (L b u n e)) hd)
def rC(K:Yc)(mg:Yp->Option Yd):Sp:=λf H Q _=>∃(p a:Ye),f=[.ref p,.ref a]/\∃d rs c b ns,mi K mg H p d rs c/\(a9 K H a b∨bJ K H a b)/\nv H b ns/\ns.length<=1000/\∀e,aJ H e->Q (.int (OH c ns)) e
abbrev Fh:List Yp:=["self","places"]
theorem iB:aG ["self","places","so_many","name"] Fh (av nO):=fq
variable{rP:Ye}{qu:YE}(rV:∅ 3 rP qu DN (pE K mg))(rL:Binds K qu DN [])(gY:bE K c5 "reach" rP)
include eV rV rL fc aU aX gY in
theorem An(F:bN K "sure" "Known.sure" nO f fd):∅ 4 f fd Fh (rC K mg):=by
 refine F.oj iB ?_;rintro _ _ _ _ H _ _ _ D _ _ _ ⟨p,a,rfl,h⟩;refine⟨_,(aj (bc (i:=2) iB.nd rfl (Or.inl rfl) az)
   (aj (lU aam rfl (HI (K:=K) rfl (pv 1)) (aQ (i:=3) iB.nd rfl (Or.inl rfl))
   (aj (eF (br WX (a8 vX az (bV (bT.cons aU.cl gY rV rL bT.nil) (pv 0) D (aa (pv 3) ai))) (bH Hc (by rfl) fc aal (aa (aL (K:=K) rfl (pv 0) rfl) ai)) (bC _)) (ax Nk) cg)
   (ax (bc (i:=2) iB.nd rfl (Or.inl rfl) (a8 eQ (pv 2) az)))))
   (ax (aP (pv 2))))),?_⟩
 obtain⟨d,rs,b,W,ns,S,E,hn,X,k⟩:=h;have hl:=hn.len;have G:∀z:Int,CC 2 z:=λz=>.inl ⟨by decide,by decide⟩;cbv;let l:Nat->St->Hp->Prop:=λi σ g=>∃v,σ=[Ya (.ref p),Ya (.ref a),Ya (.int i),v]/\aJ H g/\∀k (u:k<ns.length),k<i->¬ 2*De b ns[k].2.1 ns[k].2.2<=b.length;refine OE E l ⟨Yb,rfl,aJ.refl _,λ_ _ z=>absurd z (adR _)⟩ (λi m g _ z=>by obtain⟨_,_,z,_⟩:=z;exact z) ?_ ?_
 ·rintro i x σ g I ⟨v,rfl,c,e⟩;obtain⟨q,J,t,rfl,L⟩:=hn.get I;obtain⟨M,rfl⟩:=Yh.mp J;have y:=Xd c S;obtain⟨⟨C,Y,A,hp⟩,hd,n,O,Q,R⟩:=id y;rw[aX]at A;cases A;obtain⟨cl,n1⟩:=id aU;have o:rs.length=b.length:=Y2 n;cbv;refine AW (λm B=>m=[Ya (.ref p),Ya (.ref a),Ya (.int i),Ya (.ref t)]/\aJ H B/\¬ 2*De b ns[i].2.1 ns[i].2.2<=b.length) ?_ λN T=>?_
  ·rintro m B ⟨rfl,r,s⟩;cbv;refine⟨_,rfl,r,λk u h=>?_⟩;rcases abY k i with z|z
   ·exact e k u z
   ·obtain rfl:k=i:=by omega
    exact s
  ·have Z:=G (De b ns[i].2.1 ns[i].2.2);cbv;refine⟨p,t,rfl,d,rs,b,_,_,_,y,c _ _ L,λH2 j=>?_⟩;have U:=j _ _ hd;have V:=j _ _ hp;cbv;rw[sQ,o];refine dP (λh1=>?_) λh1=>?_
   ·have h1:2*((De b ns[i].2.1 ns[i].2.2:Nat):Int)<=((b.length:Nat):Int):=of_decide_eq_true h1;have h1:2*De b ns[i].2.1 ns[i].2.2<=b.length:=by omega
    cbv;have:=Hf (tb:=b) (ns:=ns) e (by omega) λ_=>h1;rw[←this];exact k _ (c.trans j)
   ·have h1:¬ 2*((De b ns[i].2.1 ns[i].2.2:Nat):Int)<=((b.length:Nat):Int):=λz=>h1 (decide_eq_true z);exact T _ _ ⟨rfl,c.trans j,by omega⟩
 rintro σ g ⟨v,rfl,c,e⟩;cbv;rw[hl]at e⊢;have:=Hf (tb:=b) (ns:=ns) e (Yl _) λz=>absurd z (Y9 _);rw[←this];exact k _ c
def p0(K:Yc)(mg:Yp->Option Yd):Sp:=λc H Q _=>∃(p:Ye),c=[.ref p]/\∃d rs a,mi K mg H p d rs a/\a≠[]/\a.length<=10/\∀b q j,aJ H b->H q=Yb->b q=Ya (.dK (dI j))->Td j->(∀k,Gf (a.map (·.2)) k (ct j k))->Q (.ref q) b
theorem Qi:∀{rs:List (Int×V)} {tb:List (Int×List (Int×Int))},sG H rs tb->OJ H ((dG rs).map (·.2)) (tb.map (·.2)):=by
 intro a b w
 induction w with
 |nil=>exact .nil
 |cons w _ ih=>
  obtain⟨_,r,c,d⟩:=w;exact .cons ⟨r,c,.inl d⟩ ih
theorem zU:aG ["self"] aV (av lZ):=fq
variable{CZ:Ye}{Br:YE}(DO:∅ 3 CZ Br zH (AN K))(EI:eM K mg "common" CZ Br zH)
include eV DO EI gR aU aX in
theorem z7(F:bN K "floor" "Known.floor" lZ f fd):∅ 4 f fd aV (p0 K mg):=by
 refine F.oj zU ?_;rintro _ _ _ _ H _ _ _ x _ _ _ ⟨p,rfl,h⟩;refine⟨_,(ax (aP (bg DO EI x (aa (bZ (Hb rfl) (by rfl) gR aaO (aa (Gy aaE abq ac9 Gu (aL (K:=K) rfl (pv 0) rfl)) ai)) ai)))),?_⟩;obtain⟨d,rs,r,S,i,h10,k⟩:=h;obtain⟨⟨C,O,s,hp⟩,hd,a,y,n,A⟩:=id S;rw[aX]at s;cases s;obtain⟨cl,n1⟩:=id aU;have B:rs.length=r.length:=Y2 a;cbv;refine⟨d,_,rfl,rfl,hd,λv D=>?_⟩;have b:=aC (o:=IF v d) D;have t:(upd H v (IF v d)) v=Ya (IF v d):=af;generalize upd H v (IF v d)=H1 at b t⊢;cbv;refine⟨v,d,_,rfl,t,.inl (b _ _ hd),by rw[sQ];omega,λl hl=>?_⟩;have g:=aC (o:=.lst ((dG rs).map (·.2))) hl;have u:(upd H1 l (.lst ((dG rs).map (·.2)))) l=Ya (.lst ((dG rs).map (·.2))):=af;generalize upd H1 l (.lst ((dG rs).map (·.2)))=H2 at g u⊢;cbv;have c:r.map (·.2)≠[]:=λz=>i (ab8.mp z);refine⟨l,_,_,rfl,a9.of u,Qi (gH (λ_ _ q=>g _ _ (b _ _ q)) a),λm hm=>?_,by rw[Yf];exact h10,λE q j G I J L _ M=>?_⟩
 ·obtain⟨e,N,rfl⟩:=YA.mp hm;exact(n e N).toCk
 ·exact k E q j (b.trans (g.trans G)) (b.free (g.free I)) J L (M c)
def js(H:Hp)(v:V)(x:bF):Prop:=∃a t b,v=.ref a/\H a=Ya (.tup [.int x.n,.int x.c,.int x.k,.str x.kd,.int x.w,.ref t])/\H t=Ya (.tup b)/\jW H b x.cs
structure Wf(x:bF):Prop where
 kd:x.kd="own"∨x.kd="heard"∨x.kd="one"
 w:(if x.w<0 then-x.w else x.w)<10^(60:Int).toNat
 cs:Ck x.cs
 ow:x.kd="own"->x.cs=[]
 c0:0<=x.c
 c1:x.c<63
variable{cs:List bF}{kd:Yp}
abbrev Xi(H:Hp):List V->List bF->Prop:=YX (js H)
theorem js.up(s:de H H')(h:js H v x):js H' v x:=by
 obtain⟨a,t,b,c,d,e,f⟩:=h;exact⟨a,t,b,c,s _ _ d,s _ _ e,f.mono s⟩
noncomputable def U7(x:bF):abo:=.tuple [.int x.n,.int x.c,.int x.k,.str x.kd,.int x.w,.tuple (x.cs.map Xg)]
theorem js.dp{K:Yc}(h:js H v x):Dp K H v (U7 x):=by
 obtain⟨a,t,e,rfl,b,c,d⟩:=h;exact .tup (bJ.of b) (.cons (.int _) (.cons (.int _) (.cons (.int _) (.cons (.str _) (.cons (.int _) (.cons (.tup (bJ.of c) d.dps) .nil))))))
theorem Xi.dps{K:Yc}{H:Hp}:∀{vs:List V} {cs:List bF},Xi H vs cs->CY K H vs (cs.map U7)
 |_,_,.nil=>.nil
 |_,_,.cons r t=>.cons r.dp (Xi.dps t)
theorem So(wf:Wf x):(U7 x).canLay0=true:=by
 have e:aiC x.kd=true:=by
  rcases wf.kd with h|h|h<;>rw[h]<;>decide +kernel
 simp[U7,aed,aae,Ca,e]
theorem Ia:∀{cs:List bF},(∀x∈cs,Wf x)->aae (cs.map U7)=true
 |[],_=>rfl
 |p::ns,h=>by rw[YG,aa8,So (h p Yu),Ia λx a=>h x (Yo _ a)];rfl
def oV(K:Yc):Sp:=λa H Q _=>∃(p:Ye),a=[.ref p]/\Q (.str "own") H
def j5(K:Yc):Sp:=λa H Q _=>∃(p:Ye),a=[.ref p]/\Q (.str "heard") H
def nV(K:Yc):Sp:=λa H Q _=>∃(p:Ye),a=[.ref p]/\Q (.str "one") H
theorem xJ:aG ["self"] aV (av jT):=fq
include eV in
theorem xP(F:bN K "kind" "OwnCall.kind" jT f fd):∅ 1 f fd aV (oV K):=by
 refine F.oj xJ ?_;rintro _ _ _ _ _ _ _ _ _ _ _ _ ⟨p,rfl,h⟩;refine⟨_,(ax (aP fS)),?_⟩;cbv;exact h
theorem uT:aG ["self"] aV (av ie):=fq
include eV in
theorem u4(F:bN K "kind" "HeardCall.kind" ie f fd):∅ 1 f fd aV (j5 K):=by
 refine F.oj uT ?_;rintro _ _ _ _ _ _ _ _ _ _ _ _ ⟨p,rfl,h⟩;refine⟨_,(ax (aP fS)),?_⟩;cbv;exact h
theorem xR:aG ["self"] aV (av jL):=fq
include eV in
theorem xA(F:bN K "kind" "OneCall.kind" jL f fd):∅ 1 f fd aV (nV K):=by
 refine F.oj xR ?_;rintro _ _ _ _ _ _ _ _ _ _ _ _ ⟨p,rfl,h⟩;refine⟨_,(ax (aP fS)),?_⟩;cbv;exact h
def jn(K:Yc)(mg:Yp->Option Yd):Sp:=λb H Q _=>∃(v:V),b=[v]/\∃x,f7 K mg H v x/\∀a t,aJ H a->H t=Yb->js a (.ref t) x->Q (.ref t) a
theorem CN:aG ["self"] aV (av pL):=fq
variable{qL:Ye}{my:Ye}{qi:Ye}{oy:YE}{j4:YE}{oC:YE}(pV:∅ 1 qL oy aV (oV K))(qo:Binds K oy aV [])(mJ:∅ 1 my j4 aV (j5 K))(mF:Binds K j4 aV [])(qI:∅ 1 qi oC aV (nV K))(qG:Binds K oC aV [])(eI:bE K bj "kind" my)(fQ:bE K bL "kind" qi)(fP:bE K bK "kind" qL)
include eV pV qo mJ mF qI qG ao aA aB aw aD aE eI fQ fP in
theorem BL(F:bN K "told" "Call.told" pL f fd):∅ 2 f fd aV (jn K mg):=by
 refine F.oj CN ?_;rintro _ _ _ _ H _ _ _ q _ _ _ ⟨v,rfl,h⟩;refine⟨_,(ax (aP (cF (aa (aL (K:=K) rfl (pv 0) rfl) (aa (aL (K:=K) rfl (pv 0) rfl) (aa (aL (K:=K) rfl (pv 0) rfl) (aa (bp (bT.cons aB.cl fP pV qo (bT.cons ao.cl eI mJ mF (bT.cons aA.cl fQ qI qG bT.nil))) (pv 0) q) (aa (aL (K:=K) rfl (pv 0) rfl) (aa (aL (K:=K) rfl (pv 0) rfl) ai))))))))),?_⟩;obtain⟨x,⟨p,C,r,t,j,rfl,l,s,hp,m,d,y⟩,o⟩:=h;obtain⟨kd,n,c,k,w,cs⟩:=x;have l:OL mg kd C:=l;have hp:H p=Ya (.ins C r (tG (.int n) (.int c) (.int k) (.int w) (.ref t))):=hp;have d:jW H j cs:=d;obtain⟨cl,n1,n2,n3,n4,n5⟩:=id s;rcases l with⟨rfl,e⟩|⟨rfl,e⟩|⟨rfl,e⟩
 ·rw[aE]at e;cases e;cbv;refine⟨p,rfl,?_⟩;cbv;intro u g a b i;exact o g u b a ⟨u,t,j,rfl,i,b _ _ m,d.mono (de.same b)⟩
 ·rw[aw]at e;cases e;cbv;refine⟨p,rfl,?_⟩;cbv;intro u g a b i;exact o g u b a ⟨u,t,j,rfl,i,b _ _ m,d.mono (de.same b)⟩
 ·rw[aD]at e;cases e;cbv;refine⟨p,rfl,?_⟩;cbv;intro u g a b i;exact o g u b a ⟨u,t,j,rfl,i,b _ _ m,d.mono (de.same b)⟩
def zZ(K:Yc)(mg:Yp->Option Yd):Sp:=λb H Q _=>∃(v:V),b=[v]/\∃x,js H v x/\Wf x/\∀a p,aJ H a->H p=Yb->f7 K mg a (.ref p) x->Q (.ref p) a
theorem GI:aG ["told"] ["told"] (av vg):=fq
variable{p7:Ye}{mV:YE}(wF:∅ 4 p7 mV J0 (nB K mg))(kX:eM K mg "make_call" p7 mV J0)
include eV wF kX ao aA aB aw aD aE in
theorem Gg(F:bN K "call_of" "call_of" vg f fd):∅ 5 f fd ["told"] (zZ K mg):=by
 refine F.oj GI ?_;rintro _ _ _ _ H _ _ _ g _ _ _ ⟨v,rfl,h⟩;refine⟨_,(ax (aP (bg wF kX g (aa (bB (bG (K:=K) rfl) (pv 0) az (λ_ _=>rfl)) (aa (bB (bG (K:=K) rfl) (pv 0) az (λ_ _=>rfl)) (aa (bB (bG (K:=K) rfl) (pv 0) az (λ_ _=>rfl)) (aa (bB (bG (K:=K) rfl) (pv 0) az (λ_ _=>rfl)) (aa (bB (bG (K:=K) rfl) (pv 0) az (λ_ _=>rfl)) (aa (bB (bG (K:=K) rfl) (pv 0) az (λ_ _=>rfl)) ai))))))))),?_⟩;obtain⟨x,⟨ta,tt,i,rfl,h1,h2,h3⟩,a,j⟩:=h;have st:bJ K H ta [.int x.n,.int x.c,.int x.k,.str x.kd,.int x.w,.ref tt]:=bJ.of h1;cbv;refine⟨x.n,x.c,x.k,x.kd,x.w,tt,rfl,i,a.kd,a.w,h2,λk p C l m e hp b tc c d=>?_⟩;refine j k p e hp ⟨p,C,l,m,_,rfl,b,tc,c,d,?_,a.cs⟩;by_cases z:x.kd="own"
 ·rw[if_pos z,a.ow z];exact .nil
 ·rw[if_neg z];exact h3.mono (de.same e)
noncomputable abbrev yH:Y4:=fm 45
noncomputable abbrev vD:Y4:=fm 35
noncomputable abbrev BK:Y4:=fm 21
structure Pg where
 me:Int
 nu:Int
 ha:Int
 ro:Int
 ma:Int
 dn:List (Int×Int)
 tk:List (V×bF)
 kp:List (V×bF)
 od:List Nm
 ta:List (Int×List (Int×Int))
 ab:List (Int×List (Int×Int))
variable{S S' S2:Pg}
structure CW where
 d:Ye
 t:Ye
 k:Ye
 o:Ye
 ta:Ye
 da:Ye
 ab:Ye
 db:Ye
 ra:List (Int×V)
 rb:List (Int×V)
variable{k:Int}{d:List (Int×Int)}{x':CW}{t:Ye}
noncomputable def rwa(rs:List (Int×V)):List Ye:=rs.filterMap λq=>match q.2 with| .ref r=>Ya r|_=>Yb
theorem dw{rs:List (Int×V)}:r∈rwa rs↔∃q∈rs,q.2=.ref r:=by
 unfold rwa;rw[ac0];constructor
 ·rintro⟨q,a,e⟩;refine⟨q,a,?_⟩;split at e
  ·rename_i c b;cases e;exact b
  ·cases e
 ·rintro⟨q,a,e⟩;exact⟨q,a,by rw[e]⟩
noncomputable def CW.ft(x:CW)(p:Ye):List Ye:=[p,x.d,x.t,x.k,x.o,x.ta,x.da,x.ab,x.db]++(rwa x.ra++rwa x.rb)
noncomputable def eD(x:bF):List bR:=[YL x.n,YL x.c,YL x.k]
noncomputable def CU(q:V×bF):List bR×V:=(eD q.2,q.1)
structure hU(K:Yc)(mg:Yp->Option Yd)(H:Hp)(p:Ye)(S:Pg)(x:CW):Prop where
 ob:∃C dx,mg "Page"=Ya (.ref C)/\AI K C/\H p=Ya (.ins C dx (qW (.int S.me) (.int S.nu) (.int S.ha) (.int S.ro) (.int S.ma) (.ref x.d) (.ref x.t) (.ref x.k) (.ref x.o) (.ref x.ta) (.ref x.ab)))
 dn:H x.d=Ya (.dK (dI S.dn))
 td:Td S.dn
 tk:H x.t=Ya (.lst (S.tk.map (·.1)))
 tc:∀q∈S.tk,f7 K mg H q.1 q.2
 kp:H x.k=Ya (.dT (S.kp.map CU))
 kc:∀q∈S.kp,f7 K mg H q.1 q.2
 kn:(S.kp.map λq=>eD q.2).Nodup
 kr:∀q∈S.kp,0<=q.2.c/\q.2.c<63
 od:∃xs,H x.o=Ya (.lst xs)/\nv H xs S.od
 ta:mi K mg H x.ta x.da x.ra S.ta
 ab:mi K mg H x.ab x.db x.rb S.ab
 to:x.t≠x.o
 dd:x.d≠x.da/\x.d≠x.db/\x.da≠x.db
 rr:∀q∈x.ra++x.rb,q.2≠V.ref x.d/\q.2≠V.ref x.da/\q.2≠V.ref x.db
 me:0<=S.me/\S.me<63
 ha:0<=S.ha/\S.ha<9223372036854775808
variable{dn:List (Int×Int)}{tk:List (V×bF)}
def U5:HO->Prop
 | .dK _=>True
 | .lst _=>True
 | .dT _=>True
 | .ins _ _ fs=>fs.length≠5
 |_=>False
theorem hU.fto{x:CW}(h:hU K mg H p S x):∀a∈x.ft p,∃o,H a=Ya o/\U5 o:=by
 intro a ha;unfold CW.ft at ha;obtain⟨C,n,_,_,hp⟩:=h.ob;obtain⟨⟨s,f,_,h1⟩,h2,h3,_⟩:=h.ta;obtain⟨⟨t,g,_,h4⟩,h5,h6,_⟩:=h.ab;obtain⟨u,ho,_⟩:=h.od;have b:∀{rs:List (Int×V)} {c:List (Int×List (Int×Int))},sG H rs c->a∈rwa rs->∃o,H a=Ya o/\U5 o:=fun{rs c} rw j=>by
  obtain⟨q,k,e⟩:=dw.mp j;obtain⟨i,l⟩:=YJ k;obtain⟨_,r,_,_,d,m⟩:=kQ rw l;rw[e]at d;cases d;exact⟨_,m,trivial⟩
 rcases YD.mp ha with z|z
 ·simp only[Ym,xu,or_false]at z;rcases z with rfl|rfl|rfl|rfl|rfl|rfl|rfl|rfl|rfl
  ·exact⟨_,hp,by show(11:Nat)≠5;decide⟩
  ·exact⟨_,h.dn,trivial⟩
  ·exact⟨_,h.tk,trivial⟩
  ·exact⟨_,h.kp,trivial⟩
  ·exact⟨_,ho,trivial⟩
  ·exact⟨_,h1,by show(1:Nat)≠5;decide⟩
  ·exact⟨_,h2,trivial⟩
  ·exact⟨_,h4,by show(1:Nat)≠5;decide⟩
  ·exact⟨_,h5,trivial⟩
 ·rcases YD.mp z with z|z
  ·exact b h3 z
  ·exact b h6 z
def Off(F:List Ye)(H a:Hp):Prop:=∀b o,H b=Ya o->b∉F->a b=Ya o
theorem Off.refl(F:List Ye)(H:Hp):Off F H H:=λ_ _ e _=>e
theorem Off.same{C:Hp}(a:Off F A B)(s:aJ B C):Off F A C:=λb o e n=>s _ _ (a b o e n)
theorem Off.of(s:aJ A B):Off F A B:=λb o e _=>s _ _ e
def nQ(H a:Hp):Prop:=∀b o,H b=Ya o->¬ U5 o->a b=Ya o
theorem nQ.same(s:aJ H H'):nQ H H':=λb o e _=>s _ _ e
theorem nQ.smh(k:nQ H H'):de H H':=λb a e=>k _ _ e (by intro z;exact z)
theorem iF(o:Off F H H')(h:∀a∈F,∃u,H a=Ya u/\U5 u):nQ H H':=λb u e n=>o b u e λz=>by
 obtain⟨v,c,d⟩:=h b z;rw[e]at c;cases c;exact n d
theorem f7.kpf(s:nQ H H')(h:f7 K mg H v x):f7 K mg H' v x:=by
 obtain⟨p,C,a,t,b,c,d,e,f,g,i,j⟩:=h;exact⟨p,C,a,t,b,c,d,e,s _ _ f (by intro z;exact z rfl),s _ _ g (by intro z;exact z),i.mono s.smh,j⟩
theorem iT{d:Ye}{rs:List (Int×V)}(h:mi K mg H p d rs tb)(o:Off F H H')(hp:p∉F)(hd:d∉F)(c:∀r∈rwa rs,r∉F):mi K mg H' p d rs tb:=by
 obtain⟨⟨C,f,e,h1⟩,h2,h3,h4,h5,h6⟩:=h;refine⟨⟨C,f,e,o _ _ h1 hp⟩,o _ _ h2 hd,?_,h4,h5,h6⟩;have go:∀{rs:List (Int×V)} {tb:List (Int×List (Int×Int))},sG H rs tb->(∀q∈rs,∀r,q.2=.ref r->r∉F)->sG H' rs tb:=by
  intro rs tb h
  induction h with
  |nil=>intro _;exact .nil
  |cons r t ih=>
   intro n;obtain⟨e,g,b,i⟩:=r;exact .cons ⟨e,g,b,o _ _ i (n _ Yu _ b)⟩ (ih λq a=>n q (Yo _ a))
 exact go h3 λq a r e=>c r (dw.mpr ⟨q,a,e⟩)
theorem hU.off{x:CW}(h:hU K mg H p S x)(o:Off F H H')(k:nQ H H')(n:∀a∈x.ft p,a∉F):hU K mg H' p S x:=by
 obtain⟨C,d,e,f,hp⟩:=h.ob;obtain⟨g,ho,hn⟩:=h.od;have m:∀{a},a∈[p,x.d,x.t,x.k,x.o,x.ta,x.da,x.ab,x.db]->a∉F:=λha=>n _ (YY _ ha);refine⟨⟨C,d,e,f,o _ _ hp (m (by simp))⟩,o _ _ h.dn (m (by simp)),h.td,o _ _ h.tk (m (by simp)),λq b=>(h.tc q b).kpf k,o _ _ h.kp (m (by simp)),λq b=>(h.kc q b).kpf k,h.kn,h.kr,⟨g,o _ _ ho (m (by simp)),hn.up k.smh⟩,
  iT h.ta o (m (by simp)) (m (by simp)) (λr c=>n r (YK _ (YY _ c))),iT h.ab o (m (by simp)) (m (by simp)) (λr c=>n r (YK _ (YK _ c))),h.to,h.dd,h.rr,h.me,h.ha⟩
theorem hU.same{x:CW}(h:hU K mg H p S x)(s:aJ H H'):hU K mg H' p S x:=h.off (F:=[]) (Off.of s) (.same s) λ_ _ z=>nomatch z
def Bk(K:Yc)(mg:Yp->Option Yd):Sp:=λa H Q _=>∃(v:V),a=[v]/\∃x,f7 K mg H v x/\Q (.str (if x.kd="one"then "sure"else "ready")) H
theorem Je:aG ["call"] pS (av yH):=fq
variable(eU:∅ 1 dB dY aV (d3 K))(fY:∅ 1 dH dy aV (dz K))
include eV eU a7 fY bA ao aA aB aw aD aE aM aR aT in
theorem JS(F:bN K "why_of" "why_of" yH f fd):∅ 2 f fd pS (Bk K mg):=by
 refine F.oj Je ?_;rintro _ _ _ _ H _ Q _ d _ _ _ ⟨v,rfl,h⟩;refine⟨_,(ax (aP (z4 (dS K rfl (bp (bT.cons aB.cl aT eU a7 (bT.cons ao.cl aM eU a7 (bT.cons aA.cl aR fY bA bT.nil))) (pv 0) d)) fS fS))),?_⟩;obtain⟨x,⟨p,C,g,t,l,rfl,b,m,hp,o,i,j⟩,a⟩:=h;obtain⟨kd,n,c,k,w,cs⟩:=x;have b:OL mg kd C:=b;have hp:H p=Ya (.ins C g (tG (.int n) (.int c) (.int k) (.int w) (.ref t))):=hp;have a:Q (.str (if kd="one"then "sure"else "ready")) H:=a;rcases b with⟨rfl,e⟩|⟨rfl,e⟩|⟨rfl,e⟩
 ·rw[aE]at e;cases e;rw[if_neg (by decide +kernel)]at a;cbv;refine⟨p,rfl,?_⟩;cbv;exact a
 ·rw[aw]at e;cases e;rw[if_neg (by decide +kernel)]at a;cbv;refine⟨p,rfl,?_⟩;cbv;exact a
 ·rw[aD]at e;cases e;rw[if_pos rfl]at a;cbv;refine⟨p,rfl,?_⟩;cbv;exact a
def zC(K:Yc)(mg:Yp->Option Yd):Sp:=λe H Q _=>∃(a:Ye),e=[.ref a]/\∃c cs,a9 K H a c/\Cs K mg H c cs/\c.length<64/\∀d D b,aJ H d->H D=Yb->b.Perm c->wb (cs.map λx=>[x.c,x.k]) c b->d D=Ya (.lst b)->Q (.ref D) d
theorem GC:aG ["calls"] ["calls"] (av vD):=fq
include eV jh fZ fJ ao aA aB aw aD aE in
theorem FZ(F:bN K "by_rank" "by_rank" vD f fd):∅ 4 f fd ["calls"] (zC K mg):=by
 refine F.oj GC ?_;rintro _ _ _ _ _ _ _ _ g _ _ _ ⟨a,rfl,h⟩;refine⟨_,(ax (aP (C9 (K:=K) rfl (aa (pv 0) ai) (by rfl) fJ jh fZ.mg fZ.bd (by rfl) g))),?_⟩;obtain⟨d,cs,j,e,hl,l⟩:=h;have m:d.length=cs.length:=Y2 e;cbv;refine⟨a,d,cs.map λx=>[x.c,x.k],rfl,j,hl,by rw[Yf];exact m,λk b=>?_,λi v k G H n b o p=>?_,λD c q r s od s' u=>?_⟩
 ·obtain⟨x,_,rfl⟩:=YA.mp b;intro z;cases z
 ·obtain⟨x,y,A⟩:=cR e n;rw[Yy,y]at b;cases b;exact⟨v,rfl,x,A.up (.same o),λB t C _ E=>p B t C (bJ.of E)⟩
 ·exact l q D c s' r s od u
noncomputable def jj(n:Int):V:=match GB.hl n with|[]=>.non|a::_=>.int a
def Ds(K:Yc):Sp:=λb H Q _=>∃n:Int,b=[.int n]/\0<=n/\n<9223372036854775808/\∀a,aJ H a->Q (jj n) a
theorem Lx:aG ["hands"] rT (av BK):=fq
include eV m8 ng wA in
theorem K9(F:bN K "least" "least" BK f fd):∅ 4 f fd rT (Ds K):=by
 refine F.oj Lx ?_;rintro _ _ _ _ _ _ _ _ j _ _ _ ⟨n,rfl,h⟩;refine⟨_,(ax (aP (Ke (Kg rfl) (by rfl) wA acB (aa (bg m8 ng j (aa (pv 0) ai)) ai) (Qk pY Th)))),?_⟩;obtain⟨h0,h1,d⟩:=h;cbv;refine VR ?_;cbv;refine⟨n,rfl,h0,h1,λg l hl i k=>?_⟩;cbv;refine⟨l,GB.hl n,_,rfl,rfl,a9.of k,λe=>?_,λb c hm=>?_⟩
 ·have:=d g i;unfold jj at this;rw[e]at this;exact this
 ·have:=d g i;unfold jj at this;cases e:GB.hl n with
  |nil=>rw[e]at c;cases c
  |cons a r=>
   rw[e]at this;have m:=GB.Oq e b c;have o:=hm a (by rw[e];exact Yu);have:b=a:=by omega
   subst this;assumption
noncomputable abbrev i7:Y4:=bD (fm 46) 0
noncomputable def Pg.new(me nu ha ro:Int):Pg:=⟨me,nu,ha,ro,0,[],[],[],[],(GB.hl ha).map λh=>(h,[]),(GB.hl ha).map λh=>(h,[])⟩
theorem RG(n:Int):Hs (GB.hl n):=by
 refine⟨?_,λx c=>?_⟩
 ·unfold GB.hl;exact List.Pairwise.map _ (λa b h=>by have:a<b:=h;omega) (GB.j0 n.toNat)
 ·unfold GB.hl at c;obtain⟨h,d,rfl⟩:=YA.mp c;have:=(GB.DI.mp d).1;omega
def l9(K:Yc)(mg:Yp->Option Yd):Sp:=λd H Q _=>∃(p:Ye) (me nu ha ro:Int),d=[.ref p,.int me,.int nu,.int ha,.int ro]/\∃C e,mg "Page"=Ya (.ref C)/\AI K C/\H p=Ya (.ins C e [])/\0<=ha/\ha<9223372036854775808/\0<=me/\me<63/\
 ∀c x,(∀b o,H b=Ya o->b≠p->c b=Ya o)->hU K mg c p (Pg.new me nu ha ro) x->(∀a∈x.ft p,a=p∨H a=Yb)->Q .non c
abbrev FF:List Yp:=["self","me","number","hands","room"]
theorem we:aG ["self","me","number","hands","room"] FF (av i7):=fq
variable{mQ:Ye}{kz:YE}(ig:∅ 4 mQ kz DL (kg K))(ip:Binds K kz DL [])(uE:Mk K c5 mQ)
include eV ig ip aU aX uE in
theorem vG(F:bN K "__init__" "Page.__init__" i7 f fd):∅ 6 f fd FF (l9 K mg):=by
 refine F.oj we ?_;rintro _ A _ s H _ _ _ hr _ _ _ ⟨p,me,nu,ha,ro,rfl,h⟩;refine⟨_,(aj (cM (K:=K) rfl (pv 0) (pv 1) rfl)
   (aj (cM (K:=K) rfl (pv 0) (pv 2) rfl)
   (aj (cM (K:=K) rfl (pv 0) (pv 3) rfl)
   (aj (cM (K:=K) rfl (pv 0) (pv 4) rfl)
   (aj (cM (K:=K) rfl (pv 0) az rfl)
   (aj (cM (K:=K) rfl (pv 0) qP rfl)
   (aj (cM (K:=K) rfl (pv 0) (d5 ai) rfl)
   (aj (cM (K:=K) rfl (pv 0) E6 rfl)
   (aj (cM (K:=K) rfl (pv 0) (d5 ai) rfl)
   (aj (cM (K:=K) rfl (pv 0) (ri uE ig hr rfl aX ip .nil oF (aa (pv 3) ai)) rfl)
   (ax (cM (K:=K) rfl (pv 0) (ri uE ig hr rfl aX ip .nil oF (aa (pv 3) ai)) rfl)))))))))))),?_⟩
 obtain⟨C,dx,mP,T,hp,h0,h1,m0,m1,kk⟩:=h;obtain⟨cl,n1,n2,n3,n4,n5,n6,n7,n8,n9,n10,n11⟩:=id T;cbv;intro H1 b1 g1;cbv;intro H2 b2 g2;cbv;intro H3 b3 g3;cbv;intro H4 b4 g4;cbv;intro H5 b5 g5;have k5:∀b o,H b=Ya o->b≠p->H5 b=Ya o:=λb o e n=>b5.at n (b4.at n (b3.at n (b2.at n (b1.at n e))));cbv;intro d A1 hd s1 gd;have be:=s1 _ _ g5;cbv;intro H6 b6 g6;cbv;intro t A2 ht s2 gt;have bi:=s2 _ _ g6;cbv;intro H7 b7 g7;cbv;intro k hk;have s3:=aC (o:=.dT []) hk;have gk:(upd H7 k (.dT [])) k=Ya (.dT []):=af;generalize upd H7 k (.dT [])=A3 at s3 gk⊢;have bj:=s3 _ _ g7;cbv;intro H8 b8 g8;cbv;intro o A4 ho s4 go;have bl:=s4 _ _ g8;cbv;intro M b9 g9;have st:∀{A B:Hp},KS p A B->∀b u,A b=Ya u->b≠p->B b=Ya u:=λs b u e n=>s.at n e;have k9:∀b u,H b=Ya u->b≠p->M b=Ya u:=λb u e n=>b9.at n (s4 _ _ (b8.at n (s3 _ _ (b7.at n (s2 _ _ (b6.at n (s1 _ _ (k5 b u e n))))))));have np:∀{a:Ye} {A:Hp} {u:HO},A p=Ya u->A a=Yb->a≠p:=λe n z=>by rw[z]at n;rw[n]at e;cases e
 have j:=np g5 hd;have x:=np g6 ht;have N:=np g7 hk;have ab:=np g8 ho;have y:M d=Ya (.dK []):=b9.at j (s4 _ _ (b8.at j (s3 _ _ (b7.at j (s2 _ _ (b6.at j gd))))));have aZ:M t=Ya (.lst []):=b9.at x (s4 _ _ (b8.at x (s3 _ _ (b7.at x gt))));have a0:M k=Ya (.dT []):=b9.at N (s4 _ _ (b8.at N gk));have a1:M o=Ya (.lst []):=b9.at ab go;have back:∀{a:Ye},a≠p->M a=Yb->H a=none:=fun{a} n e=>by
  cases z:H a with
  |none=>rfl
  |some u=>rw[k9 a u z n]at e;cases e
 have a2:∀{a:Ye},a≠p->H5 a=Yb->H a=none:=fun{a} n e=>by
  cases z:H a with
  |none=>rfl
  |some u=>rw[k5 a u z n]at e;cases e
 have fd:=a2 j hd;have k6:∀b u,H b=Ya u->b≠p->H6 b=Ya u:=λb u e n=>b6.at n (s1 _ _ (k5 b u e n));have k7:∀b u,H b=Ya u->b≠p->H7 b=Ya u:=λb u e n=>b7.at n (s2 _ _ (k6 b u e n));have k8:∀b u,H b=Ya u->b≠p->H8 b=Ya u:=λb u e n=>b8.at n (s3 _ _ (k7 b u e n));have fr:∀{a:Ye} {A:Hp},(∀b u,H b=Ya u->b≠p->A b=Ya u)->a≠p->A a=Yb->H a=none:=fun{a A} kA n e=>by
  cases z:H a with
  |none=>rfl
  |some u=>rw[kA a u z n]at e;cases e
 have ft:=fr k6 x ht;have fk:=fr k7 N hk;have fo:=fr k8 ab ho;cbv;intro q1 e1 A5 ac s5 a3;have ad:=s5 _ _ g9;refine⟨q1,ha,rfl,_,e1,aU,a3,h0,h1,λA6 da ra as gq a4 a5 au D aw=>⟨rfl,?_⟩⟩;have O:q1≠p:=np g9 ac;have aA:=as _ _ ad (Ne.symm O);cbv;intro l Q ae;have R:∀b u,M b=Ya u->b≠p->b≠q1->l b=Ya u:=λb u e n1 n2=>Q.at n1 (as _ _ (s5 _ _ e) n2);cbv;intro q2 e2 A7 ag Y a6;have E:=Y _ _ ae;refine⟨q2,ha,rfl,_,e2,aU,a6,h0,h1,λA8 db rb aB a7 ba bb aD c G=>⟨rfl,?_⟩⟩;have ah:q2≠p:=np ae ag;have al:=aB _ _ E (Ne.symm ah);cbv;intro v S aE;rw[Qb]at aE;have U:∀b u,l b=Ya u->b≠p->b≠q2->v b=Ya u:=λb u e n1 n2=>S.at n1 (aB _ _ (Y _ _ e) n2);have W:∀{a u},M a=Ya u->a≠q1:=λe z=>by rw[z,ac]at e;cases e
 have X:∀{a u},l a=Ya u->a≠q2:=λe z=>by rw[z,ag]at e;cases e
 have up:∀{a u},M a=Ya u->a≠p->v a=Ya u:=fun{a u} e n=>by
  have aI:=R _ _ e n (W e);exact U _ _ aI n (X aI)
 have am:da≠p:=λz=>by rw[z,ad]at D;cases D
 have aK:db≠p:=λz=>by rw[z,E]at c;cases c
 have Z:l q1=Ya (.ins _ _ [("learnt",.ref da)]):=Q.at O gq;have aM:=U _ _ Z O (X Z);have g:l da=Ya (.dK (dG ra)):=Q.at am a4;have an:=U _ _ g am (X g);have bd:∀{A B:Hp} {rs:List (Int×V)} {tb:List (Int×List (Int×Int))},sG A rs tb->(∀r m,A r=Ya (.dK (dI m))->B r=Ya (.dK (dI m)))->sG B rs tb:=λh k=>gH k h;have I:sG l ra _:=gH (λr m e=>Q.at (λz=>by rw[z,aA]at e;cases e) e) a5;have ao:sG v ra _:=gH (λr m e=>U _ _ e (λz=>by rw[z,ae]at e;cases e) (X e)) I;have ap:sG v rb _:=gH (λr m e=>S.at (λz=>by rw[z,al]at e;cases e) e) bb;have aq:v db=Ya (.dK (dG rb)):=S.at aK ba;have ar:=S.at ah a7;have aR:(((GB.hl ha).map λh=>(h,([]:List (Int×Int)))).map (·.1))=GB.hl ha:=by
  rw[rl];exact ada _
 have aS:∀e∈((GB.hl ha).map λh=>(h,([]:List (Int×Int)))),Td e.2:=λe he=>by
  obtain⟨h,_,rfl⟩:=YA.mp he;exact Td.nil
 have kA:mi K mg v q1 da ra ((GB.hl ha).map λh=>(h,[])):=⟨⟨_,_,aX,aM⟩,an,ao,by rw[aR];exact RG ha,aS,au⟩;have kB:mi K mg v q2 db rb ((GB.hl ha).map λh=>(h,[])):=⟨⟨_,_,aX,ar⟩,aq,ap,by rw[aR];exact RG ha,aS,aD⟩;have aT:∀{a:Ye},A5 a=Yb->M a=none:=λe=>s5.free e;have aW:∀{a:Ye},A7 a=Yb->l a=none:=λe=>Y.free e;have J:∀{a:Ye},a≠p->l a=Yb->H a=none:=fun{a} n e=>by
  cases z:H a with
  |none=>rfl
  |some u=>
   have e9:=k9 a u z n;rw[R _ _ e9 n (W e9)]at e;cases e
 refine kk v ⟨d,t,k,o,q1,da,q2,db,ra,rb⟩ (λb u e n=>up (k9 b u e n) n) ⟨⟨C,dx,mP,T,aE⟩,up y j,Td.nil,up aZ x,(λq L=>nomatch L),up a0 N,(λq L=>nomatch L),.nil,(λq L=>nomatch L),⟨[],up a1 ab,.nil⟩,kA,kB,?_,⟨?_,?_,?_⟩,λq L=>?_,⟨m0,m1⟩,⟨h0,h1⟩⟩ λa ha=>?_
 ·intro z;have z:t=o:=z;have:H8 o=Ya (.lst []):=by rw[←z];exact b8.at x (s3 _ _ (b7.at x gt))
  rw[ho]at this;cases this
 ·intro z;have z:d=da:=z;rw[←z,s5 _ _ y]at D;cases D
 ·intro z;have z:d=db:=z;rw[←z,Y _ _ (R _ _ y j (W y))]at c;cases c
 ·intro z;have z:da=db:=z;rw[←z,Y _ _ g]at c;cases c
 ·rcases YD.mp L with z|z
  ·refine⟨λw=>?_,au q z,λw=>?_⟩
   ·have:=aw q z _ w;rw[s5 _ _ y]at this;cases this
   ·obtain⟨i,hi⟩:=YJ z;obtain⟨_,r,_,_,aY,e3⟩:=kQ I hi;rw[w]at aY;cases aY;rw[Y _ _ e3]at c;cases c
  ·refine⟨λw=>?_,λw=>?_,aD q z⟩
   ·have:=G q z _ w;rw[Y _ _ (R _ _ y j (W y))]at this;cases this
   ·have:=G q z _ w;rw[Y _ _ g]at this;cases this
 ·rcases YD.mp ha with z|z
  ·simp only[Ym,xu,or_false]at z;rcases z with rfl|rfl|rfl|rfl|rfl|rfl|rfl|rfl|rfl
   ·exact .inl rfl
   ·exact .inr fd
   ·exact .inr ft
   ·exact .inr fk
   ·exact .inr fo
   ·exact .inr (back O ac)
   ·exact .inr (back am (aT D))
   ·exact .inr (J ah ag)
   ·exact .inr (J aK (aW c))
  ·rcases YD.mp z with z|z
   ·obtain⟨q,L,e⟩:=dw.mp z;have n:=aw q L _ e;exact .inr (back (λw=>by rw[w,ad]at n;cases n) (aT n))
   ·obtain⟨q,L,e⟩:=dw.mp z;have n:=G q L _ e;exact .inr (J (λw=>by rw[w,E]at n;cases n) (aW n))
noncomputable abbrev i6:Y4:=bD (fm 15) 0
noncomputable abbrev gO:Y4:=bD (fm 46) 1
noncomputable abbrev pZ:Y4:=bD (fm 46) 2
noncomputable abbrev gS:Y4:=bD (fm 46) 3
noncomputable abbrev qc:Y4:=bD (fm 46) 6
def mN(K:Yc):Sp:=λd H Q _=>∃(p:Ye) (a b:V),d=[.ref p,a,b]/\∃C,ON K C/\gf K (.ref C) "many"=Ya Yb/\gf K (.ref C) "room"=Ya Yb/\H p=Ya (xM p C Yb)/\
 ∀c e,(∀b o,H b=Ya o->b≠p->c b=Ya o)->c p=Ya (xM p C (Ya e))->Q .non c
abbrev DG:List Yp:=["self","many","room"]
theorem vU:aG ["self","many","room"] DG (av i6):=fq
include eV in
theorem vE(F:bN K "__init__" "Held.__init__" i6 f fd):∅ 1 f fd DG (mN K):=by
 refine F.oj vU ?_;rintro _ _ _ _ _ _ _ _ _ _ _ _ ⟨p,a,b,rfl,h⟩;refine⟨_,(aj (HR (K:=K) rfl (pv 0) (pv 1) rfl)
   (ax (HR (K:=K) rfl (pv 0) (pv 2) rfl))),?_⟩
 obtain⟨C,d,i,j,hp,k⟩:=h;cbv;refine Nz ?_;cbv;refine⟨p,C,rfl,d,i,.inl ⟨hp,λc hd nd=>?_⟩⟩;cbv;refine Nz ?_;cbv;refine⟨p,C,rfl,d,j,.inr ⟨c,_,af,by rw[ak nd,af],by show(1:Nat)<1000;decide,?_⟩⟩;refine k _ c (λb o e n=>?_) (by rw[ak (Ne.symm nd),af]);have g:b≠c:=λz=>by rw[z,hd]at e;cases e
 rw[ak g,ak n,ak g];exact e
def Vg(tb:List (Int×List (Int×Int)))(j:List (Int×Int)):Prop:=Td j/\∀k,Gf (tb.map (·.2)) k (ct j k)
def jx(K:Yc)(mg:Yp->Option Yd):Sp:=λc H Q E=>∃(p:Ye),c=[.ref p]/\∃S x,hU K mg H p S x/\S.ta≠[]/\S.ta.length<=10/\
 (∀a j,aJ H a->Vg S.ta j->S.ma-ct j S.me<S.ro->Q .non a)/\∀a j b C,aJ H a->Vg S.ta j->¬ (S.ma-ct j S.me<S.ro)->mg "Held"=Ya (.ref C)->H b=Yb->E (.ref b) (Ya C) a
theorem jS:aG ["self","held"] aV (av gO):=fq
variable{sg:Ye}{nY:Ye}{bX:Ye}{cj:Ye}{pB:YE}{mC:YE}(iE:∅ 4 sg pB aV (p0 K mg))(iA:Binds K pB aV [])(oO:∅ 3 nY mC DG (mN K))(oM:Binds K mC DG [])(aY:AI K bX)(aW:mg "Page"=Ya (.ref bX))(dh:bE K c5 "floor" sg)(nM:mg "Held"=Ya (.ref cj))(yl:Wi K cj nY [.type "ValueError",.type "Exception",.type "BaseException",.type "object"] "ValueError.__new__")(yh:ON K cj)(yf:∃N up Zc,z9 K cj N up Zc/\up.contains (.type "BaseException")=true)(jk:gf K (.ref cj) "many"=Ya Yb)(jf:gf K (.ref cj) "room"=Ya Yb)
include eV iz bU iE iA oO oM aU aY aX aW dh nM yl yh yf jk jf in
theorem sP(F:bN K "check_room" "Page.check_room" gO f fd):aH P w K mg base (CT P w) 5 f fd aV (jx K mg):=by
 refine F.okX jS (λv H Q E h=>?_) (λy A outer s H v Q E a h=>?_)
 ·obtain⟨p,rfl,_⟩:=h;rfl
 obtain⟨p,rfl,h⟩:=h;have n:=a.units;have B:=a.units0;have hu:=Ij a;refine⟨_,(aj (bc (i:=1) jS.nd rfl (Or.inl rfl) (a8 zN (aL (K:=K) rfl (pv 0) rfl) (bg iz bU a (aa (bp (bT.cons aU.cl dh iE iA bT.nil) (aL (K:=K) rfl (pv 0) rfl) a) (aa (aL (K:=K) rfl (pv 0) rfl) ai)))))
   (ax (eF (br Dd (pv 1) (aL (K:=K) rfl (pv 0) rfl) (bC _)) (ax (JZ (Om PySem.F.excBase_ValueError yl oO a (by rfl) nM oM (aa (pv 1) (aa (aL (K:=K) rfl (pv 0) rfl) ai))))) cg))),?_⟩
 obtain⟨S,x,PA,k,h10,D,G⟩:=h;obtain⟨C,R,U,T,hp⟩:=PA.ob;obtain⟨cl,n1,n2,n3,n4,n5,n6,n7,n8,n9,n10,n11⟩:=id T;obtain⟨⟨V,I,r,h1⟩,_⟩:=id PA.ta;rw[aX]at r;cases r;have W:=aU.cl;have X:=aU.n1;cbv;refine⟨x.ta,rfl,x.da,x.ra,S.ta,PA.ta,k,h10,λY q j c Z J t u=>?_⟩;have L:=c _ _ hp;cbv;refine⟨q,j,S.me,rfl,.inl J,?_⟩;cbv;refine dP (λz=>?_) λz=>?_
 ·have z:S.ro<=S.ma-ct j S.me:=of_decide_eq_true z;cbv;refine NL ?_;refine Q0 ?_;cbv;refine⟨by show(2:Nat)<=YB;decide,λd g=>?_⟩;refine⟨d,_,_,rfl,_,yh,jk,jf,af,λM d2 l N=>⟨rfl,?_⟩⟩;have O:aJ H (OK M d):=λb o e=>by
   have m:b≠d:=λw=>by rw[←w,c _ _ e]at g;cases g
   rw[BM m];exact l b o (by rw[ak m];exact c _ _ e) m
  exact⟨d,_,_,rfl,N,yf,c.free g,G _ j d _ O ⟨t,u⟩ (by omega) nM (c.free g)⟩
 ·have z:¬ S.ro<=S.ma-ct j S.me:=λw=>z (decide_eq_true w);exact D _ j c ⟨t,u⟩ (by omega)
def nR(K:Yc)(mg:Yp->Option Yd):Sp:=λb H Q _=>∃(p:Ye) (v:V),b=[.ref p,v]/\∃S x c,hU K mg H p S x/\f7 K mg H v c/\eD c∉S.kp.map (λq=>eD q.2)/\0<=c.c/\c.c<63/\S.kp.length<=900/\
 ∀a,Off [x.k] H a->hU K mg a p {S with kp:=S.kp++[(v,c)]} x->Q .non a
theorem BZ{k:List bR}(h:k∉kvs.map (·.1)):hJ kvs k v=kvs++[(k,v)]:=by
 unfold hJ;rw[if_neg];intro z;obtain⟨e,a,b⟩:=ab0.mp z;exact h (YA.mpr ⟨e,a,of_decide_eq_true b⟩)
theorem Off.kpf1(o:Off [a] H H')(e:H a=Ya u)(f:U5 u):nQ H H':=iF o λb c=>by
 rw[Yi.mp c];exact⟨u,e,f⟩
theorem IS{v:HO}(h:H a=Ya u)(h':H b=Ya v)(d:u≠v):a∉[b]:=λz=>bM h h' d (Yi.mp z)
theorem hU.setk{x:CW}(h:hU K mg H p S x)(o:Off [x.k] H H')(j:H' x.k=Ya (.dT (Zi.map CU)))(kc:∀q∈Zi,f7 K mg H' q.1 q.2)(kn:(Zi.map λq=>eD q.2).Nodup)(kr:∀q∈Zi,0<=q.2.c/\q.2.c<63):hU K mg H' p {S with kp:=Zi} x:=by
 have f:nQ H H':=o.kpf1 h.kp trivial;obtain⟨C,l,m,b,hp⟩:=h.ob;obtain⟨s,ho,hn⟩:=h.od;obtain⟨⟨G,I,J,t⟩,v,w,_⟩:=id h.ta;obtain⟨⟨L,M,N,y⟩,A,B,_⟩:=id h.ab;have rw:∀{rs:List (Int×V)} {g:List (Int×List (Int×Int))},sG H rs g->∀r∈rwa rs,r∉[x.k]:=fun{rs g} R r D=>by
  obtain⟨q,c,e⟩:=dw.mp D;obtain⟨i,E⟩:=YJ c;obtain⟨_,O,_,_,b,F⟩:=kQ R E;rw[e]at b;cases b;exact IS F h.kp (by intro z;cases z)
 have n:=fun{a:Ye} {u:HO} (e:H a=Ya u) (d:∀k,u≠.dT k)=>o a u e (IS e h.kp (d _));exact⟨⟨C,l,m,b,n hp (by intro _ z;cases z)⟩,n h.dn (by intro _ z;cases z),h.td,n h.tk (by intro _ z;cases z),λq c=>(h.tc q c).kpf f,j,kc,kn,kr,⟨s,n ho (by intro _ z;cases z),hn.up f.smh⟩,
  iT h.ta o (IS t h.kp (by intro z;cases z)) (IS v h.kp (by intro z;cases z)) (rw w),iT h.ab o (IS y h.kp (by intro z;cases z)) (IS A h.kp (by intro z;cases z)) (rw B),h.to,h.dd,h.rr,h.me,h.ha⟩
abbrev qK:List Yp:=["self","call"]
theorem Bx:aG ["self","call"] qK (av pZ):=fq
variable(gX:∅ 1 eZ gZ aV (cX K))
include eV gX bz ao aA aB aY aw aD aE aW aZ bu bw in
theorem BH(F:bN K "keep" "Page.keep" pZ f fd):∅ 2 f fd qK (nR K mg):=by
 refine F.oj Bx ?_;rintro _ _ _ _ H _ Q _ D _ _ hu ⟨p,v,rfl,h⟩;refine⟨_,(ax (q5 hu (aL (K:=K) rfl (pv 0) rfl) (bp (bT.cons aB.cl bw gX bz (bT.cons ao.cl aZ gX bz (bT.cons aA.cl bu gX bz bT.nil))) (pv 1) D) (pv 1) rfl)),?_⟩;obtain⟨S,x,c,PA,y,hn,c0,c1,hl,E⟩:=h;obtain⟨C,M,N,T,hp⟩:=PA.ob;obtain⟨cl,n1,n2,n3,n4,n5,n6,n7,n8,n9,n10,n11⟩:=id T;have O:=PA.kp;obtain⟨pc,R,i,t,U,rfl,G,n,j,W,I,J⟩:=id y;have tail:∀d tn,aJ H d->d tn=Ya (.tup [.int c.n,.int c.c,.int c.k])->∃a A,V.ref x.k=.ref a/\Ab d a (.ref tn) (.ref pc) A/\Q .non A:=λd tn g l=>by
  have m:=PA.same g;refine⟨x.k,_,rfl,Ab.t (k:=eD c) m.kp l (aF (by rw[Yf];omega)),?_⟩;rw[BZ (by rw[rl];exact hn)];have o:Off [x.k] d (upd d x.k (.dT (S.kp.map CU++[(eD c,.ref pc)]))):=λb u e r=>by rw[ak (λz=>r (Yi.mpr z))];exact e
  have B:nQ d _:=o.kpf1 m.kp trivial;refine E _ (λb u e r=>o b u (g _ _ e) r) (m.setk o (by rw[af,Yr];rfl) (λq s=>?_) ?_ λq s=>?_)
  ·rcases YD.mp s with z|z
   ·exact(m.kc q z).kpf B
   ·rw[Yi.mp z];exact(y.up (.same g)).kpf B
  ·rw[Yr,jJ];refine⟨PA.kn,by simp,λa ha b L z=>?_⟩;have:b=eD c:=by simpa using L
   rw[z,this]at ha;exact hn ha
  ·rcases YD.mp s with z|z
   ·exact PA.kr q z
   ·rw[Yi.mp z];exact⟨c0,c1⟩
 cbv;rcases G with⟨_,e⟩|⟨_,e⟩|⟨_,e⟩
 ·rw[aE]at e;cases e;cbv;exact⟨pc,rfl,_,i,_,_,_,_,_,n,j,λd tn g _ l=>tail d tn g l⟩
 ·rw[aw]at e;cases e;cbv;exact⟨pc,rfl,_,i,_,_,_,_,_,n,j,λd tn g _ l=>tail d tn g l⟩
 ·rw[aD]at e;cases e;cbv;exact⟨pc,rfl,_,i,_,_,_,_,_,n,j,λd tn g _ l=>tail d tn g l⟩
def fU(K:Yc)(mg:Yp->Option Yd):Sp:=λc H Q _=>∃(p:Ye),c=[.ref p]/\∃S x,hU K mg H p S x/\S.kp.length<64/\
 ∀a D (b:List (V×bF)),aJ H a->H D=Yb->b.Perm S.kp->wb (S.kp.map λq=>[q.2.c,q.2.k]) (S.kp.map (·.1)) (b.map (·.1))->a D=Ya (.lst (b.map (·.1)))->Q (.ref D) a
theorem Kd{α β:Type}{f:α->β}:∀{l:List α} {ws:List β},ws.Perm (l.map f)->∃zs:List α,zs.Perm l/\zs.map f=ws:=by
 intro l ws h;generalize e:l.map f=m at h
 induction h generalizing l with
 |nil=>exact⟨[],by rw[ab8.mp e],rfl⟩
 |cons x h ih=>
  cases l with
  |nil=>cases e
  |cons a l=>
   rw[YG]at e;obtain⟨d,c⟩:=tq e;obtain⟨zs,p,q⟩:=ih c;exact⟨a::zs,p.cons a,by rw[YG,q,d]⟩
 |swap x y l'=>
  cases l with
  |nil=>cases e
  |cons a l=>
   cases l with
   |nil=>cases e
   |cons b l=>
    rw[YG,YG]at e;obtain⟨d,c⟩:=tq e;obtain⟨c,g⟩:=tq c;exact⟨b::a::l,afJ a b l,by rw[YG,YG,d,c,g]⟩
 |trans h1 h2 ih1 ih2=>
  obtain⟨o,i,j⟩:=ih2 e;obtain⟨zs,k,n⟩:=ih1 j;exact⟨zs,k.trans i,n⟩
theorem Gq{H:Hp}:∀{l:List (V×bF)},(∀q∈l,f7 K mg H q.1 q.2)->Cs K mg H (l.map (·.1)) (l.map (·.2))
 |[],_=>.nil
 |q::l,h=>.cons (h q Yu) (Gq λr a=>h r (Yo _ a))
theorem sD:aG ["self"] aV (av gS):=fq
variable{AH:Ye}{zJ:YE}(q9:∅ 4 AH zJ ["calls"] (zC K mg))(q8:eM K mg "by_rank" AH zJ ["calls"])
include eV q9 q8 gR ao aA aB aY aw aD aE aW in
theorem sX(F:bN K "kept_calls" "Page.kept_calls" gS f fd):∅ 5 f fd aV (fU K mg):=by
 refine F.oj sD ?_;rintro _ _ _ _ H _ _ _ j _ _ _ ⟨p,rfl,h⟩;refine⟨_,(ax (aP (bg q9 q8 j (aa (bZ (FJ rfl) (by rfl) gR aaO (aa (Gy aaE abq ac9 NK (aL (K:=K) rfl (pv 0) rfl)) ai)) ai)))),?_⟩;obtain⟨S,x,PA,hl,k⟩:=h;obtain⟨C,E,G,T,hp⟩:=PA.ob;obtain⟨cl,n1,n2,n3,n4,n5,n6,n7,n8,n9,n10,n11⟩:=id T;have c:=PA.kp;cbv;refine⟨.inr (.inr (.inl ⟨rfl,.inr ⟨_,c⟩⟩)),x.k,_,rfl,rfl,c,λv m=>?_⟩;have a:=aC (o:=IF v x.k) m;have g:(upd H v (IF v x.k)) v=Ya (IF v x.k):=af;generalize upd H v (IF v x.k)=H1 at a g⊢;cbv;refine⟨v,x.k,_,rfl,g,.inl (a _ _ c),by rw[Yf];omega,λl d=>?_⟩;have b:=aC (o:=.lst ((S.kp.map CU).map (·.2))) d;have e:(upd H1 l (.lst ((S.kp.map CU).map (·.2)))) l=Ya (.lst ((S.kp.map CU).map (·.2))):=af;generalize upd H1 l (.lst ((S.kp.map CU).map (·.2)))=H2 at b e⊢;rw[rl]at e;have n:=PA.same (a.trans b);have q:=Gq n.kc;cbv;refine⟨l,rfl,S.kp.map (·.1),S.kp.map (·.2),a9.of e,q,by rw[Yf];exact hl,λr D s t u y od i=>?_⟩;obtain⟨z,A,B⟩:=Kd y;rw[←B]at od i;rw[rl]at od;exact k r D z (a.trans (b.trans t)) (a.free (b.free u)) A od i
def tR(K:Yc)(mg:Yp->Option Yd):Sp:=λb H Q _=>∃(p:Ye) (v:V),b=[.ref p,v]/\∃S x c,hU K mg H p S x/\f7 K mg H v c/\0<=c.c/\c.c<63/\0<c.k/\S.tk.length<=900/\
 ∀a,Off [x.d,x.t] H a->hU K mg a p {S with dn:=dU S.dn c.c c.k,tk:=S.tk++[(v,c)]} x->Q .non a
theorem hU.setdt{x:CW}{d:List (Int×Int)}{f:List (V×bF)}(h:hU K mg H p S x)(o:Off [x.d,x.t] H H')(t:H' x.d=Ya (.dK (dI d)))(td:Td d)(u:H' x.t=Ya (.lst (f.map (·.1))))(tc:∀q∈f,f7 K mg H' q.1 q.2):hU K mg H' p {S with dn:=d,tk:=f} x:=by
 have j:nQ H H':=iF o λb k=>by
  simp only[Ym,xu,or_false]at k;rcases k with rfl|rfl
  ·exact⟨_,h.dn,trivial⟩
  ·exact⟨_,h.tk,trivial⟩
 obtain⟨C,v,w,g,hp⟩:=h.ob;obtain⟨y,ho,hn⟩:=h.od;obtain⟨⟨J,L,M,l⟩,A,B,_⟩:=id h.ta;obtain⟨⟨N,O,P,m⟩,D,E,_⟩:=id h.ab;have n:∀{a:Ye},a≠x.d->a≠x.t->a∉[x.d,x.t]:=λn1 n2 z=>by
  simp only[Ym,xu,or_false]at z;exact z.elim n1 n2
 have rw:∀{rs:List (Int×V)} {s:List (Int×List (Int×Int))},sG H rs s->(∀q∈rs,q∈x.ra++x.rb)->∀r∈rwa rs,r∉[x.d,x.t]:=fun{rs s} R sub r F=>by
  obtain⟨q,c,e⟩:=dw.mp F;obtain⟨i,G⟩:=YJ c;obtain⟨_,Q,_,_,g,I⟩:=kQ R G;rw[e]at g;cases g;exact n (λz=>(h.rr q (sub q c)).1 (by rw[e,z])) (bM I h.tk (by intro z;cases z))
 refine⟨⟨C,v,w,g,o _ _ hp (n (bM hp h.dn (by intro z;cases z)) (bM hp h.tk (by intro z;cases z)))⟩,t,td,u,tc,o _ _ h.kp (n (bM h.kp h.dn (by intro z;cases z)) (bM h.kp h.tk (by intro z;cases z))),λq c=>(h.kc q c).kpf j,h.kn,h.kr,⟨y,o _ _ ho (n (bM ho h.dn (by intro z;cases z)) (Ne.symm h.to)),hn.up j.smh⟩,
  iT h.ta o (n (bM l h.dn (by intro z;cases z)) (bM l h.tk (by intro z;cases z))) (n (Ne.symm h.dd.1) (bM A h.tk (by intro z;cases z))) (rw B λq c=>YY _ c),
  iT h.ab o (n (bM m h.dn (by intro z;cases z)) (bM m h.tk (by intro z;cases z))) (n (Ne.symm h.dd.2.1) (bM D h.tk (by intro z;cases z))) (rw E λq c=>YK _ c),h.to,h.dd,h.rr,h.me,h.ha⟩
theorem CM:aG ["self","call"] qK (av qc):=fq
include eV ao aA aB aY aw aD aE aW in
theorem B8(F:bN K "take" "Page.take" qc f fd):∅ 1 f fd qK (tR K mg):=by
 refine F.oj CM ?_;rintro _ _ _ _ H _ _ _ _ _ _ hu ⟨p,v,rfl,h⟩;refine⟨_,(aj (q5 hu (aL (K:=K) rfl (pv 0) rfl) (aL (K:=K) rfl (pv 1) rfl) (aL (K:=K) rfl (pv 1) rfl) rfl)
   (ax (dC (ny (K:=K) rfl (D9 abC ab1 ab3 mL (aL (K:=K) rfl (pv 0) rfl) (aa (pv 1) ai)))))),?_⟩
 obtain⟨S,x,c,PA,l,c0,c1,s,hl,y⟩:=h;obtain⟨C,Q,R,T,hp⟩:=PA.ob;obtain⟨cl,n1,n2,n3,n4,n5,n6,n7,n8,n9,n10,n11⟩:=id T;obtain⟨pc,U,A,t,V,rfl,W,B,D,X,E,G⟩:=id l;obtain⟨I,Y,Z,m3,m4,m5⟩:=id B;have a:=PA.dn;have nd:=PA.td.nd;have ld:=PA.td.toCk.len;have d:=PA.tk;have ls:(S.tk.map (·.1)).length<YB:=aF (by rw[Yf];omega);cbv;intro H1 g J;have L:=g.of a hp (by intro z;cases z);have M:=g.of a d (by intro z;cases z);cbv;intro i m N;have j:x.d≠x.t:=bM a d (by intro z;cases z);have k:Off [x.d,x.t] H i:=λb u e n=>m.at (λz=>n (by rw[z];simp)) (g.at (λz=>n (by rw[z];simp)) e);have o:nQ H i:=iF k λb r=>by
  simp only[Ym,xu,or_false]at r;rcases r with rfl|rfl
  ·exact⟨_,a,trivial⟩
  ·exact⟨_,d,trivial⟩
 refine y i k (PA.setdt k (m.at j J) (F9 PA.td c0 c1 s) (by rw[N,Yr];rfl) λq O=>?_);rcases YD.mp O with z|z
 ·exact(PA.tc q z).kpf o
 ·rw[Yi.mp z];exact l.kpf o
noncomputable abbrev lQ:Y4:=bD (fm 46) 7
noncomputable def yw(j:List (Int×Int))(l:List (V×bF)):List (V×bF):=l.filter λq=>!decide (q.2.k<=ct j q.2.c)
def pG(K:Yc)(mg:Yp->Option Yd):Sp:=λd H Q _=>∃(p:Ye),d=[.ref p]/\∃S x,hU K mg H p S x/\S.ta≠[]/\S.ta.length<=10/\S.kp.length<=60/\
 ∀b c j,Off [p,x.k] H b->(∀a,b a=Yb->H a=Yb)->H c=Yb->Vg S.ta j->hU K mg b p {S with kp:=yw j S.kp} {x with k:=c}->Q .non b
theorem JT{ps:List (List bR×V)}(h:(ps.map (·.1)).Nodup):ju ps=ps:=by
 have go:∀(ps a:List (List bR×V)),((a++ps).map (·.1)).Nodup->ps.foldl (λa p=>hJ a p.1 p.2) a=a++ps:=by
  intro ps
  induction ps with
  |nil=>intro a _;rw[Y1];rfl
  |cons p ps ih=>
   intro a hn;rw[abn,BZ,ih]
   ·rw[RW];rfl
   ·rw[RW];exact hn
   ·rw[Yr,jJ]at hn;exact λz=>hn.2.2 _ z _ (by simp) rfl
 exact go ps [] h
theorem hU.newk{x:CW}{f:Ye}(h:hU K mg H p S x)(o:Off [p,x.k] H H')(ob:∃C d,mg "Page"=Ya (.ref C)/\AI K C/\H' p=Ya (.ins C d (qW (.int S.me) (.int S.nu) (.int S.ha) (.int S.ro) (.int S.ma) (.ref x.d) (.ref x.t) (.ref f) (.ref x.o) (.ref x.ta) (.ref x.ab))))(v:H' f=Ya (.dT (Zi.map CU)))(kn:(Zi.map λq=>eD q.2).Nodup)(sub:∀q∈Zi,q∈S.kp):hU K mg H' p {S with kp:=Zi} {x with k:=f}:=by
 obtain⟨C,d,L,g,hp⟩:=h.ob;have j:nQ H H':=iF o λb l=>by
  simp only[Ym,xu,or_false]at l;rcases l with rfl|rfl
  ·exact⟨_,hp,by show(11:Nat)≠5;decide⟩
  ·exact⟨_,h.kp,trivial⟩
 obtain⟨w,ho,hn⟩:=h.od;obtain⟨⟨M,m,N,y⟩,A,B,_⟩:=id h.ta;obtain⟨⟨O,s,P,D⟩,E,F,_⟩:=id h.ab;have n:∀{a:Ye} {u:HO},H a=Ya u->(∀k,u≠.dT k)->(∀C d fs,u=.ins C d fs->fs.length≠11)->a∉[p,x.k]:=λe m s z=>by
  simp only[Ym,xu,or_false]at z;rcases z with rfl|rfl
  ·rw[hp]at e;cases e;exact s _ _ _ rfl rfl
  ·rw[h.kp]at e;cases e;exact m _ rfl
 have rw:∀{rs:List (Int×V)} {t:List (Int×List (Int×Int))},sG H rs t->∀r∈rwa rs,r∉[p,x.k]:=fun{rs t} R r G=>by
  obtain⟨q,c,e⟩:=dw.mp G;obtain⟨i,I⟩:=YJ c;obtain⟨_,Q,_,_,g,J⟩:=kQ R I;rw[e]at g;cases g;exact n J (by intro _ z;cases z) (by intro _ _ _ z;cases z)
 refine⟨ob,o _ _ h.dn (n h.dn (by intro _ z;cases z) (by intro _ _ _ z;cases z)),h.td,o _ _ h.tk (n h.tk (by intro _ z;cases z) (by intro _ _ _ z;cases z)),λq c=>(h.tc q c).kpf j,v,λq c=>(h.kc q (sub q c)).kpf j,kn,λq c=>h.kr q (sub q c),⟨w,o _ _ ho (n ho (by intro _ z;cases z) (by intro _ _ _ z;cases z)),hn.up j.smh⟩,
  iT h.ta o (n y (by intro _ z;cases z) (by intro _ _ _ z;cases z;show(1:Nat)≠11;decide)) (n A (by intro _ z;cases z) (by intro _ _ _ z;cases z)) (rw B),iT h.ab o (n D (by intro _ z;cases z) (by intro _ _ _ z;cases z;show(1:Nat)≠11;decide)) (n E (by intro _ z;cases z) (by intro _ _ _ z;cases z)) (rw F),h.to,h.dd,h.rr,h.me,h.ha⟩
theorem qp:aG ["self","floor"] aV (av lQ):=fq
variable(mE:∅ 4 iN f9 He (gi K))
include eV mE c6 iE iA pj ao aU aA aB aY aw aX aD aE aW dh in
theorem yo(F:bN K "let_go" "Page.let_go" lQ f fd):∅ 5 f fd aV (pG K mg):=by
 refine F.oj qp ?_;rintro _ A _ _ H _ _ _ hr I _ hu ⟨p,rfl,h⟩;refine⟨_,(aj (bc (i:=1) qp.nd rfl (Or.inr rfl) (bp (bT.cons aU.cl dh iE iA bT.nil) (aL (K:=K) rfl (pv 0) rfl) hr))
   (ax (cM (K:=K) rfl (pv 0) (bZ (wD rfl (ace (acS (by decide) _) I)) (by rfl) pj acj (aa (bS ["floor","name","call"] [Ya 1,Yb,Yb] rfl rfl (by kernel_rfl) (JL (aL (K:=K) rfl (pv 0) rfl)) (λ_ _ _ _ _ nd=>kM (K:=K) (n:=2) rfl rfl (cH (aQ (i:=1) nd rfl (Or.inl rfl)) (cH (aQ (i:=2) nd rfl (Or.inl rfl)) kT))) (λ_ _ _ _ _=>(dA (vF (dS K rfl (bg mE c6 hr (aa (pv 0) (aa (pv 1) ai))))))) (λ_ _ _ _ _=>(cF (aa (pv 1) (aa (pv 2) ai))))) ai)) rfl))),?_⟩
 obtain⟨S,x,PA,X,h10,hl,kk⟩:=h;obtain⟨C,dx,mP,T,hp⟩:=PA.ob;obtain⟨cl,n1,n2,n3,n4,n5,n6,n7,n8,n9,n10,n11⟩:=id T;obtain⟨⟨C1,ag,G,h1⟩,_⟩:=id PA.ta;rw[aX]at G;cases G;have tK:=aU.cl;have nL:=aU.n1;cbv;refine⟨x.ta,rfl,x.da,x.ra,S.ta,PA.ta,X,h10,λH1 Y j R ah g1 tj mn=>?_⟩;have al:=R _ _ hp;have P1:=PA.same R;have J:=P1.kp;cbv;refine Np J λo A Z sA=>?_;intro D hD;have ab:Y≠x.k:=bM g1 J (by intro z;cases z);refine Eu (λi σ B=>∃v1 v2 r,σ=[Ya (.ref Y),v1,v2]/\aJ A B/\B D=Ya (.lst r)/\r.length<=i/\E8 B r ((yw j (S.kp.take i)).map CU)) ⟨Yb,Yb,[],rfl,aC hD,af,Yl _,.nil⟩ ?_ ?_ ?_
 ·rintro i σ B _ ⟨_,_,_,_,z,_⟩;exact z _ _ Z
 ·rintro i k v t b σ B B1 g ⟨v1,v2,r,rfl,s,gD,ly,L⟩ ht d gt gb;obtain⟨q,M,e⟩:∃q,S.kp[i]?=Ya q/\CU q=(k,v):=by
   rw[Yy]at g;cases z:S.kp[i]? with
   |none=>rw[z]at g;cases g
   |some q=>rw[z]at g;exact⟨q,rfl,YF g⟩
  cases e;have hi:=(Yh.mp M).1;have N:B1 b=Ya (.tup [.int q.2.n,.int q.2.c,.int q.2.k]):=d _ _ gb;have ac:=d _ _ (s _ _ (sA _ _ ab g1));have O:=d _ _ gD;have st:bJ K B1 t [.ref b,q.1]:=bJ.of gt;cbv;refine⟨Y,b,rfl,j,_,_,_,.inl ac,bJ.of N,?_⟩;cbv;refine dP (λz=>?_) λz=>?_
  ·have z:¬ q.2.k<=ct j q.2.c:=by simpa using z
   cbv;intro u B2 hu U g2;have Q:=U _ _ O;have kp:de B2 (upd B2 D (.lst (r++[V.ref u]))):=de.lst Q;refine⟨r,Q,aF (by omega),_,_,r++[.ref u],rfl,λc o e=>?_,af,by rw[Yq];exact aau ly,?_⟩
   ·rw[ak (ay e hD)];exact U _ _ (d _ _ (s c o e))
   ·have G:yw j (S.kp.take (i+ 1))=yw j (S.kp.take i)++[q]:=by
     unfold yw;rw[aN M,YS];congr 1;simp[z]
    rw[G,Yr];exact Bu (Co (λa xs e=>kp _ _ (U _ _ (d _ _ e))) L) ⟨u,b,rfl,kp _ _ g2,kp _ _ (U _ _ N)⟩
  ·have z:q.2.k<=ct j q.2.c:=by simpa using z
   have G:yw j (S.kp.take (i+ 1))=yw j (S.kp.take i):=by
    unfold yw;rw[aN M,YS];simp[z]
   refine⟨_,_,r,rfl,s.trans d,O,acr ly,?_⟩;rw[G];exact Co (λa xs e=>d _ _ e) L
 rintro σ B ⟨v1,v2,r,rfl,s,gD,ly,L⟩;rw[Yf,YI]at L;cbv;have nk:((yw j S.kp).map λq=>eD q.2).Nodup:=PA.kn.sublist (List.Sublist.map _ ab7);have lk:=YQ (λq:V×bF=>!decide (q.2.k<=ct j q.2.c)) S.kp;refine⟨D,r,_,rfl,gD,L,by rw[Yf];unfold yw;omega,λy l=>?_⟩;have em:ju ((yw j S.kp).map CU)=(yw j S.kp).map CU:=JT (by rw[rl];exact nk);rw[em];have s3:=aC (o:=.dT ((yw j S.kp).map CU)) l;have g3:(upd B y (.dT ((yw j S.kp).map CU))) y=Ya (.dT ((yw j S.kp).map CU)):=af;generalize upd B y (.dT ((yw j S.kp).map CU))=H3 at s3 g3⊢;have E:Off [x.k] H H3:=λb u e W=>s3 _ _ (s _ _ (sA _ _ (λz=>W (Yi.mpr z)) (R _ _ e)));have am:=E _ _ hp (IS hp PA.kp (by intro z;cases z));cbv;intro H4 b4 g4;rw[F4]at g4;have m:Off [p,x.k] H H4:=λb u e W=>b4.at (λz=>W (by rw[z];simp)) (E b u e (λz=>W (by rw[Yi.mp z];simp)));have fk:H y=none:=R.free (by
  cases z:H1 y with
  |none=>rfl
  |some u=>
   by_cases w:y=x.k
   ·rw[w,s _ _ Z]at l;cases l
   ·rw[s _ _ (sA _ _ w z)]at l;cases l)
 have ad:y≠p:=λz=>by rw[z,hp]at fk;cases fk
 have ae:∀a,H4 a=Yb->H a=none:=λa e=>by
  cases z:H a with
  |none=>rfl
  |some u=>
   by_cases w:a=p
   ·rw[w,g4]at e;cases e
   ·by_cases v:a=x.k
    ·rw[v]at e w;rw[b4.at w (s3 _ _ (s _ _ Z))]at e;cases e
    ·rw[m a u z (by simp[w,v])]at e;cases e
 refine kk H4 y j m ae fk ⟨tj,mn⟩ (PA.newk m ⟨C,dx,mP,T,g4⟩ (b4.at ad g3) nk λq M=>(YU.mp M).1)
theorem UI(u:KP (ws.zip cs))(h:Pw ws cs m ns Zv gs m'):gs.length+ mz cs m'<=ns.length+ mz cs m:=by
 induction h with
 |start r=>have:=Ec r;omega
 |@step Zv rw gs m1 m2 q j p la fo rn ih=>
  have a:=Ec rn;have b:=HL u la fo rn;rw[Yq,Y6];have:(gs.take j).length<=gs.length:=by rw[mr];omega
  omega
theorem WO{hs:List Int}(h0:∀k,0<=ct m0 k)(h:Fw hs (vf zs) ns m0 rw Zf m):(∀k,0<=ct m k)/\∀q∈rw,q∈zs/\0<q.2.k:=by
 induction h with
 |start=>exact⟨h0,λq a=>nomatch a⟩
 |@step rw Zf m v x f e ih=>
  obtain⟨h,_,c,_⟩:=kH e;obtain⟨d,g,b⟩:=iL c;have b:x.k=ct m h+ 1:=b;have n:=ih.1 h;refine⟨λk=>?_,λq a=>?_⟩
  ·rw[lH];by_cases z:k=x.c
   ·rw[if_pos z];omega
   ·rw[if_neg z];exact ih.1 k
  ·rcases YD.mp a with z|z
   ·exact ih.2 q z
   ·rw[Yi.mp z];refine⟨d,?_⟩;show 0<x.k;omega
theorem V2(h:Rn (zs.map (·.1)) (zs.map (·.2)) m ns rw m'):∀q∈rw,q∈zs/\0<q.2.k:=by
 obtain⟨hs,c,d,_,a,_,f,_⟩:=h;have b:(zs.map (·.1)).zip (zs.map (·.2))=zs:=by
  rw[agi];exact ada zs
 rw[b]at f;exact(WO (λk=>a.toCk.ct k) f).2
def US(tb:List (Int×List (Int×Int)))(h:Int)(m:List (Int×Int))(a:List (Int×List (Int×Int))):Prop:=(tbl tb h=Yb->a=tb)/\∀b,tbl tb h=Ya b->∃j,Td j/\(∀k,Ou [b,m] k (ct j k))/\a=um tb h j
theorem US.keys(l:US tb h m Zs):Zs.map (·.1)=tb.map (·.1):=by
 cases z:tbl tb h with
 |none=>rw[l.1 z]
 |some m0=>
  obtain⟨j,_,_,e⟩:=l.2 m0 z;rw[e,vN]
theorem hU.newo{x:CW}{o':Ye}{ma':Int}{c:List Nm}{b:List V}(h:hU K mg H p S x)(o:Off [p] H H')(ob:∃C f,mg "Page"=Ya (.ref C)/\AI K C/\H' p=Ya (.ins C f (qW (.int S.me) (.int S.nu) (.int S.ha) (.int S.ro) (.int ma') (.ref x.d) (.ref x.t) (.ref x.k) (.ref o') (.ref x.ta) (.ref x.ab))))(go:H' o'=Ya (.lst b))(hn:nv H' b c)(g:x.t≠o'):hU K mg H' p {S with ma:=ma',od:=c} {x with o:=o'}:=by
 obtain⟨C,f,F,j,hp⟩:=h.ob;have k:nQ H H':=o.kpf1 hp (by show(11:Nat)≠5;decide);obtain⟨⟨G,I,J,s⟩,t,v,_⟩:=id h.ta;obtain⟨⟨L,l,M,w⟩,y,A,_⟩:=id h.ab;have n:∀{a:Ye} {u:HO},H a=Ya u->(∀C f fs,u=.ins C f fs->fs.length≠11)->a∉[p]:=λe l z=>by
  rw[Yi.mp z,hp]at e;cases e;exact l _ _ _ rfl rfl
 have rw:∀{rs:List (Int×V)} {m:List (Int×List (Int×Int))},sG H rs m->∀r∈rwa rs,r∉[p]:=fun{rs m} R r B=>by
  obtain⟨q,d,e⟩:=dw.mp B;obtain⟨i,D⟩:=YJ d;obtain⟨_,N,_,_,j,E⟩:=kQ R D;rw[e]at j;cases j;exact n E (by intro _ _ _ z;cases z)
 exact⟨ob,o _ _ h.dn (n h.dn (by intro _ _ _ z;cases z)),h.td,o _ _ h.tk (n h.tk (by intro _ _ _ z;cases z)),λq d=>(h.tc q d).kpf k,o _ _ h.kp (n h.kp (by intro _ _ _ z;cases z)),λq d=>(h.kc q d).kpf k,h.kn,h.kr,⟨b,go,hn⟩,
  iT h.ta o (n s (by intro _ _ _ z;cases z;show(1:Nat)≠11;decide)) (n t (by intro _ _ _ z;cases z)) (rw v),iT h.ab o (n w (by intro _ _ _ z;cases z;show(1:Nat)≠11;decide)) (n y (by intro _ _ _ z;cases z)) (rw A),g,h.dd,h.rr,h.me,h.ha⟩
theorem hU.lrb{x:CW}{c:List (Int×V)}{i:List (Int×List (Int×Int))}(h:hU K mg H p S x)(o:KR x.db H H')(kn:mi K mg H' x.ab x.db c i)(m:∀q∈c,q∈x.rb∨∃r,q.2=.ref r/\H r=Yb):hU K mg H' p {S with ab:=i} {x with rb:=c}:=by
 obtain⟨C,s,t,v,hp⟩:=h.ob;obtain⟨y,ho,hn⟩:=h.od;obtain⟨⟨E,F,G,A⟩,B,I,_⟩:=id h.ta;obtain⟨⟨J,L,M,N⟩,j,O,_⟩:=id h.ab;have of:Off [x.db] H H':=λb u e n=>o b u (λz=>n (Yi.mpr z)) e;have l:nQ H H':=of.kpf1 j trivial;have n:=fun{a:Ye} {u:HO} (e:H a=Ya u) (d:∀k,u≠.dK k)=>of a u e (IS e j (d _));have rr:∀r∈rwa x.ra,r∉[x.db]:=λr D z=>by
  obtain⟨q,f,e⟩:=dw.mp D;exact(h.rr q (YY _ f)).2.2 (by rw[e,Yi.mp z])
 refine⟨⟨C,s,t,v,n hp (by intro _ z;cases z)⟩,o _ _ h.dd.2.1 h.dn,h.td,n h.tk (by intro _ z;cases z),λq f=>(h.tc q f).kpf l,n h.kp (by intro _ z;cases z),λq f=>(h.kc q f).kpf l,h.kn,h.kr,⟨y,n ho (by intro _ z;cases z),hn.up l.smh⟩,
  iT h.ta of (IS A j (by intro z;cases z)) (λz=>h.dd.2.2 (Yi.mp z)) rr,kn,h.to,h.dd,λq f=>?_,h.me,h.ha⟩
 rcases YD.mp f with z|z
 ·exact h.rr q (YY _ z)
 ·rcases m q z with w|⟨r,e,g⟩
  ·exact h.rr q (YK _ w)
  ·rw[e];refine⟨λz=>?_,λz=>?_,λz=>?_⟩
   ·cases z;rw[h.dn]at g;cases g
   ·cases z;rw[B]at g;cases g
   ·cases z;rw[j]at g;cases g
theorem hU.lra{x:CW}{c:List (Int×V)}{i:List (Int×List (Int×Int))}(h:hU K mg H p S x)(o:KR x.da H H')(kn:mi K mg H' x.ta x.da c i)(m:∀q∈c,q∈x.ra∨∃r,q.2=.ref r/\H r=Yb):hU K mg H' p {S with ta:=i} {x with ra:=c}:=by
 obtain⟨C,s,t,v,hp⟩:=h.ob;obtain⟨y,ho,hn⟩:=h.od;obtain⟨⟨E,F,G,I⟩,j,J,_⟩:=id h.ta;obtain⟨⟨L,M,N,A⟩,B,O,_⟩:=id h.ab;have of:Off [x.da] H H':=λb u e n=>o b u (λz=>n (Yi.mpr z)) e;have l:nQ H H':=of.kpf1 j trivial;have n:=fun{a:Ye} {u:HO} (e:H a=Ya u) (d:∀k,u≠.dK k)=>of a u e (IS e j (d _));have rr:∀r∈rwa x.rb,r∉[x.da]:=λr D z=>by
  obtain⟨q,f,e⟩:=dw.mp D;exact(h.rr q (YK _ f)).2.1 (by rw[e,Yi.mp z])
 refine⟨⟨C,s,t,v,n hp (by intro _ z;cases z)⟩,o _ _ h.dd.1 h.dn,h.td,n h.tk (by intro _ z;cases z),λq f=>(h.tc q f).kpf l,n h.kp (by intro _ z;cases z),λq f=>(h.kc q f).kpf l,h.kn,h.kr,⟨y,n ho (by intro _ z;cases z),hn.up l.smh⟩,
  kn,iT h.ab of (IS A j (by intro z;cases z)) (λz=>h.dd.2.2 (Yi.mp z).symm) rr,h.to,h.dd,λq f=>?_,h.me,h.ha⟩
 rcases YD.mp f with z|z
 ·rcases m q z with w|⟨r,e,g⟩
  ·exact h.rr q (YY _ w)
  ·rw[e];refine⟨λz=>?_,λz=>?_,λz=>?_⟩
   ·cases z;rw[h.dn]at g;cases g
   ·cases z;rw[j]at g;cases g
   ·cases z;rw[B]at g;cases g
 ·exact h.rr q (YK _ z)
noncomputable def XO(x:bF):Yp:=if x.kd="one"then "sure"else "ready"
def VJ(H:Hp)(v:V)(q:V×bF):Prop:=∃a tt,v=.ref a/\H a=Ya (.tup [.ref tt,.str (XO q.2)])/\js H (.ref tt) q.2
def Gp(H:Hp)(ys:List V)(rw:List (V×bF)):Prop:=YX (VJ H) ys rw
theorem VJ.up(s:de H H')(h:VJ H v q):VJ H' v q:=by
 obtain⟨a,tt,e,h1,h2⟩:=h;exact⟨a,tt,e,s _ _ h1,h2.up s⟩
theorem Gp.up(s:de H H'){ys:List V}(h:Gp H ys rw):Gp H' ys rw:=YX.mapP h λ_ _ z=>z.up s
theorem Gp.snoc:∀{ys:List V} {rw:List (V×bF)} {v:V} {q:V×bF},Gp H ys rw->VJ H v q->Gp H (ys++[v]) (rw++[q]):=by
 intro a b c d w h
 induction w with
 |nil=>exact .cons h .nil
 |cons r _ ih=>exact .cons r ih
noncomputable def rM(m:List (Int×Int))(rw:List (V×bF)):List (Int×Int):=rw.foldl (λm q=>dU m q.2.c q.2.k) m
def EY(S i:Pg)(rw:List (V×bF)):Prop:=∃(b e:List (V×bF)) (g k:List (Int×Int)) (a:List Nm) (c d:List (Int×List (Int×Int))) (j:List (Int×Int)),
 b.Perm S.kp/\wb (S.kp.map λq=>[q.2.c,q.2.k]) (S.kp.map (·.1)) (b.map (·.1))/\(jj S.ha≠.int S.me->a=S.od)/\(jj S.ha=.int S.me->∃f h,Pw (b.map (·.1)) (b.map (·.2)) S.dn S.od f a h/\Sj b h Yb)/\
 Rn (b.map (·.1)) (b.map (·.2)) S.dn a e g/\US S.ab S.me g c/\Rn (b.map (·.1)) (b.map (·.2)) S.dn (a.take (OH c a)) rw k/\US S.ta S.me (rM S.dn rw) d/\Vg d j/\
 i={S with dn:=rM S.dn rw,tk:=S.tk++rw,kp:=yw j S.kp,od:=a,ta:=d,ab:=c}
noncomputable abbrev pO:Y4:=bD (fm 46) 5
def uO(K:Yc)(mg:Yp->Option Yd):Sp:=λf H Q _=>∃(p:Ye),f=[.ref p]/\∃S x,hU K mg H p S x/\S.ta≠[]/\S.ta.length<=10/\S.kp.length<=60/\S.od.length<=300/\S.tk.length<=800/\S.me∈GB.hl S.ha/\(∀q∈S.kp,q.2.n=S.nu)/\
 ∀b c d rw l e,Off (x.ft p) H b->(∀a,b a=Yb->H a=Yb)->hU K mg b p d c->(∀a∈c.ft p,a∈x.ft p∨H a=Yb)->EY S d rw->H l=Yb->l∉c.ft p->b l=Ya (.lst e)->Gp b e rw->Q (.ref l) b
theorem NN{S:List (V×bF)}{n:Int}(hn:∀q∈S,q.2.n=n)(nd:(S.map λq=>eD q.2).Nodup):KP S:=by
 intro q d r f m o;have e:eD q.2=eD r.2:=by
  unfold eD;rw[hn q d,hn r f,m,o]
 obtain⟨i,g⟩:=YJ d;obtain⟨j,c⟩:=YJ f;have a:=(Yh.mp g);have b:=(Yh.mp c);have:i=j:=by
  have h:i<(S.map λq=>eD q.2).length:=by rw[Yf];exact a.1
  have k:j<(S.map λq=>eD q.2).length:=by rw[Yf];exact b.1
  have l:(S.map λq=>eD q.2)[i]=(S.map λq=>eD q.2)[j]:=by rw[ab4,ab4,a.2,b.2];exact e
  rcases adj i j with z|z|z
  ·exact absurd l (nh.mp nd i j h k z)
  ·exact z
  ·exact absurd l.symm (nh.mp nd j i k h z)
 subst this;rw[g]at c;exact YF c
theorem Me{tb:List (Int×List (Int×Int))}:∀ns:List Nm,OH tb ns<=ns.length
 |[]=>Yl _
 |p::ns=>by
  unfold OH;have:=Me (tb:=tb) ns;rw[gm];split<;>omega
theorem pF(m:List (Int×Int))(l:List (V×bF))(q:V×bF):rM m (l++[q])=dU (rM m l) q.2.c q.2.k:=by
 unfold rM;rw[aeG];rfl
theorem cK{x:CW}:a∈x.ft p↔a=p∨a=x.d∨a=x.t∨a=x.k∨a=x.o∨a=x.ta∨a=x.da∨a=x.ab∨a=x.db∨a∈rwa x.ra∨a∈rwa x.rb:=by
 unfold CW.ft;simp only[YD,Ym,xu,or_false];constructor
 ·rintro((h|h|h|h|h|h|h|h|h)|h|h)<;>simp[h]
 ·rintro(h|h|h|h|h|h|h|h|h|h|h)<;>simp[h]
theorem gy:aG ["self","calls","sure_places","row","call"] aV (av pO):=fq
variable{FC:Ye}{uF:Ye}{fX:Ye}{DW:Ye}{HB:Ye}{gW:Ye}{xf:Ye}{rN:Ye}{Av:YE}{rE:YE}{je:YE}{Bh:YE}{E3:YE}{fT:YE}{uy:YE}{qH:YE}(zI:∅ 7 Mj Ga pK (Gb K mg))(Dg:∅ 7 FC Av pK (Bc K mg))(Ff:eM K mg "placed" FC Av pK)(hZ:∅ 7 l7 jv Bs (jV K mg))(t7:∅ 7 uF rE Fh (rC K mg))(u9:Binds K rE Fh [])(ku:∅ 7 fX je aV (jn K mg))(cE:Binds K je aV [])(DV:∅ 7 DW Bh pS (Bk K mg))(Dt:eM K mg "why_of" DW Bh pS)(Io:∅ 7 HB E3 rT (Ds K))(HF:eM K mg "least" HB E3 rT)(kq:∅ 7 gW fT aV (fU K mg))(eG:Binds K fT aV [])(wy:∅ 7 xf uy qK (tR K mg))(wK:Binds K uy qK [])(rA:∅ 7 rN qH aV (pG K mg))(rX:Binds K qH aV [])(bI:bE K bj "told" fX)(iH:bE K c5 "sure" uF)(bQ:bE K bL "told" fX)(bP:bE K bK "told" fX)(bY:bE K bX "kept_calls" gW)(gU:bE K bX "let_go" rN)(jg:bE K bX "take" xf)
include eV zI Bl Dg Ff hZ fK t7 u9 ku cE DV Dt Io HF kq eG wy wK rA rX ao aU aA aB aY aw aX aD aE aW bI cN iH bQ bP bY gU jg in
theorem Cd(F:bN K "step" "Page.step" pO f fd):∅ 8 f fd aV (uO K mg):=by
 refine F.oj gy ?_;rintro _ A _ _ H _ _ _ J _ _ hu ⟨p,rfl,h⟩;refine⟨_,(aj (bc (i:=1) gy.nd rfl (Or.inl rfl) (bp (bT.cons aY.cl bY kq eG bT.nil) (pv 0) J))
   (aj (eF (br oP (aL (K:=K) rfl (pv 0) rfl) (bg Io HF J (aa (aL (K:=K) rfl (pv 0) rfl) ai)) (bC _)) (ax (cM (K:=K) rfl (pv 0) (bB (bG (K:=K) rfl) (bg Dg Ff J (aa (aL (K:=K) rfl (pv 0) rfl) (aa (pv 1) (aa (aL (K:=K) rfl (pv 0) rfl) ai)))) az (λ_ _=>rfl)) rfl)) cg)
   (aj (dC (bV (bT.cons aU.cl cN hZ fK bT.nil) (aL (K:=K) rfl (pv 0) rfl) J (aa (aL (K:=K) rfl (pv 0) rfl) (aa (bB (bG (K:=K) rfl) (bg zI Bl J (aa (aL (K:=K) rfl (pv 0) rfl) (aa (pv 1) (aa (aL (K:=K) rfl (pv 0) rfl) ai)))) az (λ_ _=>rfl)) ai))))
   (aj (bc (i:=2) gy.nd rfl (Or.inl rfl) (fN (mf (K:=K) rfl) (aL (K:=K) rfl (pv 0) rfl) iD (iO (bV (bT.cons aU.cl iH t7 u9 bT.nil) (aL (K:=K) rfl (pv 0) rfl) J (aa (aL (K:=K) rfl (pv 0) rfl) ai)))))
   (aj (bc (i:=3) gy.nd rfl (Or.inl rfl) (bB (bG (K:=K) rfl) (bg zI Bl J (aa (aL (K:=K) rfl (pv 0) rfl) (aa (pv 1) (aa (pv 2) ai)))) az (λ_ _=>rfl)))
   (aj (lU aam rfl (bo (K:=K) rfl (pv 3)) (aQ (i:=4) gy.nd rfl (Or.inl rfl))
   (ax (dC (bV (bT.cons aY.cl jg wy wK bT.nil) (pv 0) J (aa (pv 4) ai)))))
   (aj (dC (bV (bT.cons aU.cl cN hZ fK bT.nil) (aL (K:=K) rfl (pv 0) rfl) J (aa (aL (K:=K) rfl (pv 0) rfl) (aa (aL (K:=K) rfl (pv 0) rfl) ai))))
   (aj (dC (bp (bT.cons aY.cl gU rA rX bT.nil) (pv 0) J))
   (ax (aP (bS ["call"] [Yb] rfl rfl (by kernel_rfl) (bo (K:=K) rfl (pv 3)) (λ_ _ _ _ _ nd=>aQ (i:=0) nd rfl (Or.inl rfl)) (λ_ _ _ _ _=>dD) (λ_ _ _ _ _=>(cF (aa (bp (bT.cons aB.cl bP ku cE (bT.cons ao.cl bI ku cE (bT.cons aA.cl bQ ku cE bT.nil))) (pv 0) J) (aa (bg DV Dt J (aa (pv 0) ai)) ai))))))))))))))),?_⟩
 obtain⟨S,x,PA,b3,h10,hl,lo,lt,aM,b5,kk⟩:=h;obtain⟨C,dx,mP,T,hp⟩:=PA.ob;have eC:=mP;rw[aW]at eC;cases eC;obtain⟨cl,n1,n2,n3,n4,n5,n6,n7,n8,n9,n10,n11⟩:=id T;have tK:=aU.cl;have nL:=aU.n1;cbv;refine⟨p,rfl,S,x,PA,by omega,λH1 D m s1 hD pz od g1=>?_⟩;have P1:=PA.same s1;have aR:=s1 _ _ hp;have zc:∀q∈m,q∈S.kp:=λq s=>pz.mem_iff.mp s;have zl:m.length<=60:=by rw[pz.length_eq];exact hl
 have zr:KP m:=λq s r J=>NN b5 PA.kn q (zc q s) r (zc r J);have ez:(m.map (·.1)).zip (m.map (·.2))=m:=by
  rw[agi];exact ada m
 obtain⟨a0,ea⟩:∃a,jj S.ha=.int a:=by
  unfold jj;cases e:GB.hl S.ha with
  |nil=>rw[e]at aM;cases aM
  |cons a r=>exact⟨a,rfl⟩
 have al:∀{A:Hp},(∀q∈m,f7 K mg A q.1 q.2)->Cs K mg A (m.map (·.1)) (m.map (·.2)):=λh=>Gq h;have am:∀y∈m.map (·.2),0<=y.c/\y.c<63:=λy U=>by
  obtain⟨q,s,rfl⟩:=YA.mp U;exact PA.kr q (zc q s)
 have an:(m.map (·.2)).length<=60:=by rw[Yf];exact zl
 refine AW (λσ A=>∃k o',σ=[Ya (.ref p),Ya (.ref D),Yb,Yb,Yb]/\Off [p] H1 A/\hU K mg A p {S with od:=k} {x with o:=o'}/\(o'=x.o∨H o'=Yb)/\k.length<=400/\(jj S.ha≠.int S.me->k=S.od)/\(jj S.ha=.int S.me->∃ap m0,Pw (m.map (·.1)) (m.map (·.2)) S.dn S.od ap k m0/\Sj m m0 Yb)) ?_ λN Zd=>?_
 ·rintro σ A ⟨k,o',rfl,oA,W,fo,c6,b6,b7⟩;obtain⟨xs,ho,hn⟩:=W.od;obtain⟨C',c7,aS,_,b8⟩:=W.ob;rw[aW]at aS;cases aS;have b9:=W.dn;have aq:A D=Ya (.lst (m.map (·.1))):=oA _ _ g1 (λw=>by rw[Yi.mp w,aR]at g1;cases g1);have ca:∀{a},A a=Yb->H a=none:=fun{a} e=>by
   cases w:H a with
   |none=>rfl
   |some u=>
    by_cases v:a=p
    ·rw[v,b8]at e;cases e
    ·rw[oA _ _ (s1 _ _ w) (λq=>v (Yi.mp q))]at e;cases e
  obtain⟨⟨c9,da,aT,db⟩,_⟩:=id W.ab;rw[aX]at aT;cases aT;have cc:∀q∈m,f7 K mg A q.1 q.2:=λq s=>W.kc q (zc q s);cbv;refine⟨x.d,D,o',rfl,S.dn,_,_,xs,k,.inl b9,PA.td.toCk,a9.of aq,al cc,an,am,.inl (a9.of ho),hn,λH2 t l r hs m0 aZ Zf m1 L cd J gt gl gr ce cf ch ci a1 fw fin=>?_⟩;have cj:bJ K H2 t [.ref l,.ref r]:=bJ.of gt;have P2:=W.same L;have ck:Rn (m.map (·.1)) (m.map (·.2)) S.dn k aZ m1:=⟨hs,m0,Zf,⟨cf,ch⟩,ci,a1,fw,fin⟩;cbv;refine⟨x.ab,S.me,r,rfl,x.db,x.rb,S.ab,m1,P2.ab,.inl gr,ce.toCk,λH3 a2 M ad cm e1 e2 a3=>?_⟩;have P3:=P2.lrb ad cm a3;have o3:Off [x.db] H2 H3:=λb u e n=>ad b u (λw=>n (Yi.mpr w)) e;have k3:nQ H2 H3:=o3.kpf1 P2.ab.dc trivial;have cn:US S.ab S.me m1 M:=⟨e1,e2⟩;obtain⟨ae,co,ar⟩:=P3.od;obtain⟨C3,dc,a4,_,a5⟩:=P3.ob;rw[aW]at a4;cases a4;obtain⟨⟨dd,dh,a6,di⟩,_⟩:=id P3.ab;rw[aX]at a6;cases a6;have cp:H3 D=Ya (.lst (m.map (·.1))):=o3 _ _ (L _ _ aq) (IS (L _ _ aq) P2.ab.dc (by intro w;cases w));have a7:a9 K H3 o' ae:=a9.of co;cbv;refine⟨x.ab,o',rfl,x.db,a2,M,ae,k,P3.ab,.inl a7,ar,by omega,λH4 s4=>?_⟩;have P4:=P3.same s4;obtain⟨C4,dj,dk,_,dl⟩:=P4.ob;have dm:a9 K H4 o' ae:=s4.seq a7;cbv;intro sp H5 dq s5 ba;have lx:=ar.len;have dr:ae.length=k.length:=lx;have sl:=Me (tb:=M) k;rw[DY _ _ (by omega)]at ba;have P5:=P4.same s5;obtain⟨C5,ds,bb,_,dt⟩:=P5.ob;rw[aW]at bb;cases bb;have cr:=P5.dn;have cs:=s5 _ _ (s4 _ _ cp);cbv;refine⟨x.d,D,sp,rfl,S.dn,_,_,_,k.take (OH M k),.inl cr,PA.td.toCk,a9.of cs,al (λq s=>P5.kc q (zc q s)),an,am,.inl (a9.of ba),uS _ (ar.up (.same (s4.trans s5))),λH6 t2 l2 r2 cu cv d as m2 s6 bd du cx be dv dy bi bj bl bm cy bn=>?_⟩;have au:Rn (m.map (·.1)) (m.map (·.2)) S.dn (k.take (OH M k)) d m2:=⟨cu,cv,as,⟨bi,bj⟩,bl,bm,cy,bn⟩;have c4:bJ K H6 t2 [.ref l2,.ref r2]:=bJ.of cx;have P6:=P5.same s6;have cz:=V2 au;have c5:d.length<=60:=by
   have:=Ec au;have ml:=YQ (λq:bF=>decide (ct S.dn q.c<q.k)) (m.map (·.2));unfold mz at this;omega
  have nl:∀{a u},H5 a=Ya u->l2≠a:=λe w=>by rw[w,e]at bd;cases bd
  cbv;let cA:Nat->St->Hp->Prop:=λi σ B=>∃v,σ=[Ya (.ref p),Ya (.ref D),Ya (.ref sp),Ya (.ref l2),v]/\Off [x.d,x.t] H6 B/\hU K mg B p {S with od:=k,ab:=M,dn:=rM S.dn (d.take i),tk:=S.tk++d.take i} {x with o:=o',rb:=a2};refine mG (xs:=d.map (·.1)) cA ⟨Yb,rfl,Off.refl _ _,by rw[List.take_zero,Y1];exact P6⟩ (λi σ B _ z=>?_) ?_ ?_
  ·obtain⟨_,_,z,_⟩:=z;exact a9.of (z _ _ be (λw=>by
    simp only[Ym,xu,or_false]at w;exact w.elim (nl P5.dn) (nl P5.tk)))
  ·rintro i y σ B U ⟨v,rfl,oB,O⟩;obtain⟨q,s,rfl⟩:∃q,d[i]?=Ya q/\q.1=y:=by
    rw[Yy]at U;cases w:d[i]? with
    |none=>rw[w]at U;cases U
    |some q=>rw[w]at U;exact⟨q,rfl,YF U⟩
   obtain⟨qz,qk⟩:=cz q (Yw s);have hi:=(Yh.mp s).1;obtain⟨C7,cB,X,_,bt⟩:=O.ob;rw[aW]at X;cases X;cbv;refine⟨p,q.1,rfl,_,_,q.2,O,O.kc q (zc q qz),(PA.kr q (zc q qz)).1,(PA.kr q (zc q qz)).2,qk,?_,λI o2 cI=>?_⟩
   ·show(S.tk++d.take i).length<=900;rw[Yq,mr];omega
   ·cbv;refine⟨_,rfl,λb u e nb=>o2 b u (oB b u e nb) nb,?_⟩;rw[aN s,pF,←RW];exact cI
  rintro σ B ⟨v,rfl,oB,O⟩;rw[Yf,YI]at O;obtain⟨C7,cB,X,_,bt⟩:=O.ob;rw[aW]at X;cases X;obtain⟨⟨dB,dF,bu,dH⟩,_⟩:=id O.ta;rw[aX]at bu;cases bu;have cO:=O.dn;cbv;refine⟨x.ta,S.me,x.d,rfl,x.da,x.ra,S.ta,rM S.dn d,O.ta,.inl cO,O.td.toCk,λH8 dJ Y ag bv f1 f2 bw=>?_⟩;have P8:=O.lra ag bv bw;have bz:US S.ta S.me (rM S.dn d) Y:=⟨f1,f2⟩;have bA:Y.length=S.ta.length:=by
   have:=congrArg adn bz.keys;rw[Yf,Yf]at this;exact this
  obtain⟨C8,dK,bK,_,cS⟩:=P8.ob;rw[aW]at bK;cases bK;cbv;refine⟨p,rfl,_,_,P8,?_,by show Y.length<=10;omega,hl,λH9 k' j o9 bL fk cU P9=>?_⟩
  ·intro w;have w:Y=[]:=w;rw[w]at bA;exact b3 (aaZ.mp bA.symm)
  have bU:∀b u,H5 b=Ya u->b≠x.d->b≠x.t->B b=Ya u:=λb u e n1 n2=>oB b u (s6 _ _ e) (λw=>by
   simp only[Ym,xu,or_false]at w;exact w.elim n1 n2)
  have cV:H9 l2=Ya (.lst (d.map (·.1))):=by
   have gB:B l2=Ya (.lst (d.map (·.1))):=oB _ _ be (λw=>by
    simp only[Ym,xu,or_false]at w;exact w.elim (nl P5.dn) (nl P5.tk))
   have g8:=ag _ _ (bM gB O.ta.dc (by intro w;cases w)) gB;refine o9 _ _ g8 (λw=>?_);simp only[Ym,xu,or_false]at w;rcases w with w|w
   ·rw[w,cS]at g8;cases g8
   ·rw[w,P8.kp]at g8;cases g8
  have bX:∀b u,H b=Ya u->b∉x.ft p->H9 b=Ya u:=λb u e nb=>by
   have Q:=λh=>nb (cK.mpr h);have e1:=oA b u (s1 _ _ e) (λw=>Q (.inl (Yi.mp w)));have e3:=ad b u (λw=>Q (by simp[w])) (L _ _ e1);have e5:=s5 _ _ (s4 _ _ e3);have eB:=bU b u e5 (λw=>Q (by simp[w])) (λw=>Q (by simp[w]));have e8:=ag b u (λw=>Q (by simp[w])) eB;refine o9 b u e8 (λw=>?_);simp only[Ym,xu,or_false]at w;rcases w with w|w
   ·exact Q (.inl w)
   ·exact Q (.inr (.inr (.inr (.inl w))))
  cbv;intro E9 ah;have cW:∀q∈d,f7 K mg H9 q.1 q.2:=λq s=>P9.tc q (YK _ s);refine bh (K:=K) (a:=l2) (xs:=d.map (·.1)) (λi σ B=>∃v R,σ=[v]/\aJ H9 B/\B E9=Ya (.lst R)/\R.length=i/\Gp B R (d.take i)) ⟨Yb,[],rfl,aC ah,af,rfl,.nil⟩ ?_ ?_ ?_
  ·rintro i σ B _ ⟨_,_,_,z,_⟩;exact a9.of (z _ _ cV)
  ·rintro i y σ B U ⟨v,R,rfl,sB,gE,ly,tv⟩;obtain⟨q,s,rfl⟩:∃q,d[i]?=Ya q/\q.1=y:=by
    rw[Yy]at U;cases w:d[i]? with
    |none=>rw[w]at U;cases U
    |some q=>rw[w]at U;exact⟨q,rfl,YF U⟩
   have hi:=(Yh.mp s).1;have cq:=(cW q (Yw s)).up (.same sB);obtain⟨qv,qx⟩:=q;have cq:f7 K mg B qv qx:=cq;obtain⟨pc,Cc,dL,tc,dN,rfl,c0,dR,dT,dV,dX,dY⟩:=id cq;have tail:∀Z tt,aJ B Z->js Z (.ref tt) qx->∀u I,Z u=Yb->aJ Z I->I u=Ya (.tup [.ref tt,.str (XO qx)])->∃ac,I E9=Ya (.lst ac)/\ac.length<YB/\∃v R,[Ya (V.ref pc)]=[v]/\aJ H9 (upd I E9 (.lst (ac++[.ref u])))/\(upd I E9 (.lst (ac++[.ref u]))) E9=Ya (.lst R)/\R.length=i+ 1/\Gp (upd I E9 (.lst (ac++[.ref u]))) R (d.take (i+ 1)):=λZ tt E tl u I hu G gu=>by
    have b0:=G _ _ (E _ _ gE);have kp:de I (upd I E9 (.lst (R++[V.ref u]))):=de.lst b0;refine⟨R,b0,aF (by omega),_,R++[.ref u],rfl,λc o e=>?_,af,by rw[Yq,ly];rfl,?_⟩
    ·rw[ak (ay e ah)];exact G _ _ (E _ _ (sB c o e))
    ·rw[aN s];exact(tv.up (λa xs e=>kp _ _ (G _ _ (E _ _ e)))).snoc ⟨u,tt,rfl,kp _ _ gu,tl.up (λa xs e=>kp _ _ (G _ _ e))⟩
   show fF _ _ _ _ _ (V.ref pc) _ _;rcases c0 with⟨_,e⟩|⟨_,e⟩|⟨_,e⟩
   ·rw[aE]at e;cases e;cbv;refine⟨.ref pc,rfl,qx,cq,λZ tt E _ tl=>?_⟩;cbv;refine⟨.ref pc,rfl,qx,cq.up (.same E),?_⟩;cbv;intro u I hu G gu;exact tail Z tt E tl u I hu G gu
   ·rw[aw]at e;cases e;cbv;refine⟨.ref pc,rfl,qx,cq,λZ tt E _ tl=>?_⟩;cbv;refine⟨.ref pc,rfl,qx,cq.up (.same E),?_⟩;cbv;intro u I hu G gu;exact tail Z tt E tl u I hu G gu
   ·rw[aD]at e;cases e;cbv;refine⟨.ref pc,rfl,qx,cq,λZ tt E _ tl=>?_⟩;cbv;refine⟨.ref pc,rfl,qx,cq.up (.same E),?_⟩;cbv;intro u I hu G gu;exact tail Z tt E tl u I hu G gu
  rintro σ B' ⟨v9,R,rfl,aI,gE,ly,tv⟩;rw[Yf,YI]at tv;cbv;have b1:∀a,B a=Yb->H a=none:=λa e=>by
   cases z:H a with
   |none=>rfl
   |some u=>
    by_cases w1:a=p
    ·rw[w1,bt]at e;cases e
    ·by_cases w2:a=x.d
     ·rw[w2,O.dn]at e;cases e
     ·by_cases w3:a=x.t
      ·rw[w3,O.tk]at e;cases e
      ·by_cases w4:a=x.db
       ·rw[w4,O.ab.dc]at e;cases e
       ·have e1:=oA a u (s1 _ _ z) (λw=>w1 (Yi.mp w));rw[bU a u (s5 _ _ (s4 _ _ (ad a u w4 (L _ _ e1)))) w2 w3]at e;cases e
  have aK:∀a,H8 a=Yb->H a=none:=λa e=>by
   cases z:B a with
   |none=>exact b1 a z
   |some u=>
    by_cases w:a=x.da
    ·rw[w,bv.dc]at e;cases e
    ·rw[ag a u w z]at e;cases e
  refine kk B' _ _ d E9 R (λb u e nb=>aI _ _ (bX b u e nb)) (λa e=>aK a (bL a (aI.free e))) (P9.same aI) (λa ha=>?_) ⟨m,aZ,m1,m2,k,M,Y,j,pz,od,b6,b7,ck,cn,au,bz,cU,rfl⟩ (aK _ (bL _ ah)) (λw=>?_) gE tv
  ·rcases cK.mp ha with w|w|w|w|w|w|w|w|w|w|w
   ·exact .inl (cK.mpr (by simp[w]))
   ·exact .inl (cK.mpr (by simp[w]))
   ·exact .inl (cK.mpr (by simp[w]))
   ·have w:a=k':=w;exact .inr (w▸aK _ fk)
   ·have w:a=o':=w;rcases fo with v|v
    ·exact .inl (cK.mpr (by simp[w,v]))
    ·exact .inr (w▸v)
   ·exact .inl (cK.mpr (by simp[w]))
   ·exact .inl (cK.mpr (by simp[w]))
   ·exact .inl (cK.mpr (by simp[w]))
   ·exact .inl (cK.mpr (by simp[w]))
   ·obtain⟨q,s,e⟩:=dw.mp w;rcases bw q s with v|⟨r,e',v⟩
    ·have:a∈rwa x.ra:=dw.mpr ⟨q,v,e⟩;exact .inl (cK.mpr (by simp[this]))
    ·rw[e]at e';cases e';exact .inr (b1 _ v)
   ·obtain⟨q,s,e⟩:=dw.mp w;rcases a3 q s with v|⟨r,e',v⟩
    ·have:a∈rwa x.rb:=dw.mpr ⟨q,v,e⟩;exact .inl (cK.mpr (by simp[this]))
    ·rw[e]at e';cases e';exact .inr (ca (L.free v))
  ·obtain⟨o,e,_⟩:=P9.fto E9 w;rw[ah]at e;cases e
 ·obtain⟨xs,ho,hn⟩:=P1.od;have dZ:=P1.dn;cbv;refine⟨S.ha,rfl,PA.ha.1,PA.ha.2,λH2 L=>?_⟩;have b2:=L _ _ aR;have P2:=P1.same L;have c1:=P2.dn;have c2:=L _ _ ho;rw[ea];cbv;refine dP (λz=>?_) λz=>?_
  ·have z:S.me=a0:=of_decide_eq_true z;cbv;refine⟨x.d,D,x.o,rfl,S.dn,_,_,xs,S.od,.inl c1,PA.td.toCk,a9.of (L _ _ g1),al (λq s=>P2.kc q (zc q s)),an,by rw[ez];exact zr,am,.inl (a9.of c2),hn.up (.same L),lo,λH3 t l g ap R gs m0 s3 cd hg gt gl gg nm pw la=>?_⟩;have a5:=s3 _ _ b2;have cj:bJ K H3 t [.ref l,.ref g]:=bJ.of gt;cbv;intro H4 b4 g4;rw[yq]at g4;have c3:g≠p:=λw=>by rw[w,b2]at hg;cases hg
   have o4:Off [p] H3 H4:=λb u e nb=>b4.at (λw=>nb (Yi.mpr w)) e;have k4:nQ H3 H4:=o4.kpf1 a5 (by show(11:Nat)≠5;decide);have pl:=UI (by rw[ez];exact zr) pw;have ml:=YQ (λq:bF=>decide (ct S.dn q.c<q.k)) (m.map (·.2));refine Zd _ _ ⟨gs,g,rfl,λb u e nb=>o4 b u (s3 _ _ (L _ _ e)) nb,(P2.same s3).newo (ma':=S.ma) o4 ⟨_,dx,mP,T,g4⟩ (b4.at c3 gg) (nm.up k4.smh) ?_,.inr (s1.free (L.free hg)),?_,λw=>?_,λ_=>⟨ap,m0,pw,by rw[ez]at la;exact la⟩⟩
   ·intro w;rw[←w,P2.tk]at hg;cases hg
   ·unfold mz at pl;omega
   ·exact absurd (by rw[ea,z]) w
  ·have z:¬ S.me=a0:=λw=>z (decide_eq_true w);exact Zd _ _ ⟨S.od,x.o,rfl,Off.of L,P2,.inl rfl,by omega,λ_=>rfl,λw=>absurd (by rw[ea]at w;cases w;rfl) z⟩
noncomputable abbrev m6:Y4:=bD (fm 46) 4
theorem K0{S:List Int}(t:Ck m)(a:S.Perm (m.map (·.1))):Ck (sN m S):=by
 have nd:S.Nodup:=a.nodup_iff.mpr t.nd;have b:(sN m S).map (·.1)=S.filter λk=>decide (0<ct m k):=by
  unfold sN;rw[rl];exact ada _
 refine⟨by rw[b];exact nd.filter _,λp hp=>?_,λp hp=>?_⟩
 ·unfold sN at hp;obtain⟨k,_,rfl⟩:=YA.mp hp;exact t.ct k
 ·unfold sN at hp;obtain⟨k,c,rfl⟩:=YA.mp hp;exact t.keys k (a.mem_iff.mp (YU.mp c).1)
def Xo(S:Pg)(kd:Yp)(w:Int)(c:bF):Prop:=∃hs:List Int,hs.Perm (S.dn.map (·.1))/\hs.Pairwise (·<=·)/\c=⟨kd,S.nu,S.me,S.ma+ 1,w,if kd="own"then[]else sN S.dn hs⟩
structure Q4(S:Pg)(n:Nat):Prop where
 ne:S.ta≠[]
 l10:S.ta.length<=10
 kl:S.kp.length<=n
 ol:S.od.length<=n
 tl:S.tk.length<=8*n
 me:S.me∈GB.hl S.ha
 nu:∀q∈S.kp,q.2.n=S.nu
 ma:0<=S.ma
 mx:∀q∈S.kp,q.2.c=S.me->q.2.k<=S.ma
def rO(K:Yc)(mg:Yp->Option Yd):Sp:=λh H Q E=>∃(p:Ye) (kd:Yp) (w:Int),h=[.ref p,.str kd,.int w]/\∃S x,hU K mg H p S x/\Q4 S 59/\(kd="own"∨kd="heard"∨kd="one")/\(if w<0 then-w else w)<10^(60:Int).toNat/\
 (∀b d e rw l f v c j,Off (x.ft p) H b->(∀a,b a=Yb->H a=Yb)->hU K mg b p e d->(∀a∈d.ft p,a∈x.ft p∨H a=Yb)->Vg S.ta j->S.ma-ct j S.me<S.ro->Xo S kd w c->EY {S with ma:=S.ma+ 1,kp:=S.kp++[(v,c)]} e rw->H l=Yb->l∉d.ft p->b l=Ya (.lst f)->Gp b f rw->Q (.ref l) b)/\
 ∀b j g C,aJ H b->Vg S.ta j->¬ (S.ma-ct j S.me<S.ro)->mg "Held"=Ya (.ref C)->H g=Yb->E (.ref g) (Ya C) b
abbrev Dr:List Yp:=["self","kind","word"]
theorem r9:aG ["self","kind","word","call"] Dr (av m6):=fq
variable{j9:Ye}{pU:Ye}{wu:Ye}{jA:YE}{mW:YE}{uG:YE}(qQ:∅ 8 p7 mV J0 (nB K mg))(wZ:∅ 8 zk vW AL (vT K))(kD:aH P w K mg base (CT P w) 8 j9 jA aV (jx K mg))(kU:Binds K jA aV [])(wX:∅ 8 pU mW qK (nR K mg))(j7:Binds K mW qK [])(kN:∅ 8 wu uG aV (uO K mg))(kK:Binds K uG aV [])(dX:bE K bX "check_room" j9)(d4:bE K bX "keep" pU)(d7:bE K bX "step" wu)
include eV qQ kX wZ uu kD kU wX j7 kN kK ao aA aB aY aw aD aE aW dX d4 d7 in
theorem Aj(F:bN K "utter" "Page.utter" m6 f fd):aH P w K mg base (CT P w) 9 f fd Dr (rO K mg):=by
 refine F.okX r9 (λvs H Q E h=>?_) (λal A outer s H vs Q E g h=>?_)
 ·obtain⟨p,kd,w,rfl,_⟩:=h;rfl
 obtain⟨p,kd,w,rfl,h⟩:=h;have ah:=g.units;have am:=g.units0;have hu:=Ij g;refine⟨_,(aj (dC (zt (pv 0) aY.cl dX kD g kU .nil W4))
   (aj (bc (i:=3) r9.nd rfl (Or.inl rfl) (bg qQ kX g (aa (aL (K:=K) rfl (pv 0) rfl) (aa (aL (K:=K) rfl (pv 0) rfl) (aa (a8 eQ (aL (K:=K) rfl (pv 0) rfl) az) (aa (pv 1) (aa (pv 2) (aa (bg wZ uu g (aa (aL (K:=K) rfl (pv 0) rfl) ai)) ai))))))))
   (aj (cM (K:=K) rfl (pv 0) (aL (K:=K) rfl (pv 3) rfl) rfl)
   (aj (dC (bV (bT.cons aY.cl d4 wX j7 bT.nil) (pv 0) g (aa (pv 3) ai)))
   (ax (aP (bp (bT.cons aY.cl d7 kN kK bT.nil) (pv 0) g))))))),?_⟩
 obtain⟨S,x,PA,ok,L,hw,k1,k2⟩:=h;obtain⟨C,dx,mP,T,hp⟩:=PA.ob;have eC:=mP;rw[aW]at eC;cases eC;obtain⟨cl,n1,n2,n3,n4,n5,n6,n7,n8,n9,n10,n11⟩:=id T;cbv;refine Cn ?_;cbv;refine⟨p,dx,_,rfl,hp,qF,?_⟩;cbv;refine⟨p,rfl,S,x,PA,ok.ne,ok.l10,λM j r N k=>?_,λM j ea Ce r N k mh he=>k2 M j ea Ce r N k mh he⟩;have P1:=PA.same r;have O:=r _ _ hp;have R:=P1.dn;have ld:S.dn.length<64:=PA.td.toCk.len;cbv;refine⟨x.d,S.dn,rfl,.inl R,ld,λH2 t U hs s2 ht pm so gt pr=>?_⟩;cbv;refine⟨S.nu,S.me,S.ma+ 1,kd,w,t,rfl,U,L,hw,gt,λv pc Cc W t' s3 an X tc gc Y=>?_⟩;have d:aJ M v:=s2.trans s3;have Z:=P1.same d;have y:=d _ _ O;obtain⟨ao,m1,m2,m3,m4,m5⟩:=id tc;have cA:f7 K mg v (.ref pc) ⟨kd,S.nu,S.me,S.ma+ 1,w,if kd="own"then[]else sN S.dn hs⟩:=by
  refine⟨pc,Cc,W,t',_,rfl,X,tc,gc,Y,?_,?_⟩
  ·by_cases z:kd="own"
   ·show jW v (if kd="own"then[]else U) (if kd="own"then[]else sN S.dn hs);rw[if_pos z,if_pos z];exact .nil
   ·show jW v (if kd="own"then[]else U) (if kd="own"then[]else sN S.dn hs);rw[if_neg z,if_neg z];exact pr.mono (de.same s3)
  ·show Ck (if kd="own"then[]else sN S.dn hs);by_cases z:kd="own"
   ·rw[if_pos z];exact Ck.nil
   ·rw[if_neg z];exact K0 PA.td.toCk pm
 have nw:Xo S kd w ⟨kd,S.nu,S.me,S.ma+ 1,w,if kd="own"then[]else sN S.dn hs⟩:=⟨hs,pm,so,rfl⟩;generalize (⟨kd,S.nu,S.me,S.ma+ 1,w,if kd="own"then[]else sN S.dn hs⟩:bF)=c at cA nw;obtain⟨ab,m,ap⟩:c.n=S.nu/\c.c=S.me/\c.k=S.ma+ 1:=by
  obtain⟨_,_,_,e⟩:=nw;rw[e];exact⟨rfl,rfl,rfl⟩
 cbv;intro H4 b4 g4;rw[Kw]at g4;have B:Off [p] v H4:=λb u e n=>b4.at (λw=>n (Yi.mpr w)) e;have k4:nQ v H4:=B.kpf1 y (by show(11:Nat)≠5;decide);obtain⟨xo,D,ac⟩:=Z.od;have P4:hU K mg H4 p {S with ma:=S.ma+ 1} x:=Z.newo (ma':=S.ma+ 1) (o':=x.o) B ⟨_,dx,mP,T,g4⟩ (B _ _ D (IS D y (by intro z;cases z))) (ac.up k4.smh) Z.to;have c4:=cA.kpf k4;cbv;refine⟨p,.ref pc,rfl,_,x,c,P4,c4,?_,by rw[m];exact PA.me.1,by rw[m];exact PA.me.2,by have:=ok.kl;show S.kp.length<=900;omega,λH5 o5 P5=>?_⟩
 ·intro z;obtain⟨q,G,e⟩:=YA.mp z;have G:q∈S.kp:=G;unfold eD at e;have e1:q.2.c=c.c:=by
   have:=(tq (tq e).2).1;exact aaL this
  have e2:q.2.k=c.k:=by
   have:=(tq (tq (tq e).2).2).1;exact aaL this
  have:=ok.mx q G (by rw[e1,m]);omega
 obtain⟨C5,aq,I,_,ad⟩:=P5.ob;rw[aW]at I;cases I;cbv;refine⟨p,rfl,_,x,P5,ok.ne,ok.l10,?_,by have:=ok.ol;show S.od.length<=300;omega,by have:=ok.tl;show S.tk.length<=800;omega,ok.me,λq G=>?_,λH6 x' S' rw l ys o6 ae P6 ag st hl nl gl tv=>?_⟩
 ·show(S.kp++[(V.ref pc,c)]).length<=60;rw[Yq];have:=ok.kl;show S.kp.length+ 1<=60;omega
 ·rcases YD.mp G with z|z
  ·exact ok.nu q z
  ·rw[Yi.mp z];exact ab
 have J:∀b u,H b=Ya u->b∉x.ft p->H5 b=Ya u:=λb u e n=>by
  have e3:=d _ _ (r _ _ e);have e4:=B b u e3 (λz=>n (cK.mpr (.inl (Yi.mp z))));exact o5 b u e4 (λz=>n (cK.mpr (by simp[Yi.mp z])))
 have o:∀a,H5 a=Yb->H a=none:=λa e=>by
  cases z:H a with
  |none=>rfl
  |some u=>
   by_cases w1:a=p
   ·rw[w1,ad]at e;cases e
   ·by_cases w2:a=x.k
    ·rw[w2,P5.kp]at e;cases e
    ·rw[o5 a u (B a u (d _ _ (r _ _ z)) (by simp[w1])) (by simp[w2])]at e;cases e
 refine k1 H6 x' S' rw l ys (.ref pc) c j (λb u e n=>o6 b u (J b u e n) n) (λa e=>o a (ae a e)) P6 (λa ha=>?_) N k nw st (o l hl) nl gl tv;rcases ag a ha with z|z
 ·exact .inl z
 ·exact .inr (o a z)
noncomputable abbrev mZ:Y4:=bD (fm 46) 8
theorem kj{α β:Type}{F:α->β->Prop}:∀{l:List α} {m:List β} {a:α} {b:β},YX F l m->F a b->YX F (l++[a]) (m++[b]):=by
 intro c d e f w h
 induction w with
 |nil=>exact .cons h .nil
 |cons r _ ih=>exact .cons r ih
theorem OD(xs:List V)(k:Int)(h:0<=k):uY xs (Ya k) Yb=xs.drop k.toNat:=by
 obtain⟨n,rfl⟩:=aaF h;unfold uY;have a:HT.f6 xs.length 0 (Ya (n:Int))=min n xs.length:=by
  show(if(n:Int)<0 then((n:Int)+ (xs.length:Nat)).toNat else min (n:Int).toNat xs.length)=_;rw[if_neg (by omega),YO]
 have b:HT.f6 xs.length xs.length Yb=xs.length:=rfl;rw[a,b,YO];rcases aiD n xs.length with z|z
 ·rw[ahS z,abI (by rw[abG];exact Yl _)]
 ·rw[ahp z,afA (Yl _),afA z,List.take_nil]
theorem Bi(xs:List V)(k:Int)(h:0<=k):uY xs Yb (Ya k)=xs.take k.toNat:=by
 obtain⟨n,rfl⟩:=aaF h;unfold uY;have a:HT.f6 xs.length 0 Yb=0:=rfl;have b:HT.f6 xs.length xs.length (Ya (n:Int))=min n xs.length:=by
  show(if(n:Int)<0 then((n:Int)+ (xs.length:Nat)).toNat else min (n:Int).toNat xs.length)=_;rw[if_neg (by omega),YO]
 rw[a,b,ah8,aiB,YO];rcases aiD n xs.length with z|z
 ·rw[ahS z]
 ·rw[ahp z,YI,abI z]
def Xh(H:Hp)(t:Ye)(me:Int)(od:List Nm)(h i:List (Int×List (Int×Int)))(cs:List bF):Prop:=∃a b c tt d e f g,H t=Ya (.tup [.int me,.ref a,.ref b,.ref c,.ref tt])/\H a=Ya (.tup d)/\nv H d od/\H b=Ya (.tup e)/\yJ H e h/\H c=Ya (.tup f)/\yJ H f i/\H tt=Ya (.tup g)/\YX (js H) g cs
noncomputable def PR(zs:List (V×bF))(sk:Int)(mv:V):List (V×bF):=match mv with| .int mn=>(zs.drop sk.toNat).take mn.toNat|_=>zs.drop sk.toNat
def rR(K:Yc)(mg:Yp->Option Yd):Sp:=λf H Q _=>∃(p:Ye) (b:Int) (a:V),f=[.ref p,.int b,a]/\∃S x,hU K mg H p S x/\S.kp.length<64/\0<=b/\(a=.non∨∃d:Int,0<=d/\a=.int d)/\
 ∀c t e,aJ H c->H t=Yb->e.Perm S.kp->Xh c t S.me S.od (u6 S.ta) (u6 S.ab) ((PR e b a).map (·.2))->Q (.ref t) c
abbrev yr:List Yp:=["self","skip","many"]
theorem iJ:aG ["self","skip","many","calls","told"] yr (av mZ):=fq
variable{pR:Ye}{nX:YE}(jK:∅ 5 pR nX aV (oQ K mg))(jG:Binds K nX aV [])(gL:∅ 5 fX je aV (jn K mg))(iR:∅ 5 gW fT aV (fU K mg))(d9:bE K c5 "listed" pR)
include eV jK jG gL cE iR eG jd ao aU aA aB aY aw aX aD aE aW bI d9 bQ bP bY in
theorem Am{t0:acT}(F:FY K "piece" "Page.piece" mZ f fd [.int 0 t0,.none]):∅ 6 f fd yr (rR K mg):=by
 refine F.ok iJ (λvs H Q E h=>?_) (λa6 A outer s H vs Q E r h=>?_)
 ·obtain⟨p,l,U,rfl,_⟩:=h;rfl
 obtain⟨p,l,U,rfl,h⟩:=h;have a3:=r.units;have a7:=r.units0;have hu:=Ij r;refine⟨_,(aj (bc (i:=3) iJ.nd rfl (Or.inl rfl) (fN (mf (K:=K) rfl) (bp (bT.cons aY.cl bY iR eG bT.nil) (pv 0) r) (iO (pv 1)) iD))
   (aj (eF (br yc (pv 2) pY (bC _)) (ax (bc (i:=3) iJ.nd rfl (Or.inl rfl) (fN (mf (K:=K) rfl) (pv 3) iD (iO (pv 2))))) cg)
   (aj (bc (i:=4) iJ.nd rfl (Or.inl rfl) (bZ (iQ (K:=K) rfl) (by rfl) jd abD (aa (bS ["call"] [Yb] rfl rfl (by kernel_rfl) (bo (K:=K) rfl (pv 3)) (λ_ _ _ _ _ nd=>aQ (i:=0) nd rfl (Or.inl rfl)) (λ_ _ _ _ _=>dD) (λ_ _ _ _ _=>(bp (bT.cons aB.cl bP gL cE (bT.cons ao.cl bI gL cE (bT.cons aA.cl bQ gL cE bT.nil))) (pv 0) r))) ai)))
   (ax (aP (cF (aa (aL (K:=K) rfl (pv 0) rfl) (aa (bZ (iQ (K:=K) rfl) (by rfl) jd abD (aa (aL (K:=K) rfl (pv 0) rfl) ai)) (aa (bp (bT.cons aU.cl d9 jK jG bT.nil) (aL (K:=K) rfl (pv 0) rfl) r) (aa (bp (bT.cons aU.cl d9 jK jG bT.nil) (aL (K:=K) rfl (pv 0) rfl) r) (aa (pv 4) ai))))))))))),?_⟩
 obtain⟨S,x,PA,hl,am,u,kk⟩:=h;obtain⟨C,dx,mP,T,hp⟩:=PA.ob;have eC:=mP;rw[aW]at eC;cases eC;obtain⟨cl,n1,n2,n3,n4,n5,n6,n7,n8,n9,n10,n11⟩:=id T;have tK:=aU.cl;have nL:=aU.n1;cbv;refine⟨p,rfl,S,x,PA,hl,λH1 D m s1 hD pz od g1=>?_⟩;have ba:a9 K H1 D (m.map (·.1)):=a9.of g1;cbv;intro c1 H2 bb s2 G;rw[OD _ _ am,←List.map_drop]at G;have l2:(m.drop l.toNat).length<64:=by rw[abG,pz.length_eq];omega
 refine AW (λσ A=>∃W,σ=[Ya (.ref p),Ya (.int l),Ya U,Ya (.ref W),Yb]/\aJ H2 A/\A W=Ya (.lst ((PR m l U).map (·.1)))) ?_ λN Zd=>?_
 ·rintro σ A ⟨W,rfl,sA,j⟩;have I:aJ H A:=s1.trans (s2.trans sA);have ab:=PA.same I;have pl:(PR m l U).length<64:=by
   rcases u with z|⟨mn,_,z⟩
   ·rw[z];exact l2
   ·rw[z];show((m.drop l.toNat).take mn.toNat).length<64;rw[mr];omega
  have pin:∀q∈PR m l U,q∈S.kp:=λq n=>by
   refine pz.mem_iff.mp ?_;rcases u with z|⟨mn,_,z⟩
   ·rw[z]at n;exact acM n
   ·rw[z]at n;exact acM (acL n)
  obtain⟨ps,ac⟩:∃ps,ps=PR m l U:=⟨_,rfl⟩;rw[←ac]at j pl pin;cbv;intro E hE;refine bh (K:=K) (a:=W) (xs:=ps.map (·.1)) (λi σ B=>∃v b,σ=[v]/\aJ A B/\B E=Ya (.lst b)/\b.length=i/\YX (js B) b ((ps.take i).map (·.2))) ⟨Yb,[],rfl,aC hE,af,rfl,.nil⟩ ?_ ?_ ?_
  ·rintro i σ B _ ⟨_,_,_,z,_⟩;exact a9.of (z _ _ j)
  ·rintro i y σ B hy ⟨v,b,rfl,X,gE,ly,tv⟩;obtain⟨q,n,rfl⟩:∃q,ps[i]?=Ya q/\q.1=y:=by
    rw[Yy]at hy;cases w:ps[i]? with
    |none=>rw[w]at hy;cases hy
    |some q=>rw[w]at hy;exact⟨q,rfl,YF hy⟩
   have hi:=(Yh.mp n).1;have Y:=(ab.kc q (pin q (Yw n))).up (.same X);obtain⟨qv,qx⟩:=q;have Y:f7 K mg B qv qx:=Y;obtain⟨pc,Cc,bd,tc,be,rfl,an,bi,bj,bl,bm,bn⟩:=id Y;have tail:∀g tt,aJ B g->js g (.ref tt) qx->∃k,g E=Ya (.lst k)/\k.length<YB/\∃v b,[Ya (V.ref pc)]=[v]/\aJ A (upd g E (.lst (k++[.ref tt])))/\(upd g E (.lst (k++[.ref tt]))) E=Ya (.lst b)/\b.length=i+ 1/\YX (js (upd g E (.lst (k++[.ref tt])))) b ((ps.take (i+ 1)).map (·.2)):=λg tt d tl=>by
    have ad:=d _ _ gE;have kp:de g (upd g E (.lst (b++[V.ref tt]))):=de.lst ad;refine⟨b,ad,aF (by omega),_,b++[.ref tt],rfl,λc o e=>?_,af,by rw[Yq,ly];rfl,?_⟩
    ·rw[ak (ay e hE)];exact d _ _ (X c o e)
    ·rw[aN n,Yr];exact kj (YX.mapP tv λ_ _ z=>z.up (λa xs e=>kp _ _ (d _ _ e))) (tl.up kp)
   show fF _ _ _ _ _ (V.ref pc) _ _;rcases an with⟨_,e⟩|⟨_,e⟩|⟨_,e⟩
   ·rw[aE]at e;cases e;cbv;exact⟨.ref pc,rfl,qx,Y,λg tt d _ tl=>tail g tt d tl⟩
   ·rw[aw]at e;cases e;cbv;exact⟨.ref pc,rfl,qx,Y,λg tt d _ tl=>tail g tt d tl⟩
   ·rw[aD]at e;cases e;cbv;exact⟨.ref pc,rfl,qx,Y,λg tt d _ tl=>tail g tt d tl⟩
  rintro σ B ⟨v9,b,rfl,X,gE,ly,tv⟩;rw[Yf,YI]at tv;refine⟨E,b,rfl,.inl ⟨a9.of gE,λtt ap=>?_⟩⟩;have J:=aC (o:=.tup b) ap;have g3:(upd B tt (.tup b)) tt=Ya (.tup b):=af;generalize upd B tt (.tup b)=H3 at J g3⊢;have aq:YX (js H3) b (ps.map (·.2)):=YX.mapP tv λ_ _ z=>z.up (de.same J);have P3:=ab.same (X.trans J);obtain⟨C3,bt,ae,_,ar⟩:=P3.ob;rw[aW]at ae;cases ae;obtain⟨xo,bu,as⟩:=P3.od;obtain⟨⟨bv,bw,ag,au⟩,_⟩:=id P3.ta;rw[aX]at ag;cases ag;obtain⟨⟨bz,bA,ah,aI⟩,_⟩:=id P3.ab;rw[aX]at ah;cases ah;cbv;intro oo H4 bK L g4;have P4:=P3.same L;have aK:=L _ _ ar;have a4:=L _ _ au;have al:=L _ _ aI;cbv;refine⟨x.ta,rfl,x.da,x.ra,S.ta,P4.ta,λH5 a1 xa M bL aM aR=>?_⟩;have P5:=P4.same M;have bU:=M _ _ aK;have a5:=M _ _ al;cbv;refine⟨x.ab,rfl,x.db,x.rb,S.ab,P5.ab,λH6 a2 xb Z bX aS aT=>?_⟩;cbv;intro t H7 ht O g7;have R:de H3 H7:=de.same (L.trans (M.trans (Z.trans O)));have aZ:de H5 H7:=de.same (Z.trans O);refine kk H7 t m (I.trans (X.trans (J.trans (L.trans (M.trans (Z.trans O)))))) (I.free (X.free (J.free (L.free (M.free (Z.free ht)))))) pz ⟨oo,a1,a2,tt,xo,xa,xb,b,g7,O _ _ (Z _ _ (M _ _ g4)),as.up R,O _ _ (Z _ _ aM),iP aZ aR,O _ _ aS,iP (de.same O) aT,R _ _ g3,(by rw[←ac];exact YX.mapP aq λ_ _ z=>js.up R z)⟩
 ·cbv;rcases u with rfl|⟨mn,a0,rfl⟩
  ·rw[show decide (V.non=V.non)=true from decide_eq_true rfl];cbv;exact Zd _ _ ⟨c1,rfl,.refl _,G⟩
  ·rw[show decide (V.int mn=V.non)=false from decide_eq_false (by intro z;cases z)];have b0:a9 K H2 c1 ((m.drop l.toNat).map (·.1)):=a9.of G;cbv;intro W H3 b1 J j;rw[Bi _ _ a0,←List.map_take]at j;cbv;exact Zd _ _ ⟨W,rfl,J,j⟩
noncomputable abbrev iS:Y4:=bD (fm 46) 10
inductive Eb (dn:List (Int×Int)) (kp:List (V×bF)):List bF->List (V×bF)->Prop
 |nil:Eb dn kp [] kp
 |skip {cs:List bF} {Zi:List (V×bF)} {c:bF}:Eb dn kp cs Zi->(c.k<=ct dn c.c∨eD c∈Zi.map λq=>eD q.2)->Eb dn kp (cs++[c]) Zi
 |add {cs:List bF} {Zi:List (V×bF)} {c:bF} {v:V}:Eb dn kp cs Zi->¬ c.k<=ct dn c.c->eD c∉Zi.map (λq=>eD q.2)->Eb dn kp (cs++[c]) (Zi++[(v,c)])
theorem Eb.len{kp:List (V×bF)}(h:Eb dn kp cs Zi):Zi.length<=kp.length+ cs.length:=by
 induction h with
 |nil=>exact Yl _
 |skip _ _ ih=>rw[Yq];exact ir ih (by omega)
 |add _ _ _ ih=>rw[Yq,Yq,Y6,Y6];omega
theorem Eb.mem{kp:List (V×bF)}(h:Eb dn kp cs Zi):∀q∈Zi,q∈kp∨q.2∈cs:=by
 induction h with
 |nil=>exact λq a=>.inl a
 |skip _ _ ih=>exact λq a=>(ih q a).imp id λz=>YY _ z
 |add _ _ _ ih=>
  intro q a;rcases YD.mp a with z|z
  ·exact(ih q z).imp id λz=>YY _ z
  ·rw[Yi.mp z];exact .inr (YK _ (Yi.mpr rfl))
theorem Ez{k:List bR}:(eK kvs k).isSome=true↔k∈kvs.map (·.1):=by
 rw[←qE,ab0,YA];exact⟨fun⟨e,a,z⟩=>⟨e,a,of_decide_eq_true z⟩,fun⟨e,a,z⟩=>⟨e,a,decide_eq_true z⟩⟩
theorem M8{kp:List (V×bF)}:(eK (kp.map CU) (eD c)).isSome=true↔eD c∈kp.map λq=>eD q.2:=by
 rw[Ez,rl];rfl
theorem Hn{g i j:Ye}(k:mg "OwnCall"=Ya (.ref g))(l:mg "HeardCall"=Ya (.ref i))(m:mg "OneCall"=Ya (.ref j))(h:f7 K mg H v c)(q:∀H' t,aJ H H'->H t=Yb->H' t=Ya (.tup [.int c.n,.int c.c,.int c.k])->Q (.ref t) H'):
  Va [(g,cX K),(i,cX K),(j,cX K)] ("name":Yp) CQ σ v H Q:=by
 obtain⟨pc,n,b,tc,o,rfl,d,f,a,p,r,s⟩:=h;have go:cX K (.ref pc::([]++[])) H Q E0:=⟨pc,rfl,n,b,_,_,_,_,_,f,a,q⟩;rcases d with⟨_,e⟩|⟨_,e⟩|⟨_,e⟩
 ·rw[k]at e;cases e;exact vv a uU go
 ·rw[l]at e;cases e;exact v7 (vv a uU go)
 ·rw[m]at e;cases e;exact v7 (v7 (vv a uU go))
def mD(K:Yc)(mg:Yp->Option Yd):Sp:=λe H Q _=>∃(p tt:Ye),e=[.ref p,.ref tt]/\∃S x b cs,hU K mg H p S x/\H tt=Ya (.tup b)/\YX (js H) b cs/\(∀c∈cs,Wf c)/\S.kp.length+ cs.length<=800/\
 ∀a d,Off [x.k] H a->hU K mg a p {S with kp:=d} x->Eb S.dn S.kp cs d->Q .non a
abbrev EZ:List Yp:=["self","calls"]
theorem iu:aG ["self","calls","told","call"] EZ (av iS):=fq
variable{AB:Ye}{zO:YE}(mB:∅ 5 iN f9 He (gi K))(du:∅ 5 eZ gZ aV (cX K))(AU:∅ 5 AB zO ["told"] (zZ K mg))(Bd:eM K mg "call_of" AB zO ["told"])(qC:∅ 5 pU mW qK (nR K mg))
include eV mB c6 du bz AU Bd qC j7 ao aA aB aY aw aD aE aW aZ bu bw d4 in
theorem vt(F:bN K "keep_new" "Page.keep_new" iS f fd):∅ 6 f fd EZ (mD K mg):=by
 refine F.oj iu ?_;rintro _ A _ _ H _ _ _ j _ _ hu ⟨p,tt,rfl,h⟩;refine⟨_,(ax (lU aam rfl (Im (K:=K) rfl (pv 1)) (aQ (i:=2) iu.nd rfl (Or.inl rfl))
   (aj (bc (i:=3) iu.nd rfl (Or.inl rfl) (bg AU Bd j (aa (pv 2) ai)))
   (ax (eF (PW.pt (zW (vF (dS K rfl (bg mB c6 j (aa (aL (K:=K) rfl (pv 0) rfl) (aa (bp (bT.cons aB.cl bw du bz (bT.cons ao.cl aZ du bz (bT.cons aA.cl bu du bz bT.nil))) (pv 3) j) ai))))) (uK (Gv (JK hu (bp (bT.cons aB.cl bw du bz (bT.cons ao.cl aZ du bz (bT.cons aA.cl bu du bz bT.nil))) (pv 3) j) (aL (K:=K) rfl (pv 0) rfl)))))) (ax (dC (bV (bT.cons aY.cl d4 qC j7 bT.nil) (pv 0) j (aa (pv 3) ai)))) cg))))),?_⟩
 obtain⟨S,x,N,cs,PA,O,tl,wf,hl,X⟩:=h;have Y:N.length=cs.length:=Y2 tl;cbv;let D:Nat->St->Hp->Prop:=λi σ A=>∃l m a,σ=[Ya (.ref p),Ya (.ref tt),l,m]/\Off [x.k] H A/\hU K mg A p {S with kp:=a} x/\Eb S.dn S.kp (cs.take i) a;refine CB (xs:=N) D ⟨Yb,Yb,S.kp,rfl,Off.refl _ _,PA,.nil⟩ (λi σ A _ z=>?_) ?_ ?_
 ·obtain⟨_,_,_,_,z,_⟩:=z;exact bJ.of (z _ _ O (IS O PA.kp (by intro w;cases w)))
 ·rintro i y σ A Z ⟨l,m,a,rfl,n,d,kr⟩;obtain⟨c,s,tc⟩:=cR tl Z;have kf:nQ H A:=n.kpf1 PA.kp trivial;have E:=wf c (Yw s);have hi:=(Yh.mp s).1;obtain⟨C,dx,mP,T,hp⟩:=d.ob;have Q:=mP;rw[aW]at Q;cases Q;obtain⟨cl,n1,n2,n3,n4,n5,n6,n7,n8,n9,n10,n11⟩:=id T;cbv;refine⟨y,rfl,c,tc.up kf.smh,E,λA1 pc t ab R=>?_⟩;have v:=d.same t;have G:=t _ _ hp;have I:=v.dn;have ac:=v.kp;have skip:∀{B:Hp},aJ A1 B->(c.k<=ct S.dn c.c∨eD c∈a.map λq=>eD q.2)->∃l m a,[Ya (V.ref p),Ya (V.ref tt),Ya y,Ya (V.ref pc)]=[Ya (.ref p),Ya (.ref tt),l,m]/\Off [x.k] H B/\hU K mg B p {S with kp:=a} x/\Eb S.dn S.kp (cs.take (i+ 1)) a:=fun{B} s' h=>by
   refine⟨_,_,a,rfl,(n.same t).same s',v.same s',?_⟩;rw[aN s];exact .skip kr h
  cbv;refine Hn aE aw aD R λA2 t2 g ad g2=>?_;cbv;refine⟨x.d,t2,rfl,S.dn,_,_,_,.inl (g _ _ I),bJ.of g2,?_⟩;cbv;refine dP (λh1=>?_) λh1=>?_
  ·have h1:¬ c.k<=ct S.dn c.c:=by simpa using h1
   have J:=g _ _ G;have o:=R.up (.same g);cbv;refine Hn aE aw aD o λA3 t3 r ae g3=>?_;have ag:=r _ _ J;have U:=v.same (g.trans r);have L:=U.kp;cbv;refine⟨x.k,_,rfl,jc.t (k:=eD c) L g3,?_⟩;cbv;refine dP (λh2=>?_) λh2=>?_
   ·have h2:eD c∉a.map λq=>eD q.2:=λz=>by rw[M8.mpr z]at h2;exact absurd h2 (by decide)
    have M:=o.up (.same r);have kl:=kr.len;have lt:(cs.take i).length<=cs.length:=by rw[mr];omega
    cbv;refine⟨p,.ref pc,rfl,_,x,c,U,M,h2,E.c0,E.c1,by show a.length<=900;omega,λA4 o4 P4=>?_⟩;cbv;refine⟨_,_,a++[(.ref pc,c)],rfl,λb u e W=>o4 b u (r _ _ (g _ _ (t _ _ (n b u e W)))) W,P4,?_⟩;rw[aN s];exact .add kr h1 h2
   ·have h2:eD c∈a.map λq=>eD q.2:=M8.mp (by
     cases w:(eK (a.map CU) (eD c)).isSome with
     |true=>rfl
     |false=>rw[w]at h2;exact absurd rfl h2)
    exact skip (g.trans r) (.inr h2)
  ·have h1:c.k<=ct S.dn c.c:=by simpa using h1
   exact skip g (.inl h1)
 rintro σ A ⟨l,m,a,rfl,n,d,kr⟩;rw[Y,YI]at kr;exact X A a n d kr
noncomputable abbrev lM:Y4:=bD (fm 46) 9
def Ve(tb ls a:List (Int×List (Int×Int))):Prop:=a.map (·.1)=tb.map (·.1)/\∀h∈tb.map (·.1),∀k,ct ((tbl a h).getD []) k=RV ls h k (ct ((tbl tb h).getD []) k)
theorem Ve.len{ls:List (Int×List (Int×Int))}(h:Ve tb ls Zs):Zs.length=tb.length:=by
 have:=congrArg adn h.1;rw[Yf,Yf]at this;exact this
def LnR(S:Pg)(c:List Nm)(e f:List (Int×List (Int×Int)))(cs:List bF)(S2:Pg):Prop:=∃d a b,Eb S.dn S.kp cs d/\Ve S.ta e a/\Ve S.ab f b/\S2={S with kp:=d,od:=if S.od.length<c.length then c else S.od,ta:=a,ab:=b}
def jy(K:Yc)(mg:Yp->Option Yd):Sp:=λn H Q _=>∃(p t:Ye),n=[.ref p,.ref t]/\∃S x g h d f cs,hU K mg H p S x/\Xh H t g h d f cs/\(∀c∈cs,Wf c/\c.n=S.nu)/\Q4 S 100/\S.kp.length+ cs.length<=60/\h.length<=100/\d.length<=64/\f.length<=64/\(∀e∈d,Td e.2)/\(∀e∈f,Td e.2)/\
 (g=S.me->∀b l,aJ H b->H l=Yb->b l=Ya (.lst [])->Q (.ref l) b)/\
 (g≠S.me->∀b i j k rw l m,Off (x.ft p) H b->(∀a,b a=Yb->H a=Yb)->hU K mg b p k i->(∀a∈i.ft p,a∈x.ft p∨H a=Yb)->LnR S h d f cs j->EY j k rw->H l=Yb->l∉i.ft p->b l=Ya (.lst m)->Gp b m rw->Q (.ref l) b)
abbrev Fn:List Yp:=["self","piece"]
theorem zx:aG ["self","piece"] Fn (av lM):=fq
variable{sh:Ye}{oJ:Ye}{pd:YE}{mK:YE}(lN:∅ 8 sh pd Es (qf K mg))(lC:Binds K pd Es [])(oW:∅ 8 oJ mK EZ (mD K mg))(nZ:Binds K mK EZ [])(eT:bE K c5 "merge" sh)(fE:bE K bX "keep_new" oJ)
include eV lN lC kN kK oW nZ fc gR aU aY aX aW eT fE d7 in
theorem yX(F:bN K "listen" "Page.listen" lM f fd):∅ 9 f fd Fn (jy K mg):=by
 refine F.oj zx ?_;rintro _ A _ _ H _ _ _ hr _ _ _ ⟨p,t,rfl,h⟩;refine⟨_,(aj (eF (br oP (bB (bG (K:=K) rfl) (pv 1) az (λ_ _=>rfl)) (aL (K:=K) rfl (pv 0) rfl) (bC _)) (ax (aP (d5 ai))) cg)
   (aj (dC (bV (bT.cons aY.cl fE oW nZ bT.nil) (pv 0) hr (aa (bB (bG (K:=K) rfl) (pv 1) az (λ_ _=>rfl)) ai)))
   (aj (eF (br Nf (bH (c8 (K:=K) rfl) (by rfl) fc aal (aa (bB (bG (K:=K) rfl) (pv 1) az (λ_ _=>rfl)) ai)) (bH (c8 (K:=K) rfl) (by rfl) fc aal (aa (aL (K:=K) rfl (pv 0) rfl) ai)) (bC _)) (ax (cM (K:=K) rfl (pv 0) (bZ (sI (K:=K) rfl) (by rfl) gR aaO (aa (bB (bG (K:=K) rfl) (pv 1) az (λ_ _=>rfl)) ai)) rfl)) cg)
   (aj (dC (bV (bT.cons aU.cl eT lN lC bT.nil) (aL (K:=K) rfl (pv 0) rfl) hr (aa (bB (bG (K:=K) rfl) (pv 1) az (λ_ _=>rfl)) ai)))
   (aj (dC (bV (bT.cons aU.cl eT lN lC bT.nil) (aL (K:=K) rfl (pv 0) rfl) hr (aa (bB (bG (K:=K) rfl) (pv 1) az (λ_ _=>rfl)) ai)))
   (ax (aP (bp (bT.cons aY.cl d7 kN kK bT.nil) (pv 0) hr)))))))),?_⟩
 obtain⟨S,x,L,D,la,lb,cs,PA,⟨O,Q,R,tt,xo,xa,xb,xt,gt,aq,no,ar,as,au,aw,aA,aB⟩,wf,ok,hl,bu,aD,aE,aI,aK,k1,k2⟩:=h;obtain⟨C,dx,mP,T,hp⟩:=PA.ob;have eC:=mP;rw[aW]at eC;cases eC;obtain⟨cl,n1,n2,n3,n4,n5,n6,n7,n8,n9,n10,n11⟩:=id T;have tK:=aU.cl;have nL:=aU.n1;have bv:bJ K H t [.int L,.ref O,.ref Q,.ref R,.ref tt]:=bJ.of gt;refine zq ?_;cbv;refine dP (λz=>?_) λz=>?_
 ·have z:L=S.me:=of_decide_eq_true z;cbv;intro l d aM s1 g1;exact k1 z d l s1 aM g1
 ·have z:¬ L=S.me:=λw=>z (decide_eq_true w);have k2:=k2 z;cbv;refine⟨p,tt,rfl,S,x,xt,cs,PA,aA,aB,λc hc=>(wf c hc).1,by omega,λd Zi o1 M kr=>?_⟩;have aR:nQ H d:=o1.kpf1 PA.kp trivial;have u1:=aR.smh;have bl:bJ K d t [.int L,.ref O,.ref Q,.ref R,.ref tt]:=bJ.of (u1 _ _ gt);obtain⟨C1,aS,U,_,E⟩:=M.ob;rw[aW]at U;cases U;obtain⟨xq,aT,aZ⟩:=M.od;have bw:a9 K d x.o xq:=a9.of aT;have bm:bJ K d O xo:=bJ.of (u1 _ _ aq);have bz:xo.length=D.length:=no.len;have bA:xq.length=S.od.length:=aZ.len;refine AW (λσ A=>∃j,σ=[Ya (.ref p),Ya (.ref t)]/\Off [p] d A/\hU K mg A p {S with kp:=Zi,od:=if S.od.length<D.length then D else S.od} {x with o:=j}/\(j=x.o∨d j=Yb)) ?_ λN Zd=>?_
  ·rintro σ A ⟨j,rfl,oA,g,fo⟩;have a0:nQ d A:=oA.kpf1 E (by show(11:Nat)≠5;decide);have uA:=u1.trans a0.smh;obtain⟨CA,bI,V,_,a3⟩:=g.ob;rw[aW]at V;cases V;have bn:bJ K A t [.int L,.ref O,.ref Q,.ref R,.ref tt]:=bJ.of (uA _ _ gt);obtain⟨⟨bK,bL,W,bP⟩,_⟩:=id g.ta;rw[aX]at W;cases W;cbv;refine⟨x.ta,Q,rfl,x.da,x.ra,S.ta,xa,la,g.ta,bJ.of (uA _ _ ar),iP uA as,aD,aI,λy a4 k m X e1 e2 Y=>?_⟩;have P3:=g.lra m X Y;have Z:Off [x.da] A y:=λb u e n=>m b u (λw=>n (Yi.mpr w)) e;have a5:nQ A y:=Z.kpf1 g.ta.dc trivial;have u3:=uA.trans a5.smh;obtain⟨C3,bQ,ab,_,bU⟩:=P3.ob;rw[aW]at ab;cases ab;have bt:bJ K y t [.int L,.ref O,.ref Q,.ref R,.ref tt]:=bJ.of (u3 _ _ gt);obtain⟨⟨bX,bY,ac,b0⟩,_⟩:=id P3.ab;rw[aX]at ac;cases ac;cbv;refine⟨x.ab,R,rfl,x.db,x.rb,S.ab,xb,lb,P3.ab,bJ.of (u3 _ _ au),iP u3 aw,aE,aK,λH4 a6 ad G ae f1 f2 ag=>?_⟩;have P4:=P3.lrb G ae ag;obtain⟨C4,b1,ah,_,b2⟩:=P4.ob;rw[aW]at ah;cases ah;have I:Ve S.ta la k:=⟨e1,e2⟩;have a7:Ve S.ab lb ad:=⟨f1,f2⟩;have kl:=kr.len;cbv;refine⟨p,rfl,_,_,P4,?_,?_,?_,?_,?_,ok.me,?_,λH5 x' S' rw l ys o5 ba P5 bb st bd nl gl tv=>?_⟩
   ·intro w;have w:k=[]:=w;have:=I.len;rw[w]at this;exact ok.ne (aaZ.mp this.symm)
   ·show k.length<=10;rw[I.len];exact ok.l10
   ·show Zi.length<=60;omega
   ·show(if S.od.length<D.length then D else S.od).length<=300;have:=ok.ol;split<;>omega
   ·show S.tk.length<=800;have:=ok.tl;omega
   ·intro q hq;rcases kr.mem q hq with w|w
    ·exact ok.nu q w
    ·exact(wf _ w).2
   ·have al:∀b u,H b=Ya u->b∉x.ft p->H4 b=Ya u:=λb u e B=>by
     have s:=λh=>B (cK.mpr h);have e1:=o1 b u e (λw=>s (by simp[Yi.mp w]));have eA:=oA b u e1 (λw=>s (.inl (Yi.mp w)));have e3:=m b u (λw=>s (by simp[w])) eA;exact G b u (λw=>s (by simp[w])) e3
    have am:∀a,d a=Yb->H a=none:=λa e=>by
     cases v:H a with
     |none=>rfl
     |some u=>
      by_cases w:a=x.k
      ·rw[w,M.kp]at e;cases e
      ·rw[o1 a u v (by simp[w])]at e;cases e
    have an:∀a,A a=Yb->H a=none:=λa e=>am a (by
     cases v:d a with
     |none=>rfl
     |some u=>
      by_cases w:a=p
      ·rw[w,a3]at e;cases e
      ·rw[oA a u v (by simp[w])]at e;cases e)
    have ao:∀a,y a=Yb->H a=none:=λa e=>an a (by
     cases v:A a with
     |none=>rfl
     |some u=>
      by_cases w:a=x.da
      ·rw[w,X.dc]at e;cases e
      ·rw[m a u w v]at e;cases e)
    have J:∀a,H4 a=Yb->H a=none:=λa e=>ao a (by
     cases v:y a with
     |none=>rfl
     |some u=>
      by_cases w:a=x.db
      ·rw[w,ae.dc]at e;cases e
      ·rw[G a u w v]at e;cases e)
    have ap:∀a∈({{{x with o:=j}with ra:=a4}with rb:=a6}:CW).ft p,a∈x.ft p∨H a=none:=λa ha=>by
     rcases cK.mp ha with w|w|w|w|w|w|w|w|w|w|w
     ·exact .inl (cK.mpr (by simp[w]))
     ·exact .inl (cK.mpr (by simp[w]))
     ·exact .inl (cK.mpr (by simp[w]))
     ·exact .inl (cK.mpr (by simp[w]))
     ·have w:a=j:=w;rcases fo with v|v
      ·exact .inl (cK.mpr (by simp[w,v]))
      ·exact .inr (w▸am _ v)
     ·exact .inl (cK.mpr (by simp[w]))
     ·exact .inl (cK.mpr (by simp[w]))
     ·exact .inl (cK.mpr (by simp[w]))
     ·exact .inl (cK.mpr (by simp[w]))
     ·obtain⟨q,hq,e⟩:=dw.mp w;rcases Y q hq with v|⟨r,e',v⟩
      ·have:a∈rwa x.ra:=dw.mpr ⟨q,v,e⟩;exact .inl (cK.mpr (by simp[this]))
      ·rw[e]at e';cases e';exact .inr (an _ v)
     ·obtain⟨q,hq,e⟩:=dw.mp w;rcases ag q hq with v|⟨r,e',v⟩
      ·have:a∈rwa x.rb:=dw.mpr ⟨q,v,e⟩;exact .inl (cK.mpr (by simp[this]))
      ·rw[e]at e';cases e';exact .inr (ao _ v)
    refine k2 H5 x' _ S' rw l ys (λb u e B=>o5 b u (al b u e B) (λw=>?_)) (λa e=>J a (ba a e)) P5 (λa ha=>?_) ⟨Zi,k,ad,kr,I,a7,rfl⟩ st (J l bd) nl gl tv
    ·rcases ap b w with v|v
     ·exact B v
     ·rw[e]at v;cases v
    ·rcases bb a ha with v|v
     ·exact ap a v
     ·exact .inr (J a v)
  ·cbv;refine dP (λw=>?_) λw=>?_
   ·have w:S.od.length<D.length:=by
     have w:((xq.length:Nat):Int)<((xo.length:Nat):Int):=of_decide_eq_true w;omega
    cbv;intro j H2 i s2 be;have bi:=s2 _ _ E;cbv;intro y b3 g3;rw[yq]at g3;have P2:=M.same s2;have Z:Off [p] H2 y:=λb u e B=>b3.at (λv=>B (Yi.mpr v)) e;have k3:nQ H2 y:=Z.kpf1 bi (by show(11:Nat)≠5;decide);have bj:j≠p:=λv=>by rw[v,E]at i;cases i
    refine Zd _ _ ⟨j,rfl,λb u e B=>Z b u (s2 _ _ e) B,?_,.inr i⟩;rw[if_pos w];exact P2.newo (ma':=S.ma) Z ⟨_,aS,mP,T,g3⟩ (b3.at bj be) (no.up ((u1.trans (de.same s2)).trans k3.smh)) (λv=>by rw[←v,M.tk]at i;cases i)
   ·have w:¬ S.od.length<D.length:=λv=>w (decide_eq_true (by
     show((xq.length:Nat):Int)<((xo.length:Nat):Int);omega))
    refine Zd _ _ ⟨x.o,rfl,Off.refl _ _,?_,.inl rfl⟩;rw[if_neg w];exact M
noncomputable abbrev vL(x:bF):Nm:=(x.n,x.c,x.k)
theorem Bg{α:Type}[DecidableEq α]:∀{l m:List α},l.Nodup->(∀a∈l,a∈m)->l.length<=m.length
 |[],_,_,_=>cT _
 |a::l,m,nd,h=>by
  rw[vc]at nd;have ha:=h a Yu;have:=Bg (l:=l) (m:=m.erase a) nd.2 λb c=>by
   refine(adQ λz:b=a=>nd.1 (z▸c)).mpr (h b (Yo _ c))
  rw[List.length_erase_of_mem ha]at this;have:=List.length_pos_of_mem ha;rw[gm];omega
structure Js(hs:List Int)(mk:List bF)(S:Pg):Prop where
 ne:S.ta≠[]
 l10:S.ta.length<=10
 me:S.me∈GB.hl S.ha
 kin:∀q∈S.kp,q.2∈mk
 kl:S.kp.length<=mk.length
 od:S.od.Nodup
 oin:∀n∈S.od,n∈mk.map vL
 tl:S.tk.length+ mz mk S.dn<=mk.length
 dk:∀e∈S.dn,e.1∈hs
variable{od:List Nm}
structure Rr(hs:List Int)(nu:Int)(mk:List bF):Prop where
 wf:∀c∈mk,Wf c
 nu:∀c∈mk,c.n=nu
 hs:∀c∈mk,c.c∈hs
variable{hs:List Int}{nu:Int}
def Ae(m:List (Int×Int))(rw:List (V×bF)):Prop:=∀(i:Nat) (q:V×bF),rw[i]?=Ya q->q.2.k=ct (rM m (rw.take i)) q.2.c+ 1/\(q.2.kd=("own":Yp)∨cov (rM m (rw.take i)) (fj q.2.cs)=true)
theorem Ae.snoc(h:Ae m rw)(hk:q.2.k=ct (rM m rw) q.2.c+ 1)(b:q.2.kd="own"∨cov (rM m rw) (fj q.2.cs)=true):Ae m (rw++[q]):=by
 intro i r a;rcases abY i rw.length with z|z
 ·rw[aah z]at a;rw[acm (xl z)];exact h i r a
 ·have:i=rw.length:=by
   have:=(Yh.mp a).1;rw[Yq,Y6]at this;omega
  subst this;rw[aaH (Yl _),adS]at a;have:q=r:=YF a;subst this;rw[afn]
  ·exact⟨hk,b⟩
  ·rfl
theorem Kj(h:∀k,ct m k=ct m' k):cov m n=cov m' n:=by
 unfold cov;simp only[h]
theorem L5(h0:∀k,ct m0 k=ct d k)(h:Fw hs (vf zs) ns m0 rw Zf m):Ae d rw/\(∀k,ct m k=ct (rM d rw) k)/\∀q∈rw,q∈zs:=by
 induction h with
 |start=>exact⟨λi q a=>by simp at a,h0,λq a=>nomatch a⟩
 |@step rw Zf m v x f e ih=>
  obtain⟨h,_,l,b⟩:=kH e;obtain⟨n,c,g⟩:=iL l;have g:x.k=ct m h+ 1:=g;have c:x.c=h:=c;obtain⟨c1,j,o⟩:=ih;refine⟨c1.snoc ?_ ?_,λk=>?_,λq a=>?_⟩
  ·show x.k=ct (rM d rw) x.c+ 1;rw[←j,g,c]
  ·show x.kd="own"∨cov (rM d rw) (fj x.cs)=true;unfold vS Lk at b;rw[aas,aas,acY]at b;rcases b.1.2 with z|z
   ·exact .inl (of_decide_eq_true z)
   ·exact .inr (by rw[←Kj j];exact z)
  ·rw[pF,lH,lH];by_cases z:k=x.c
   ·rw[if_pos z,if_pos z]
   ·rw[if_neg z,if_neg z];exact j k
  ·rcases YD.mp a with z|z
   ·exact o q z
   ·rw[Yi.mp z];exact n
theorem tX(zs:List (V×bF)):(zs.map (·.1)).zip (zs.map (·.2))=zs:=by
 rw[agi];exact ada zs
theorem Uw(h:Rn (zs.map (·.1)) (zs.map (·.2)) m ns rw m'):Ae m rw/\∀q∈rw,q∈zs:=by
 obtain⟨hs,a,b,_,_,e,f,_⟩:=h;rw[tX]at f;have:=L5 e f;exact⟨this.1,this.2.2⟩
theorem Te:∀{rw:List (V×bF)},Ae m rw->(∀q∈rw,q.2∈mk)->rw.length+ mz mk (rM m rw)<=mz mk m:=by
 intro rw;generalize e:rw.length=n
 induction n generalizing rw with
 |zero=>
  intro _ _;rw[aaZ.mp e];show 0+ mz mk m<=mz mk m;omega
 |succ n ih=>
  intro h hm;have ne:rw≠[]:=λz=>by rw[z]at e;cases e
  obtain⟨l,q,rfl⟩:∃l q,rw=l++[q]:=⟨rw.dropLast,rw.getLast ne,(List.dropLast_concat_getLast ne).symm⟩;have b:l.length=n:=by rw[Yq,Y6]at e;omega
  have h1:Ae m l:=λi r a=>by
   have c:=(Yh.mp a).1;have:=h i r (by rw[aah c];exact a);rw[acm (xl c)]at this;exact this
  have f:=ih b h1 λr a=>hm r (YY _ a);have d:=(h n q (by rw[aaH (by omega),b,adS];rfl)).1;rw[afn b]at d;have:=N8 (cs:=mk) (m:=rM m l) (hm q (YK _ (Yi.mpr rfl))) d;rw[pF];omega
theorem AV{k v:Int}:∀{m:List (Int×Int)} {e:Int×Int},e∈dU m k v->e.1=k∨∃a∈m,a.1=e.1
 |[],e,h=>by
  have:e=(k,v):=by simpa [dU]using h
  exact .inl (by rw[this])
 |p::m,e,h=>by
  unfold dU at h;by_cases z:p.1=k
  ·rw[if_pos z]at h;rcases Ym.mp h with w|w
   ·exact .inl (by rw[w];exact z)
   ·exact .inr ⟨e,Yo _ w,rfl⟩
  ·rw[if_neg z]at h;rcases Ym.mp h with w|w
   ·exact .inr ⟨p,Yu,by rw[w]⟩
   ·exact(AV w).imp id fun⟨a,h1,h2⟩=>⟨a,Yo _ h1,h2⟩
theorem Ld(h0:∀e∈m,e.1∈hs):∀{rw:List (V×bF)},(∀q∈rw,q.2.c∈hs)->∀e∈rM m rw,e.1∈hs:=by
 intro rw;unfold rM
 induction rw generalizing m with
 |nil=>intro _;exact h0
 |cons q rw ih=>
  intro b;refine ih (m:=dU m q.2.c q.2.k) (λe c=>?_) λr d=>b r (Yo _ d);have:=AV c;rcases this with z|z
  ·rw[z];exact b q Yu
  ·obtain⟨f,a,g⟩:=z;rw[←g];exact h0 f a
theorem Wh{T:List Nm}(hz:∀q∈zs,vL q.2∈T)(nd:ns.Nodup)(hn:∀n∈ns,n∈T)(h:Pw (zs.map (·.1)) (zs.map (·.2)) m ns Zv gs m'):gs.Nodup/\∀n∈gs,n∈T:=by
 induction h with
 |start _=>exact⟨nd,hn⟩
 |@step Zv rw gs m1 m2 q j p la fo rn ih=>
  obtain⟨i,l⟩:=ih;obtain⟨g,o,_⟩:=la;rw[tX]at g;refine⟨?_,λn d=>?_⟩
  ·rw[jJ];refine⟨i.sublist (aco _ _),by simp,λa ha b f z=>?_⟩;have f:b=(q.2.n,q.2.c,q.2.k):=by simpa using f
   obtain⟨k,c⟩:=YJ ha;rw[agE]at c;by_cases w:k<j
   ·rw[if_pos w]at c;obtain⟨r,e⟩:=Yh.mp c;have:=fo.2.1 k r w;rw[e,z,f]at this;have this:q.2.k<=ct m1 q.2.c:=this;have:=(Cf o).2;omega
   ·rw[if_neg w]at c;cases c
  ·rcases YD.mp d with z|z
   ·exact l n (acL z)
   ·rw[Yi.mp z];exact hz q g
theorem LD(M:Rr hs nu mk)(h:Js hs mk S)(st:EY S S' rw):Js hs mk S'/\Ae S.dn rw/\(∀q∈rw,q.2∈mk)/\S'.dn=rM S.dn rw/\S'.me=S.me/\S'.nu=S.nu/\S'.ha=S.ha/\S'.ro=S.ro/\S'.ma=S.ma/\∀q∈S'.kp,q∈S.kp:=by
 obtain⟨v,i,w,x,d,k,b,j,g,_,l,m,o,y,f,p,A,rfl⟩:=st;obtain⟨c1,r⟩:=Uw f;have c:∀q∈rw,q.2∈mk:=λq a=>h.kin q (g.mem_iff.mp (r q a));have lt:b.length=S.ta.length:=by
  have:=congrArg adn p.keys;rw[Yf,Yf]at this;exact this
 have e:d.Nodup/\∀n∈d,n∈mk.map vL:=by
  by_cases z:jj S.ha=.int S.me
  ·obtain⟨s,B,t,_⟩:=m z;exact Wh (λq a=>Y3 (h.kin q (g.mem_iff.mp a))) h.od h.oin t
  ·rw[l z];exact⟨h.od,h.oin⟩
 have u:=Te c1 c;have tl:=h.tl;refine⟨⟨λz=>?_,by show b.length<=10;rw[lt];exact h.l10,h.me,λq a=>h.kin q (YU.mp a).1,ir (YQ _ _) h.kl,e.1,e.2,?_,Ld h.dk λq a=>M.hs _ (c q a)⟩,c1,c,rfl,rfl,rfl,rfl,rfl,rfl,λq a=>(YU.mp a).1⟩
 ·have z:b=[]:=z;rw[z]at lt;exact h.ne (aaZ.mp lt.symm)
 ·show(S.tk++rw).length+ mz mk (rM S.dn rw)<=mk.length;rw[Yq];omega
noncomputable abbrev jU:Y4:=fm 48
noncomputable abbrev nN:Y4:=fm 49
noncomputable abbrev nH:Y4:=fm 50
def ox(K:Yc):Sp:=λb H Q _=>∃(a:Ye) (k:Int),b=[.ref a,.int k]/\∃ns:List Int,a9 K H a (ns.map V.int)/\0<=k/\∀c:Int,Q (.int c) H
abbrev Ep:List Yp:=["_law_script","_law_k"]
theorem xF:aG ["_law_script","_law_k"] Ep (av jU):=fq
include eV fc in
theorem xx(F:bN K "_law_cell_at" "_law_cell_at" jU f fd):∅ 1 f fd Ep (ox K):=by
 refine F.oj xF ?_;rintro _ _ _ _ _ _ _ _ _ _ _ _ ⟨a,k,rfl,h⟩;refine⟨_,(aj (eF (br Ay (pv 1) (bH (c8 (K:=K) rfl) (by rfl) fc aal (aa (pv 0) ai)) (bC _)) (ax (aP (bB (bO (K:=K) rfl) (pv 0) (pv 1) (λ_ _=>rfl)))) cg)
   (ax (aP az))),?_⟩
 obtain⟨ns,d,h0,q⟩:=h;cbv;refine dP (λh1=>?_) λh1=>?_
 ·have h1:k<((ns.map V.int).length:Nat):=of_decide_eq_true h1;rw[Yf]at h1;have b:k.toNat<ns.length:=by omega
  have c:uZ (ns.map V.int) k=Ya (V.int ns[k.toNat]):=HC h0 (by rw[Yy,Yk b];rfl);cbv;exact q _
 ·cbv;exact q _
def sj(K:Yc):Sp:=λa H Q _=>∃(c k:Int),a=[.int c,.int k]/\0<=k/\k<=100/\∀r:Int,0<=r->r<2147483647->Q (.int r) H
abbrev Ef:List Yp:=["_law_cell","_law_k"]
theorem sf:aG ["_law_cell","_law_k","_law_number"] Ef (av nN):=fq
include eV in
theorem Af(F:bN K "_law_mixed" "_law_mixed" nN f fd):∅ 1 f fd Ef (sj K):=by
 refine F.oj sf ?_;rintro _ _ _ _ _ _ _ _ _ _ _ _ ⟨c,k,rfl,h⟩;refine⟨_,(aj (bc (i:=2) sf.nd rfl (Or.inl rfl) (a8 df (a8 vX (a8 eQ (a8 eQ (a8 df (pv 0) az) (a8 vX az (pv 1))) az) az) az))
   (ax (aP (a8 df (a8 vX (pv 2) (a8 eQ (a8 hG (pv 2) az) az)) az)))),?_⟩
 obtain⟨h0,h1,a⟩:=h;have c0:=KW c (show(2147483647:Int)≠0 by decide);have c1:=aaj c (show(0:Int)<2147483647 by decide);have e:CC 7919 k:=.inl ⟨by decide,by decide⟩;have g:CC (c%2147483647+ 7919*k+ 1) 48271:=.inl ⟨by omega,by omega⟩;have b:=KW ((c%2147483647+ 7919*k+ 1)*48271) (show(2147483647:Int)≠0 by decide);have d:=aaj ((c%2147483647+ 7919*k+ 1)*48271) (show(0:Int)<2147483647 by decide);generalize hz:((c%2147483647+ 7919*k+ 1)*48271)%2147483647=z at b d;have j:CC z (z / 1009+ 69621):=.inl ⟨by omega,by omega⟩;cbv;rw[hz];cbv;exact a _ (KW _ (by decide)) (aaj _ (by decide))
noncomputable def hnd(a b:Int)(n:Nat):List Int:=(Y8 n).map fun(k:Nat)=>a+ (k:Int)*b
theorem SM{a b:Int}{n:Nat}(h0:0<=a)(h1:a<40)(f:1<=b)(g:b<=7)(hn:n<=4):Hs (hnd a b n):=by
 refine⟨?_,λx c=>?_⟩
 ·unfold hnd;rw[abw];refine ach.imp fun{i j} h=>?_;have:((i:Int)+ 1)*b<=(j:Int)*b:=adU (by omega) (by omega);have e:((i:Int)+ 1)*b=(i:Int)*b+ b:=by rw[Int.add_mul,ag2]
  omega
 ·unfold hnd at c;obtain⟨k,d,rfl⟩:=YA.mp c;have d:=aak.mp d;have l:0<=(k:Int)*b:=Int.mul_nonneg (by omega) (by omega);have m:(k:Int)*b<=3*b:=adU (by omega) (by omega);omega
def rK(K:Yc):Sp:=λe H Q _=>∃(c n:Int),e=[.int c,.int n]/\2<=n/\n<=4/\∀d l a b,aJ H d->H l=Yb->0<=a->a<40->1<=b->b<=7->d l=Ya (.lst ((hnd a b n.toNat).map V.int))->Q (.ref l) d
abbrev ER:List Yp:=["_law_cell","_law_amount"]
theorem Ac:aG ["_law_cell","_law_amount"] ER (av nH):=fq
include eV ji in
theorem Ai(F:bN K "_law_hands" "_law_hands" nH f fd):∅ 1 f fd ER (rK K):=by
 refine F.oj Ac ?_;rintro _ A _ _ H _ _ _ _ _ _ _ ⟨c,n,rfl,h⟩;refine⟨_,(ax (aP (bS ["_law_cell","_law_k"] [Ya 0,Yb] rfl rfl (by kernel_rfl) (qX rfl ji (aa (pv 1) ai)) (λ_ _ _ _ _ nd=>aQ (i:=1) nd rfl (Or.inl rfl)) (λ_ _ _ _ _=>dD) (λ_ _ _ _ _=>(a8 eQ (a8 df (pv 0) az) (a8 vX (pv 1) (a8 eQ az (a8 df (a8 hG (pv 0) az) az)))))))),?_⟩;obtain⟨h0,h1,j⟩:=h;obtain⟨N,rfl⟩:=aaF (show 0<=n by omega);have k:=KW c (show(40:Int)≠0 by decide);have l:=aaj c (show(0:Int)<40 by decide);have m:=KW (c / 40) (show(7:Int)≠0 by decide);have p:=aaj (c / 40) (show(0:Int)<7 by decide);cbv;refine⟨_,rfl,by omega,by omega,λD a=>?_⟩;refine sY (λi σ A=>∃v,σ=[Ya (.int c),v]/\aJ H A/\A D=Ya (.lst ((hnd (c%40) (1+ c / 40%7) i).map V.int))) ⟨Yb,rfl,aC a,af⟩ ?_ ?_
 ·rintro i σ A g ⟨v,rfl,d,e⟩;have g:i<N:=by simpa using g
  have q:CC (0+ (i:Int)) (1+ c / 40%7):=.inl ⟨by omega,by omega⟩;cbv;refine⟨_,e,?_,_,rfl,λb o z=>?_,?_⟩
  ·rw[Yf];unfold hnd;rw[Yf,Rw];exact aF (by omega)
  ·rw[ak (ay z a)];exact d b o z
  ·rw[af];unfold hnd;rw[acX,Yr,Yr,ae7];rfl
 rintro σ A ⟨v,rfl,d,e⟩;cbv;exact j A D _ _ d a k l (by omega) (by omega) e
noncomputable abbrev mX:Y4:=fm 51
abbrev PW:=Ye×Pg×CW
variable{W W':List PW}{w':PW}
noncomputable def ti(w:PW):List Ye:=w.2.2.ft w.1
structure Wd(K:Yc)(mg:Yp->Option Yd)(H:Hp)(hs:List Int)(nu gr:Int)(W:List PW)(mk:List bF):Prop where
 ho:Hs hs
 len:W.length=hs.length
 pg:∀(i:Nat) (w:PW),W[i]?=Ya w->hU K mg H w.1 w.2.1 w.2.2
 dj:∀(i j:Nat) (u v:PW),W[i]?=Ya u->W[j]?=Ya v->i≠j->∀a∈ti u,a∉ti v
 st:∀(i:Nat) (w:PW),W[i]?=Ya w->hs[i]?=Ya w.2.1.me/\w.2.1.nu=nu/\w.2.1.ha=gr
 ok:∀(i:Nat) (w:PW),W[i]?=Ya w->Js hs mk w.2.1
 mo:Rr hs nu mk
 ma:∀(i:Nat) (w:PW),W[i]?=Ya w->w.2.1.ma=(((mk.filter λc=>decide (c.c=w.2.1.me)).length:Nat):Int)
 mx:∀c∈mk,∀(i:Nat) (w:PW),W[i]?=Ya w->c.c=w.2.1.me->c.k<=w.2.1.ma
section
variable{gr:Int}
theorem Wd.tr(D:Wd K mg H hs nu gr W mk){w:PW}(h:W[i]?=Ya w)(ha:a∈ti w):∃o,H a=Ya o/\U5 o:=(D.pg i w h).fto a ha
theorem Wd.off(D:Wd K mg H hs nu gr W mk)(o:Off F H H')(k:nQ H H')(n:∀(i:Nat) (w:PW),W[i]?=Ya w->∀a∈ti w,a∉F):Wd K mg H' hs nu gr W mk:=
 ⟨D.ho,D.len,λi w h=>(D.pg i w h).off o k (n i w h),D.dj,D.st,D.ok,D.mo,D.ma,D.mx⟩
theorem Wd.same(D:Wd K mg H hs nu gr W mk)(s:aJ H H'):Wd K mg H' hs nu gr W mk:=D.off (F:=[]) (Off.of s) (.same s) λ_ _ _ _ _ z=>nomatch z
theorem Wd.put(D:Wd K mg H hs nu gr W mk){w:PW}(h:W[i]?=Ya w)(o:Off (ti w) H H')(P:hU K mg H' w.1 S' x')(ft:∀a∈x'.ft w.1,a∈ti w∨H a=Yb)(mo:Rr hs nu mk')(d:S'.me=w.2.1.me/\S'.nu=w.2.1.nu/\S'.ha=w.2.1.ha)(ok:Js hs mk' S')(l:∀(j:Nat) (u:PW),W[j]?=Ya u->j≠i->Js hs mk' u.2.1)(ma:S'.ma=(((mk'.filter λc=>decide (c.c=w.2.1.me)).length:Nat):Int))(m:∀(j:Nat) (u:PW),W[j]?=Ya u->j≠i->u.2.1.ma=(((mk'.filter λc=>decide (c.c=u.2.1.me)).length:Nat):Int))(mx:∀c∈mk',c.c=w.2.1.me->c.k<=S'.ma)(p:∀c∈mk',∀(j:Nat) (u:PW),W[j]?=Ya u->j≠i->c.c=u.2.1.me->c.k<=u.2.1.ma):Wd K mg H' hs nu gr (W.set i (w.1,S',x')) mk':=by
 have t:=(Yh.mp h).1;have x:nQ H H':=iF o λa ha=>D.tr h ha;have cs:∀{j:Nat} {u:PW},(W.set i (w.1,S',x'))[j]?=Ya u->(j=i/\u=(w.1,S',x'))∨(j≠i/\W[j]?=Ya u):=fun{j u} e=>by
  rw[xw]at e;by_cases z:i=j
  ·rw[if_pos z,if_pos t]at e;exact .inl ⟨z.symm,(YF e).symm⟩
  ·rw[if_neg z]at e;exact .inr ⟨λy=>z y.symm,e⟩
 have g:∀{j:Nat} {u:PW},W[j]?=Ya u->j≠i->∀a∈ti u,a∉x'.ft w.1:=fun{j u} e n a ha r=>by
  rcases ft a r with z|z
  ·exact D.dj j i u w e h n a ha z
  ·obtain⟨_,q,_⟩:=D.tr e ha;rw[q]at z;cases z
 refine⟨D.ho,by rw[afo];exact D.len,λj u e=>?_,λj k u v e f n a ha=>?_,λj u e=>?_,λj u e=>?_,mo,λj u e=>?_,λc s j u e=>?_⟩
 ·rcases cs e with⟨_,rfl⟩|⟨n,e⟩
  ·exact P
  ·exact(D.pg j u e).off o x λa ha=>D.dj j i u w e h n a ha
 ·rcases cs e with⟨rfl,rfl⟩|⟨n1,e⟩
  ·rcases cs f with⟨rfl,rfl⟩|⟨n2,f⟩
   ·exact absurd rfl n
   ·exact λr=>g f n2 a r ha
  ·rcases cs f with⟨z,rfl⟩|⟨n2,f⟩
   ·exact g e n1 a ha
   ·exact D.dj j k u v e f n a ha
 ·rcases cs e with⟨rfl,rfl⟩|⟨_,e⟩
  ·obtain⟨a,b,c⟩:=D.st j w h;exact⟨by rw[a];show _=Ya S'.me;rw[d.1],d.2.1.trans b,d.2.2.trans c⟩
  ·exact D.st j u e
 ·rcases cs e with⟨_,rfl⟩|⟨n,e⟩
  ·exact ok
  ·exact l j u e n
 ·rcases cs e with⟨_,rfl⟩|⟨n,e⟩
  ·show S'.ma=(((mk'.filter λc=>decide (c.c=S'.me)).length:Nat):Int);rw[d.1];exact ma
  ·exact m j u e n
 ·rcases cs e with⟨_,rfl⟩|⟨n,e⟩
  ·exact λz=>mx c s (by rw[←d.1];exact z)
  ·exact p c s j u e n
theorem Wd.put0(D:Wd K mg H hs nu gr W mk){w:PW}(h:W[i]?=Ya w)(o:Off (ti w) H H')(P:hU K mg H' w.1 S' x')(ft:∀a∈x'.ft w.1,a∈ti w∨H a=Yb)(d:S'.me=w.2.1.me/\S'.nu=w.2.1.nu/\S'.ha=w.2.1.ha)(ok:Js hs mk S')(ma:S'.ma=w.2.1.ma):Wd K mg H' hs nu gr (W.set i (w.1,S',x')) mk:=
 D.put h o P ft D.mo d ok (λj u e _=>D.ok j u e) (ma.trans (D.ma i w h)) (λj u e _=>D.ma j u e) (λc b z=>by rw[ma];exact D.mx c b i w h z) λc b j u e _ z=>D.mx c b j u e z
end
def rB(K:Yc)(mg:Yp->Option Yd):Sp:=λd H Q _=>∃(a:Ye),d=[.ref a]/\∃ns:List Int,a9 K H a (ns.map V.int)/\
 ∀b t c ap hs nu gr W,aJ H b->b t=Ya (.tup [.ref c,.int nu,.ref ap])->b c=Ya (.lst (hs.map V.int))->b ap=Ya (.lst (W.map λw=>V.ref w.1))->Wd K mg b hs nu gr W []->2<=hs.length->hs.length<=4->GB.hl gr=hs->(∀(i:Nat) (w:PW),W[i]?=Ya w->(∃ro,w.2.1=Pg.new w.2.1.me nu gr ro)/\∀a∈ti w,H a=Yb/\a≠c/\a≠ap)->H c=Yb->H ap=Yb->Q (.ref t) b
abbrev xn:List Yp:=["_law_script"]
theorem iI:aG ["_law_script","_law_hands_here","_law_number","_law_group"] xn (av mX):=fq
variable{oS:Ye}{qm:Ye}{t5:Ye}{mH:YE}{ou:YE}{si:YE}(oU:∅ 6 oS mH FF (l9 K mg))(oz:Binds K mH FF [])(eN:∅ 7 qm ou Ep (ox K))(eO:eM K mg "_law_cell_at" qm ou Ep)(uh:∅ 7 t5 si ER (rK K))(ue:eM K mg "_law_hands" t5 si ER)(R0:mg "sum"=Yb)(Cr:Mk K bX oS)
include eV oU oz eN eO uh ue R0 aY aW Cr in
theorem Ap(F:bN K "_law_pages" "_law_pages" mX f fd):∅ 8 f fd xn (rB K mg):=by
 refine F.oj iI ?_;rintro _ A _ _ H _ _ E p _ _ _ ⟨a,rfl,h⟩;refine⟨_,(aj (bc (i:=1) iI.nd rfl (Or.inl rfl) (bg uh ue p (aa (a8 hG (bg eN eO p (aa (pv 0) (aa az ai))) az) (aa (a8 eQ az (a8 df (bg eN eO p (aa (pv 0) (aa az ai))) az)) ai))))
   (aj (bc (i:=2) iI.nd rfl (Or.inr rfl) (a8 df (bg eN eO p (aa (pv 0) (aa az ai))) (a8 eQ (a8 Ct az az) az)))
   (aj (bc (i:=3) iI.nd rfl (Or.inr rfl) (bH (JD rfl) (by rfl) R0 aiX (aa (bS ["_law_hand"] [Yb] rfl rfl (by kernel_rfl) (bo (K:=K) rfl (pv 1)) (λ_ _ _ _ _ nd=>aQ (i:=0) nd rfl (Or.inl rfl)) (λ_ _ _ _ _=>dD) (λ_ _ _ _ _=>(a8 Ox az (pv 0)))) ai)))
   (ax (aP (cF (aa (pv 1) (aa (pv 2) (aa (bS ["_law_number","_law_group","_law_script","_law_hand"] [Ya 2,Ya 3,Ya 0,Yb] rfl rfl (by kernel_rfl) (bo (K:=K) rfl (pv 1)) (λ_ _ _ _ _ nd=>aQ (i:=3) nd rfl (Or.inl rfl)) (λ_ _ _ _ _=>dD) (λ_ _ _ _ _=>(ri Cr oU p rfl aW oz .nil oF (aa (pv 3) (aa (pv 0) (aa (pv 1) (aa (a8 eQ az (a8 df (bg eN eO p (aa (pv 2) (aa az ai))) az)) ai))))))) ai))))))))),?_⟩
 obtain⟨ns,hS,kk⟩:=h;cbv;refine⟨a,0,rfl,ns,hS,by decide,λc0=>?_⟩;cbv;refine⟨a,0,rfl,ns,hS,by decide,λr=>?_⟩;cbv;have q0:=KW r (show(3:Int)≠0 by decide);have q1:=aaj r (show(0:Int)<3 by decide);refine⟨c0 / 3,2+ r%3,rfl,by omega,by omega,λH1 ah ha d s1 ae a0 a1 b1 b7 B=>?_⟩;obtain⟨hs,Hh,lh,ag⟩:∃hs,Hs hs/\hs.length=(2+ r%3).toNat/\hs=hnd ha d (2+ r%3).toNat:=⟨_,SM a0 a1 b1 b7 (by omega),by unfold hnd;rw[Yf,Rw],rfl⟩;rw[←ag]at B;have Q:=s1.seq hS;have aD:=K7;have aB:Nt 10 18:=⟨by decide,by decide,by decide⟩;cbv;refine⟨a,1,rfl,ns,Q,by decide,λc1=>?_⟩;cbv;intro D0 R;refine bh (K:=K) (a:=ah) (xs:=hs.map V.int) (λi σ H'=>∃v,σ=[v]/\aJ H1 H'/\H' D0=Ya (.lst (((hs.take i).map λh=>1*(2:Int)^h.toNat).map V.int))) ⟨Yb,rfl,aC R,af⟩ ?_ ?_ ?_
 ·rintro i σ H' _ ⟨_,_,z,_⟩;exact a9.of (z _ _ B)
 ·rintro i x σ H' hx ⟨v,rfl,sm,al⟩;obtain⟨h,C,rfl⟩:=gF hx;have hi:=(Yh.mp C).1;have p:=Hh.rg h (Yw C);have cp:Nt 1 h:=⟨p.1,by omega,by decide⟩;cbv;refine⟨_,al,?_,_,rfl,λb o z=>?_,?_⟩
  ·rw[Yf,Yf,mr];exact aF (by omega)
  ·rw[ak (ay z R)];exact sm b o z
  ·rw[af,aN C,Yr,Yr];rfl
 rintro σ H2 ⟨v,rfl,S,T⟩;rw[show hs.take (hs.map V.int).length=hs by rw[Yf,YI]]at T;obtain⟨n0,n1,n2⟩:=Hh.set;refine⟨D0,_,rfl,a9.of T,?_⟩;generalize ((hs.map λh=>1*(2:Int)^h.toNat)).sum=gr at n0 n1 n2⊢;obtain⟨nu,am⟩:∃nu:Int,nu=c1%(10^abN 18+ 1):=⟨_,rfl⟩;rw[←am];have an:=S.seq Q;have m:=S _ _ B;cbv;intro E U;have aE:ah≠E:=λz=>by rw[←z,m]at U;cases U
 let ao:Nat->St->Hp->Prop:=λi σ A=>∃v W,σ=[Ya (.int nu),Ya (.int gr),Ya (.ref a),v]/\aJ H2 A/\A E=Ya (.lst ((W:List PW).map λw=>V.ref w.1))/\W.length=i/\(∀(j:Nat) (w:PW),W[j]?=Ya w->hU K mg A w.1 w.2.1 w.2.2/\(∃h ro,hs[j]?=Ya h/\w.2.1=Pg.new h nu gr ro)/\∀b∈ti w,H2 b=Yb/\b≠E)/\∀(j k:Nat) (u w:PW),W[j]?=Ya u->W[k]?=Ya w->j≠k->∀b∈ti u,b∉ti w;refine bh (K:=K) (a:=ah) (xs:=hs.map V.int) ao ⟨Yb,[],rfl,aC U,af,rfl,(λj w e=>by simp at e),λj k u w e=>by simp at e⟩ ?_ ?_ ?_
 ·rintro i σ A _ ⟨_,_,_,z,_⟩;exact a9.of (z _ _ m)
 ·rintro i y σ A hy ⟨v,W,rfl,M,N,X,l,dj⟩;obtain⟨h,C,rfl⟩:=gF hy;have hi:=(Yh.mp C).1;have p:=Hh.rg h (Yw C);have ap:=M.seq an;cbv;refine⟨a,2,rfl,ns,ap,by decide,λc2=>?_⟩;cbv;intro q dx A1 O g g1;refine⟨q,h,nu,gr,1+ c2%5,rfl,_,dx,aW,aY,g1,n0,n1,p.1,p.2,λY Z k2 P2 aq=>⟨rfl,?_⟩⟩;have ab:q≠E:=λz=>by rw[z,N]at O;cases O
  have ac:Y E=Ya (.lst (W.map λw=>V.ref w.1)):=k2 _ _ (g _ _ N) (Ne.symm ab);have D:Off [E] A (upd Y E (.lst (W.map (λw=>V.ref w.1)++[V.ref q]))):=λb o e G=>by
   have G:b≠E:=λz=>G (Yi.mpr z);rw[ak G];exact k2 _ _ (g _ _ e) (λz=>by rw[z,O]at e;cases e)
  have ar:nQ A _:=D.kpf1 N trivial;have ad:Off [E] Y (upd Y E (.lst (W.map (λw=>V.ref w.1)++[V.ref q]))):=λb o e G=>by
   rw[ak λz=>G (Yi.mpr z)];exact e
  have as:nQ Y _:=ad.kpf1 ac trivial;have fr:∀b∈Z.ft q,A b=Yb/\b≠E:=λb d=>by
   rcases aq b d with z|z
   ·rw[z];exact⟨O,ab⟩
   ·exact⟨g.free z,λw=>by rw[w,g _ _ N]at z;cases z⟩
  have s:∀{j:Nat} {w:PW},W[j]?=Ya w->∀b∈ti w,b∉Z.ft q:=fun{j w} e b d I=>by
   obtain⟨o,q1,_⟩:=(l j w e).1.fto b d;rw[(fr b I).1]at q1;cases q1
  have cs:∀{j:Nat} {u:PW},(W++[(q,Pg.new h nu gr (1+ c2%5),Z)])[j]?=Ya u->(W[j]?=Ya u)∨(j=i/\u=(q,Pg.new h nu gr (1+ c2%5),Z)):=fun{j u} e=>by
   rcases abY j W.length with z|z
   ·rw[aah z]at e;exact .inl e
   ·have hj:=(Yh.mp e).1;rw[Yq,Y6]at hj;have:j=W.length:=by omega
    subst this;rw[aaH (Yl _),adS]at e;exact .inr ⟨X,(YF e).symm⟩
  refine⟨_,ac,aF (by rw[Yf];omega),_,W++[(q,Pg.new h nu gr (1+ c2%5),Z)],rfl,λb o e=>?_,by rw[af,Yr];rfl,by rw[Yq,X];rfl,λj u e=>?_,λj k u w e f n b d=>?_⟩
  ·have G:b≠E:=λz=>by rw[z,U]at e;cases e
   exact D b o (M b o e) (λz=>G (Yi.mp z))
  ·rcases cs e with e|⟨rfl,rfl⟩
   ·obtain⟨p1,p2,p3⟩:=l j u e;exact⟨p1.off D ar λb d z=>(p3 b d).2 (Yi.mp z),p2,p3⟩
   ·exact⟨P2.off ad as λb d z=>(fr b d).2 (Yi.mp z),⟨h,_,C,rfl⟩,λb d=>⟨M.free (fr b d).1,(fr b d).2⟩⟩
  ·rcases cs e with e|⟨rfl,rfl⟩
   ·rcases cs f with f|⟨rfl,rfl⟩
    ·exact dj j k u w e f n b d
    ·exact s e b d
   ·rcases cs f with f|⟨z,rfl⟩
    ·exact λI=>s f b I d
    ·exact absurd z.symm n
 rintro σ A ⟨v,W,rfl,M,N,X,l,dj⟩;rw[Yf]at X;cbv;intro t A1 ht g g1;have au:aJ H A:=s1.trans (S.trans M);have aw:(GB.hl gr).length<=10:=by rw[n2];omega
 have aA:hs≠[]:=λz=>by rw[z]at lh;rw[aa4]at lh;omega
 refine kk A1 t ah E hs nu gr W (au.trans g) g1 (g _ _ (M _ _ m)) (g _ _ N) ⟨Hh,X,λi w e=>(l i w e).1.same g,dj,λi w e=>?_,λi w e=>?_,⟨(λc J=>nomatch J),(λc J=>nomatch J),λc J=>nomatch J⟩,λi w e=>?_,λc J=>nomatch J⟩ (by omega) (by omega) n2 (λi w e=>?_) ae (s1.free (S.free U))
 ·obtain⟨_,⟨h,ro,e1,L⟩,_⟩:=l i w e;rw[L];exact⟨e1,rfl,rfl⟩
 ·obtain⟨_,⟨h,ro,e1,L⟩,_⟩:=l i w e;rw[L];refine⟨?_,?_,?_,(λq O=>nomatch O),Yl _,.nil,(λn hn=>nomatch hn),Yl _,λe he=>nomatch he⟩
  ·show((GB.hl gr).map λh=>(h,([]:List (Int×Int))))≠[];rw[n2];intro z;exact aA (ab8.mp z)
  ·show((GB.hl gr).map λh=>(h,([]:List (Int×Int)))).length<=10;rw[Yf];exact aw
  ·show h∈GB.hl gr;rw[n2];exact Yw e1
 ·obtain⟨_,⟨h,ro,e1,L⟩,_⟩:=l i w e;rw[L];rfl
 ·obtain⟨_,⟨h,ro,e1,L⟩,e3⟩:=l i w e;refine⟨⟨ro,by rw[L];rfl⟩,λb d=>⟨s1.free (S.free (e3 b d).1),λz=>?_,(e3 b d).2⟩⟩;have:=(e3 b d).1;rw[z,m]at this;cases this
def rf(m a:List (Int×Int)):Prop:=∀k,ct m k<=ct a k
theorem rf.refl(m:List (Int×Int)):rf m m:=λ_=>aat _
theorem rf.trans{a b c:List (Int×Int)}(x:rf a b)(y:rf b c):rf a c:=λk=>aaK (x k) (y k)
def RM(cs:List bF)(ns:List Nm)(m:List (Int×Int)):Prop:=∀x∈cs,vS m x (uR ns m)=false
theorem Nl{p:Nm}(h:uR ns m=Ya p)(le:rf m m')(n:¬ xZ m' p)(b:ns <+: Zk):uR Zk m'=Ya p:=by
 obtain⟨t,rfl⟩:=b;unfold uR at h⊢;obtain⟨_,c,d,rfl,h2⟩:=acn.mp h;refine acn.mpr ⟨by simpa using n,c,d++t,by simp,λa ha=>?_⟩;have:=h2 a ha;simp at this⊢;exact aaK this (le _)
theorem MS(le:rf m m')(h:cov m n=true):cov m' n=true:=by
 unfold cov at h⊢;rw[ae4]at h⊢;intro x a;have:=of_decide_eq_true (h x a);exact decide_eq_true (aaK this (le _))
theorem zp(h:vS m x (uR ns m)=true)(le:rf m m')(hk:ct m' x.c<x.k)(a:ns <+: Zk):vS m' x (uR Zk m')=true:=by
 unfold vS Lk at h⊢;rw[aas,aas]at h⊢;obtain⟨⟨h1,h2⟩,h3⟩:=h;have h1:=of_decide_eq_true h1;have b:=le x.c;refine⟨⟨decide_eq_true (by omega),?_⟩,?_⟩
 ·rw[acY]at h2⊢;rcases h2 with z|z
  ·exact .inl z
  ·exact .inr (MS le z)
 ·rw[acY]at h3⊢;rcases h3 with z|z
  ·exact .inl z
  ·have z:=of_decide_eq_true z;exact .inr (decide_eq_true (Nl z le (by show ¬ (x.k<=ct m' x.c);omega) a))
theorem MU(h:Fw hs (vf zs) ns m0 rw Zf m):rf m0 m:=by
 induction h with
 |start=>exact .refl _
 |@step rw Zf m v x f e ih=>
  obtain⟨h,_,c,_⟩:=kH e;obtain⟨_,a,b⟩:=iL c;have a:x.c=h:=a;have b:x.k=ct m h+ 1:=b;intro k;rw[lH];have:=ih k;by_cases z:k=x.c
  ·rw[if_pos z];rw[z,a]at this⊢;omega
  ·rw[if_neg z];exact this
theorem XQ(h:Fw hs (vf zs) ns m0 rw Zf m)(le:rf m0 m')(cl:RM Zw Zk m')(sub:∀q∈zs,q.2∈Zw)(c:ns <+: Zk):rf m m':=by
 induction h with
 |start=>exact le
 |@step rw Zf m v x f e ih=>
  obtain⟨h,_,d,tk⟩:=kH e;obtain⟨g,a,b⟩:=iL d;have a:x.c=h:=a;have b:x.k=ct m h+ 1:=b;intro k;rw[lH];by_cases z:k=x.c
  ·rw[if_pos z,z];by_cases w:ct m' x.c<x.k
   ·have:=zp tk ih w c;rw[cl x (sub _ g)]at this;cases this
   ·omega
  ·rw[if_neg z];exact ih k
theorem QE(a:h∈hs):h∈RT hs Zf:=by
 cases Zf with
 |none=>exact a
 |some l=>
  show h∈Pc hs l;unfold Pc;rw[YD,YU,YU];by_cases z:l<=h
  ·exact .inl ⟨a,decide_eq_true z⟩
  ·exact .inr ⟨a,decide_eq_true (by omega)⟩
theorem TN(hm:∀h,h∈hs↔∃x∈cs,x.c=h)(u:KP (ws.zip cs))(g:ws.length=cs.length)(e:fst (RT hs Zf) (vf (ws.zip cs)) m (uR ns m)=Yb):RM cs ns m:=by
 intro x a;obtain⟨i,b⟩:=YJ a;have c:=(Yh.mp b).1;have d:(ws[i]'(by omega),x)∈ws.zip cs:=Yw (i:=i) (by rw[acZ];exact⟨Yk _,b⟩);cases w:vS m x (uR ns m)with
 |false=>rfl
 |true=>
  exfalso;unfold fst at e;have:=aew.mp e _ (QE ((hm x.c).mpr ⟨x,a,rfl⟩));have f:ct m x.c+ 1=x.k:=by
   unfold vS Lk at w;rw[aas,aas]at w;have:=of_decide_eq_true w.1.1;omega
  unfold CV at this;rw[f,show vf (ws.zip cs) x.c x.k=Ya (ws[i]'(by omega),x)from IJ u d]at this;have this:(if vS m x (uR ns m)=true then Ya (ws[i]'(by omega),x)else Yb)=none:=this;rw[if_pos w]at this;cases this
noncomputable def AF(tk:List (V×bF)):List Nm:=(tk.filter λq=>decide (q.2.kd=("one":Yp))).map λq=>vL q.2
theorem Iz(a b:List (V×bF)):AF (a++b)=AF a++AF b:=by
 unfold AF;rw[YS,Yr]
theorem QK{n:Nm}(h:n∈AF tk):∃q∈tk,vL q.2=n/\q.2.kd="one":=by
 obtain⟨q,a,e⟩:=YA.mp h;obtain⟨h1,h2⟩:=YU.mp a;exact⟨q,h1,e,of_decide_eq_true h2⟩
structure S6(nu:Int)(mk:List bF):Prop where
 un:(mk.map vL).Nodup
 ps:∀c∈mk,0<c.k
 nn:∀c∈mk,c.n=nu
theorem S6.inj(u:S6 nu mk){d:bF}(f:c∈mk)(hd:d∈mk)(q:c.c=d.c)(r:c.k=d.k):c=d:=by
 obtain⟨i,g⟩:=YJ f;obtain⟨j,e⟩:=YJ hd;obtain⟨h,k⟩:=Yh.mp g;obtain⟨l,m⟩:=Yh.mp e;have n:vL c=vL d:=by
  show(c.n,c.c,c.k)=(d.n,d.c,d.k);rw[u.nn c f,u.nn d hd,q,r]
 by_cases z:i=j
 ·subst z;rw[g]at e;exact YF e
 ·exfalso;have o:∀a b (ha:a<mk.length) (p:b<mk.length),a<b->vL mk[a]≠vL mk[b]:=λa b ha p ab=>by
   have:=nh.mp u.un a b (by rw[Yf];exact ha) (by rw[Yf];exact p) ab;rw[ab4,ab4]at this;exact this
  rcases aem z with w|w
  ·exact o i j h l w (by rw[k,m];exact n)
  ·exact o j i l h w (by rw[k,m];exact n.symm)
structure Jd(mk:List bF)(tk:List (V×bF))(f:Int->Int)(od:List Nm):Prop where
 on:AF tk <+: od
 cv:∀c∈mk,c.k<=f c.c->c∈tk.map (·.2)
 tc:∀q∈tk,q.2.k<=f q.2.c
 tn:(tk.map λq=>(q.2.c,q.2.k)).Nodup
 tm:∀q∈tk,q.2∈mk
 tp:∀h,0<f h->∃c∈mk,c.c=h/\c.k=f h
theorem Jd.congr{f g:Int->Int}(h:Jd mk tk f od)(e:∀k,f k=g k):Jd mk tk g od:=by
 have:f=g:=funext e;rw[←this];exact h
theorem T7{α:Type}{l m od:List α}{p:α}(h1:l <+: od)(h2:m++[p] <+: od)(h3:p∉l)(h4:∀x,od[l.length]?=Ya x->x∉m):l++[p] <+: od:=by
 have e:l.length=m.length:=by
  obtain⟨t,b⟩:=h1;obtain⟨u,hu⟩:=h2;rcases adj l.length m.length with z|z|z
  ·exfalso;have a:od[l.length]?=Ya m[l.length]:=by
    rw[←hu,RW,aah z,Yk z]
   exact h4 _ a (Rk z)
  ·exact z
  ·exfalso;have a:od[m.length]?=Ya p:=by
    rw[←hu,RW,aaH (Yl _),adS];rfl
   rw[←b,aah z]at a;exact h3 (Yw a)
 obtain⟨t,b⟩:=h1;obtain⟨u,hu⟩:=h2;have:l=m:=by
  have:=congrArg (List.take l.length) (b.trans hu.symm);rw[afn,RW,acm (by omega),abI (by omega)]at this
  ·exact this
  ·rfl
 rw[this];exact⟨u,hu⟩
theorem QF(u:S6 nu mk)(h:Jd mk tk (ct m) od)(nd:od.Nodup)(L:∀n∈od,∃c∈mk,vL c=n/\c.kd="one")(M:ns <+: od)(C:x∈mk)(hk:x.k=ct m x.c+ 1)(N:x.kd="one"->uR ns m=Ya (vL x)):Jd mk (tk++[(v,x)]) (ct (dU m x.c x.k)) od:=by
 have A:∀k,ct (dU m x.c x.k) k=if k=x.c then x.k else ct m k:=λk=>lH _ _ _ _
 have D:∀k,ct m k<=ct (dU m x.c x.k) k:=λk=>by
  rw[A];split
  ·rename_i z;rw[z];omega
  ·exact aat _
 refine⟨?_,λc l B=>?_,λq d=>?_,?_,λq d=>?_,λk f=>?_⟩
 ·rw[Iz];by_cases o:x.kd="one"
  ·have e:AF [(v,x)]=[vL x]:=by
    unfold AF;rw[aa0]
    ·rfl
    ·exact decide_eq_true o
   rw[e];have nx:=N o;unfold uR at nx;obtain⟨O,I,P,E,c1⟩:=acn.mp nx;have r:∀p∈I,xZ m p:=λp hp=>by
    have:=c1 p hp;simpa using this
   have s:¬ xZ m (vL x):=by simpa using O
   have F:∀n∈AF tk,xZ m n:=λn hn=>by
    obtain⟨q,d,rfl,_⟩:=QK hn;exact h.tc q d
   refine T7 h.on (m:=I) ?_ (λz=>s (F _ z)) λn hn hm=>?_
   ·obtain⟨t,g⟩:=M;exact⟨P++t,by rw[←g,E];simp⟩
   ·obtain⟨c,l,J,ok⟩:=L n (Yw hn);have Q:c.k<=ct m c.c:=by
     have:=r n hm;rw[←J]at this;exact this
    obtain⟨q,d,j⟩:=YA.mp (h.cv c l Q);have G:n∈AF tk:=by
     rw[←J,←j];refine YA.mpr ⟨q,YU.mpr ⟨d,?_⟩,rfl⟩;rw[j];exact decide_eq_true ok
    obtain⟨i,K⟩:=YJ G;have y:=(Yh.mp K).1;obtain⟨t,g⟩:=h.on;have H:od[i]?=Ya n:=by rw[←g,aah y];exact K
    obtain⟨R,S⟩:=Yh.mp H;obtain⟨T,U⟩:=Yh.mp hn;exact nh.mp nd i (AF tk).length R T y (S.trans U.symm)
  ·have e:AF [(v,x)]=[]:=by
    unfold AF;rw[aa1]
    ·rfl
    ·simpa using o
   rw[e,Y1];exact h.on
 ·rw[Yr];rw[A]at B;by_cases z:c.c=x.c
  ·rw[if_pos z]at B;by_cases w:c.k<=ct m c.c
   ·exact YY _ (h.cv c l w)
   ·refine YK _ ?_;rw[u.inj l C z (by rw[z]at w;omega)];exact List.mem_singleton_self _
  ·rw[if_neg z]at B;exact YY _ (h.cv c l B)
 ·rcases YD.mp d with z|z
  ·exact aaK (h.tc q z) (D _)
  ·rw[Yi.mp z,A,if_pos rfl];exact aat _
 ·rw[Yr];refine jJ.mpr ⟨h.tn,vc.mpr ⟨xu,ad7⟩,λa ha b V e=>?_⟩;rw[Yi.mp V]at e;obtain⟨q,d,j⟩:=YA.mp ha;rw[e]at j;have E:q.2.c=x.c:=congrArg Prod.fst j;have H:q.2.k=x.k:=congrArg Prod.snd j;have:=h.tc q d;rw[E,H]at this;omega
 ·rcases YD.mp d with z|z
  ·exact h.tm q z
  ·rw[Yi.mp z];exact C
 ·rw[A]at f⊢;by_cases z:k=x.c
  ·rw[if_pos z];exact⟨x,C,z.symm,rfl⟩
  ·rw[if_neg z]at f⊢;exact h.tp k f
theorem Wb(u:S6 nu mk)(h:Jd mk tk (ct d) od)(j:∀k,ct m0 k=ct d k)(nd:od.Nodup)(l:∀n∈od,∃c∈mk,vL c=n/\c.kd="one")(p:ns <+: od)(hz:∀q∈zs,q.2∈mk)(f:Fw hs (vf zs) ns m0 rw Zf m):Jd mk (tk++rw) (ct m) od:=by
 induction f with
 |start=>rw[Y1];exact h.congr λk=>(j k).symm
 |@step rw Zf m v x f e ih=>
  obtain⟨i,_,r,a⟩:=kH e;obtain⟨s,b,g⟩:=iL r;have b:x.c=i:=b;have g:x.k=ct m i+ 1:=g;rw[←RW];refine QF u ih nd l p (hz _ s) (by rw[b];exact g) λo=>?_;unfold vS at a;rw[aas,acY]at a;rcases a.2 with z|z
  ·rw[decide_eq_true o]at z;cases z
  ·exact of_decide_eq_true z
def Cv(dn:List (Int×Int))(cs:List bF)(od:List Nm):Prop:=∀M,rf dn M->RM cs od M->∀p∈od,xZ M p
theorem QQ(h:Fw hs (vf zs) ns m0 rw Zf m)(le:rf m0 m')(cl:RM Zw Zk m')(sub:∀q∈zs,q.2∈Zw∨q.2.k<=ct m' q.2.c)(c:ns <+: Zk):rf m m':=by
 induction h with
 |start=>exact le
 |@step rw Zf m v x f e ih=>
  obtain⟨h,_,d,tk⟩:=kH e;obtain⟨g,a,b⟩:=iL d;have a:x.c=h:=a;have b:x.k=ct m h+ 1:=b;intro k;rw[lH];by_cases z:k=x.c
  ·rw[if_pos z,z];by_cases w:ct m' x.c<x.k
   ·have:=zp tk ih w c;rcases sub _ g with y|y
    ·rw[cl x y]at this;cases this
    ·have y:x.k<=ct m' x.c:=y;omega
   ·omega
  ·rw[if_neg z];exact ih k
theorem Fq(u:KP (ws.zip cs))(a:ws.length=cs.length)(h:Rn ws cs m ns rw m'):
  rf m m'/\RM cs ns m'/\∀M Zw Zk,rf m M->RM Zw Zk M->(∀x∈cs,x∈Zw∨x.k<=ct M x.c)->ns <+: Zk->rf m' M:=by
 obtain⟨hs,i,j,⟨_,hm⟩,_,e,f,g⟩:=h;refine⟨λk=>?_,TN hm u a g,λM Zw Zk b cl sub c=>?_⟩
 ·rw[←e];exact MU f k
 ·exact QQ f (λk=>by rw[e];exact b k) cl (λq d=>sub _ (abm d).2) c
theorem M6(u:KP (ws.zip cs))(e:ws.length=cs.length)(c0:Cv m cs ns)(h:Pw ws cs m ns Zv gs m'):
  ns <+: gs/\(∀p∈gs,xZ m' p)/\rf m m'/\(∀p∈gs,p∈ns∨∃x∈cs,vL x=p/\x.kd="one")/\∀M Zw Zk,rf m M->RM Zw Zk M->(∀x∈cs,x∈Zw∨x.k<=ct M x.c)->gs <+: Zk->rf m' M:=by
 induction h with
 |start r=>
  obtain⟨a,b,c⟩:=Fq u e r;exact⟨aaT _,c0 _ a b,a,λp hp=>.inl hp,c⟩
 |@step Zv rw gs m1 m2 q j p la fo rn ih=>
  obtain⟨l,d,n,s,t⟩:=ih;obtain⟨v,w,_⟩:=la;obtain⟨o,f⟩:=agb.mp w;have o:=of_decide_eq_true o;have g:q.2∈cs:=(abm v).2;have E:ct m1 q.2.c=q.2.k-1:=of_decide_eq_true (agb.mp f).1;have y:j=gs.length:=by
   have:=fo.1;by_cases z:j<gs.length
   ·exact absurd (d _ (Rk z)) (fo.2.2 z)
   ·omega
  rw[y,YI]at rn⊢;obtain⟨a,b,c⟩:=Fq u e rn;have nx:uR (gs++[(q.2.n,q.2.c,q.2.k)]) m1=Ya (q.2.n,q.2.c,q.2.k):=by
   have:=HW (m:=m1) (ns:=gs) (j:=gs.length) (p:=(q.2.n,q.2.c,q.2.k)) (λk A _=>d _ (Rk A)) (Yl _) (by
    show ¬ q.2.k<=ct m1 q.2.c;omega)
   rw[YI]at this;exact this
  have B:vS m1 q.2 (uR (gs++[(q.2.n,q.2.c,q.2.k)]) m1)=true:=by
   rw[nx];unfold vS;rw[f,decide_eq_true (show Ya (q.2.n,q.2.c,q.2.k)=Ya (q.2.n,q.2.c,q.2.k)from rfl)];simp
  have C:xZ m2 (q.2.n,q.2.c,q.2.k):=by
   show q.2.k<=ct m2 q.2.c;by_cases z:ct m2 q.2.c<q.2.k
   ·have:=zp B a z (aaT _);rw[b q.2 g]at this;cases this
   ·omega
  refine⟨l.trans (agF _ _),λp hp=>?_,n.trans a,λp hp=>?_,λM Zw Zk D cl sub i=>c M Zw Zk (t M Zw Zk D cl sub ((agF _ _).trans i)) cl sub i⟩
  ·rcases YD.mp hp with z|z
   ·exact aaK (d p z) (a _)
   ·rw[Yi.mp z];exact C
  ·rcases YD.mp hp with z|z
   ·exact s p z
   ·rw[Yi.mp z];exact .inr ⟨q.2,g,rfl,o⟩
theorem tbl_mem(e:tbl tb h=Ya d):d∈tb.map (·.2):=by
 induction tb with
 |nil=>cases e
 |cons a tb ih=>
  unfold tbl at e;by_cases z:a.1=h
  ·rw[if_pos z]at e;cases e;exact YA.mpr ⟨a,Yu,rfl⟩
  ·rw[if_neg z]at e;obtain⟨b,c,f⟩:=YA.mp (ih e);exact YA.mpr ⟨b,Yo _ c,f⟩
theorem U0(l:US tb h m Zs):(∀k,k≠h->tbl Zs k=tbl tb k)/\∀d,tbl tb h=Ya d->rf d m->∃d',tbl Zs h=Ya d'/\rf d' m:=by
 cases z:tbl tb h with
 |none=>
  rw[l.1 z];exact⟨λ_ _=>rfl,λd e=>by cases e⟩
 |some d0=>
  obtain⟨j,_,mx,rfl⟩:=l.2 d0 z;refine⟨λk n=>by rw[ub,if_neg λw=>n w.1],λd e a=>?_⟩;cases e;refine⟨j,by rw[ub,if_pos ⟨rfl,by rw[z];rfl⟩],λk=>?_⟩;obtain⟨⟨x,b,ex⟩,_⟩:=mx k;rw[←ex];rcases Ym.mp b with w|w
  ·rw[w];exact a k
  ·rw[Yi.mp w];exact aat _
theorem Ut(st:EY S S' rw)(u:S6 nu mk)(kin:∀q∈S.kp,q.2∈mk)(kn:(S.kp.map λq=>eD q.2).Nodup)(P:Jd mk S.tk (ct S.dn) S.od)(F:∀n∈S.od,∃c∈mk,vL c=n/\c.kd="one")(m:S'.od.Nodup)(c0:jj S.ha=.int S.me->Cv S.dn (S.kp.map (·.2)) S.od):
  Jd mk S'.tk (ct S'.dn) S'.od/\S.od <+: S'.od/\(jj S.ha≠.int S.me->S'.od=S.od)/\rf S.dn S'.dn/\(∀n∈S'.od,∃c∈mk,vL c=n/\c.kd="one")/\
  (jj S.ha=.int S.me->(∃d,tbl S.ta S.me=Ya d/\rf d S.dn)->Cv S'.dn (S'.kp.map (·.2)) S'.od)/\(∀h,h≠S.me->tbl S'.ta h=tbl S.ta h)/\∀d,tbl S.ta S.me=Ya d->rf d S.dn->∃d',tbl S'.ta S.me=Ya d'/\rf d' S'.dn:=by
 obtain⟨o,N,m1,O,g,Q,R,j,w,_,no,G,_,_,T,lt,U,rfl⟩:=st;have V:KP S.kp:=NN (λq i=>u.nn _ (kin q i)) kn;have H:KP ((o.map (·.1)).zip (o.map (·.2))):=by
  rw[tX];exact λq i r W=>V q (w.mem_iff.mp i) r (w.mem_iff.mp W)
 have I:(o.map (·.1)).length=(o.map (·.2)).length:=by rw[Yf,Yf]
 have mem:∀x,x∈o.map (·.2)↔x∈S.kp.map (·.2):=λx=>(w.map _).mem_iff;have s:∀q∈o,q.2∈mk:=λq i=>kin q (w.mem_iff.mp i);have J:jj S.ha=.int S.me->Cv S.dn (o.map (·.2)) S.od:=λe M l cl=>c0 e M l λx t=>cl x ((mem x).mpr t);have ex:S.od <+: g/\∀n∈g,∃c∈mk,vL c=n/\c.kd="one":=by
  by_cases e:jj S.ha=.int S.me
  ·obtain⟨y,X,A,_⟩:=G e;obtain⟨a,_,_,b,_⟩:=M6 H I (J e) A;refine⟨a,λn hn=>?_⟩;rcases b n hn with z|⟨x,t,Y,Z⟩
   ·exact F n z
   ·obtain⟨q,i,rfl⟩:=YA.mp t;exact⟨q.2,s q i,Y,Z⟩
  ·rw[no e];exact⟨aaT _,F⟩
 have m:g.Nodup:=m;have P1:Jd mk S.tk (ct S.dn) g:=⟨P.on.trans ex.1,P.cv,P.tc,P.tn,P.tm,P.tp⟩;obtain⟨hs,X,Zf,_,_,B,f,_⟩:=T;rw[tX]at f;have Pf:=Wb u P1 B m ex.2 (List.take_prefix _ _) s f;have K:∀k,ct O k=ct (rM S.dn rw) k:=(L5 B f).2.1;have ld:rf S.dn (rM S.dn rw):=λk=>by
  rw[←K,←B];exact MU f k
 obtain⟨t1,L⟩:=U0 lt;refine⟨Pf.congr K,ex.1,no,ld,ex.2,λe hd=>?_,t1,λd hd l=>L d hd (l.trans ld)⟩;obtain⟨d,hd,C⟩:=hd;obtain⟨d',D,v⟩:=L d hd (C.trans ld);obtain⟨y,ab,A,_⟩:=G e;obtain⟨_,E,_,_,gr⟩:=M6 H I (J e) A;intro M l cl p hp;have l:rf (rM S.dn rw) M:=l;have cl:RM ((yw j S.kp).map (·.2)) g M:=cl;have:=gr M _ g (ld.trans l) cl (λx t=>?_) (aaT _)
 ·exact aaK (E p hp) (this _)
 ·obtain⟨q,i,rfl⟩:=YA.mp ((mem x).mp t);by_cases z:q.2.k<=ct j q.2.c
  ·right
   have l1:ct j q.2.c<=ct d' q.2.c:=((U.2 q.2.c).2 _ (tbl_mem D));exact aaK z (aaK l1 (aaK (v _) (l _)))
  ·left
   refine YA.mpr ⟨q,?_,rfl⟩;unfold yw;exact YU.mpr ⟨i,by rw[decide_eq_false z];rfl⟩
structure OI(nu:Int)(W:List PW)(mk:List bF):Prop where
 mu:S6 nu mk
 po:∀(i:Nat) (w:PW),W[i]?=Ya w->Jd mk w.2.1.tk (ct w.2.1.dn) w.2.1.od/\∀n∈w.2.1.od,∃c∈mk,vL c=n/\c.kd="one"
 px:∀(i:Nat) (w w0:PW),W[i]?=Ya w->W[0]?=Ya w0->w.2.1.od <+: w0.2.1.od
 cv:∀w0:PW,W[0]?=Ya w0->Cv w0.2.1.dn (w0.2.1.kp.map (·.2)) w0.2.1.od/\jj w0.2.1.ha=.int w0.2.1.me/\∃d,tbl w0.2.1.ta w0.2.1.me=Ya d
 nl:∀(i:Nat) (w:PW),W[i]?=Ya w->i≠0->jj w.2.1.ha≠.int w.2.1.me
 me:∀(i:Nat) (w w0:PW),W[i]?=Ya w->W[0]?=Ya w0->i≠0->w0.2.1.me≠w.2.1.me
 ta:∀(i:Nat) (w w0:PW) (d:List (Int×Int)),W[i]?=Ya w->W[0]?=Ya w0->tbl w.2.1.ta w0.2.1.me=Ya d->rf d w0.2.1.dn
def Xm(W:List PW)(b:List Nm)(c:List (Int×List (Int×Int))):Prop:=∀a:PW,W[0]?=Ya a->b <+: a.2.1.od/\∀e∈c,e.1=a.2.1.me->rf e.2 a.2.1.dn
def G0(W c:List PW):Prop:=∀a:PW,c[0]?=Ya a->∃b,W[0]?=Ya b/\a.2.1.me=b.2.1.me/\b.2.1.od <+: a.2.1.od/\rf b.2.1.dn a.2.1.dn
theorem G0.refl(W:List PW):G0 W W:=λa h=>⟨a,h,rfl,aaT _,.refl _⟩
theorem G0.trans{A B C:List PW}(x:G0 A B)(y:G0 B C):G0 A C:=λc h=>by
 obtain⟨b,d,e,f,g⟩:=y c h;obtain⟨a,ha,i,j,k⟩:=x b d;exact⟨a,ha,e.trans i,j.trans f,k.trans g⟩
theorem Xm.gr(h:Xm W so la)(g:G0 W W'):Xm W' so la:=λc e=>by
 obtain⟨d,f,i,j,k⟩:=g c e;obtain⟨a,b⟩:=h d f;exact⟨a.trans j,λq l z=>(b q l (z.trans i)).trans k⟩
theorem LF{w:PW}(O:OI nu W mk)(h:W[i]?=Ya w)(mu:S6 nu mk')(sub:∀c∈mk,c∈mk')(new:∀c∈mk',c∈mk∨∀(j:Nat) (u:PW),W[j]?=Ya u->¬ c.k<=ct u.2.1.dn c.c)(H:S2.dn=w.2.1.dn)(e2:S2.tk=w.2.1.tk)(g:S2.me=w.2.1.me)(J:S2.ha=w.2.1.ha)(kin:∀q∈S2.kp,q.2∈mk')(kn:(S2.kp.map λq=>eD q.2).Nodup)(ks:∀q∈w.2.1.kp,q.2∈S2.kp.map (·.2))(m:S2.od=w.2.1.od∨(w.2.1.od.length<S2.od.length/\∀a:PW,W[0]?=Ya a->S2.od <+: a.2.1.od))(B:∀(a:PW) (d:List (Int×Int)),W[0]?=Ya a->tbl S2.ta a.2.1.me=Ya d->rf d a.2.1.dn)(K:(∃d,tbl w.2.1.ta w.2.1.me=Ya d)->∃d,tbl S2.ta w.2.1.me=Ya d)(L:S'.od.Nodup)(st:EY S2 S' rw)(r:S'.me=S2.me)(S:S'.ha=S2.ha):OI nu (W.set i (w.1,S',x')) mk'/\G0 W (W.set i (w.1,S',x')):=by
 have T:=(Yh.mp h).1;obtain⟨a,h0⟩:∃a,W[0]?=Ya a:=⟨_,Yk (by omega)⟩;have up:∀{j:Nat} {u:PW},W[j]?=Ya u->Jd mk' u.2.1.tk (ct u.2.1.dn) u.2.1.od/\∀n∈u.2.1.od,∃c∈mk',vL c=n/\c.kd="one":=fun{j u} e=>by
  obtain⟨p,o⟩:=O.po j u e;refine⟨⟨p.on,λc s I=>?_,p.tc,p.tn,λq N=>sub _ (p.tm q N),λk hk=>?_⟩,λn hn=>?_⟩
  ·rcases new c s with z|z
   ·exact p.cv c z I
   ·exact absurd I (z j u e)
  ·obtain⟨c,s,z⟩:=p.tp k hk;exact⟨c,sub c s,z⟩
  ·obtain⟨c,s,z⟩:=o n hn;exact⟨c,sub c s,z⟩
 obtain⟨A,ow⟩:=up h;obtain⟨_,o0⟩:=up h0;have x:w.2.1.od <+: S2.od:=by
  rcases m with z|⟨z,y⟩
  ·rw[z];exact aaT _
  ·exact List.prefix_of_prefix_length_le (O.px i w a h h0) (y a h0) (by omega)
 have C:S2.od <+: a.2.1.od:=by
  rcases m with z|⟨z,y⟩
  ·rw[z];exact O.px i w a h h0
  ·exact y a h0
 have P:∀n∈S2.od,∃c∈mk',vL c=n/\c.kd="one":=λn hn=>o0 n (C.subset hn);have P2:Jd mk' S2.tk (ct S2.dn) S2.od:=by
  rw[H,e2];exact⟨A.on.trans x,A.cv,A.tc,A.tn,A.tm,A.tp⟩
 have c0:jj S2.ha=.int S2.me->Cv S2.dn (S2.kp.map (·.2)) S2.od:=λz=>by
  by_cases y:i=0
  ·subst y;obtain rfl:a=w:=YF (h0.symm.trans h);have eo:S2.od=a.2.1.od:=by
    rcases m with v|⟨v,t⟩
    ·exact v
    ·have:=(t a h0).length_le;omega
   rw[H,eo];refine λM I cl=>(O.cv a h0).1 M I λc s=>?_;obtain⟨q,N,rfl⟩:=YA.mp s;exact cl _ (ks q N)
  ·rw[g,J]at z;exact absurd z (O.nl i w h y)
 obtain⟨U,V,r3,Q,X,r6,r7,r8⟩:=Ut st mu kin kn P2 P L c0;rw[H]at Q;have cs:∀{j:Nat} {u:PW},(W.set i (w.1,S',x'))[j]?=Ya u->(j=i/\u=(w.1,S',x'))∨(j≠i/\W[j]?=Ya u):=fun{j u} e=>by
  rw[xw]at e;by_cases z:i=j
  ·rw[if_pos z,if_pos T]at e;exact .inl ⟨z.symm,(YF e).symm⟩
  ·rw[if_neg z]at e;exact .inr ⟨λy=>z y.symm,e⟩
 by_cases y:i=0
 ·subst y;obtain rfl:a=w:=YF (h0.symm.trans h);have f:(W.set 0 (a.1,S',x'))[0]?=Ya (a.1,S',x'):=by rw[xw,if_pos rfl,if_pos T]
  have Y:jj S2.ha=.int S2.me:=by rw[g,J];exact(O.cv a h0).2.1
  obtain⟨D,E⟩:=K (O.cv a h0).2.2;have F:rf D S2.dn:=by rw[H];exact B a D h0 E
  have l:tbl S2.ta S2.me=Ya D:=by rw[g];exact E
  obtain⟨d1,G,R⟩:=r8 D l F;refine⟨⟨mu,λj u e=>?_,λj u v e b=>?_,λv b=>?_,λj u e n=>?_,λj u v e b n=>?_,λj u v d e b t=>?_⟩,λv b=>?_⟩
  ·rcases cs e with⟨_,rfl⟩|⟨_,e⟩
   ·exact⟨U,X⟩
   ·exact up e
  ·rw[f]at b;cases b;rcases cs e with⟨_,rfl⟩|⟨_,e⟩
   ·exact aaT _
   ·exact(O.px j u a e h0).trans (x.trans V)
  ·rw[f]at b;cases b;exact⟨r6 Y ⟨D,l,F⟩,by show jj S'.ha=.int S'.me;rw[r,S];exact Y,d1,by show tbl S'.ta S'.me=_;rw[r];exact G⟩
  ·rcases cs e with⟨z,_⟩|⟨_,e⟩
   ·exact absurd z n
   ·exact O.nl j u e n
  ·rw[f]at b;cases b;rcases cs e with⟨z,_⟩|⟨_,e⟩
   ·exact absurd z n
   ·show S'.me≠_;rw[r,g];exact O.me j u a e h0 n
  ·rw[f]at b;cases b;have t:tbl u.2.1.ta S'.me=Ya d:=t;rw[r]at t;rcases cs e with⟨_,rfl⟩|⟨n,e⟩
   ·have t:tbl S'.ta S2.me=Ya d:=t;rw[G]at t;cases t;exact R
   ·rw[g]at t;exact(O.ta j u a d e h0 t).trans Q
  ·rw[f]at b;cases b;exact⟨a,h0,by show S'.me=_;rw[r,g],x.trans V,Q⟩
 ·have f:(W.set i (w.1,S',x'))[0]?=Ya a:=by rw[xw,if_neg y];exact h0
  have Z:jj S2.ha≠.int S2.me:=by rw[g,J];exact O.nl i w h y
  have nm:a.2.1.me≠S2.me:=by rw[g];exact O.me i w a h h0 y
  refine⟨⟨mu,λj u e=>?_,λj u v e b=>?_,λv b=>?_,λj u e n=>?_,λj u v e b n=>?_,λj u v d e b t=>?_⟩,λv b=>?_⟩
  ·rcases cs e with⟨_,rfl⟩|⟨_,e⟩
   ·exact⟨U,X⟩
   ·exact up e
  ·rw[f]at b;cases b;rcases cs e with⟨_,rfl⟩|⟨_,e⟩
   ·show S'.od <+: _;rw[r3 Z];exact C
   ·exact O.px j u a e h0
  ·rw[f]at b;cases b;exact O.cv a h0
  ·rcases cs e with⟨_,rfl⟩|⟨_,e⟩
   ·show jj S'.ha≠.int S'.me;rw[r,S];exact Z
   ·exact O.nl j u e n
  ·rw[f]at b;cases b;rcases cs e with⟨_,rfl⟩|⟨_,e⟩
   ·show _≠S'.me;rw[r];exact nm
   ·exact O.me j u a e h0 n
  ·rw[f]at b;cases b;rcases cs e with⟨_,rfl⟩|⟨_,e⟩
   ·have t:tbl S'.ta a.2.1.me=Ya d:=t;rw[r7 _ nm]at t;exact B a d h0 t
   ·exact O.ta j u a d e h0 t
  ·rw[f]at b;cases b;exact⟨a,h0,rfl,aaT _,.refl _⟩
structure Xs(H:Hp)(am:Ye)(es:List (bF×V)):Prop where
 dt:H am=Ya (.dT (es.map λe=>(eD e.1,e.2)))
 tl:∀e∈es,js H e.2 e.1
 nd:(es.map λe=>eD e.1).Nodup
variable{tl:List (List (V×bF))}
theorem Xs.val(M:Xs H am es){e:bF×V}(a:e∈es):eK (es.map λe=>(eD e.1,e.2)) (eD e.1)=Ya e.2:=by
 have nd:=M.nd;clear M
 induction es with
 |nil=>cases a
 |cons f es ih=>
  rw[YG,vc]at nd;rcases Ym.mp a with z|z
  ·rw[z,YG];exact dM rfl
  ·rw[YG,dE]
   ·exact ih z nd.2
   ·intro w;exact nd.1 (YA.mpr ⟨e,z,w.symm⟩)
theorem R1{K:Yc}{n c w:Int}(h:H a=Ya (.tup [.int n,.int c,.int k,.str kd,.int w,.ref t]))(q:∀p H',H p=Yb->aJ H H'->H' p=Ya (.tup [.int n,.int c,.int k])->Q (.ref p) H'):Qy K (.ref a) Yb (Ya 3) H Q:=
 ⟨a,_,rfl,bJ.of h,by show ¬ (HT.f6 6 0 Yb=0/\HT.f6 6 6 (Ya 3)=6);decide,λp hp=>q p _ hp (aC hp) af⟩
theorem Mg(st:EY S S' rw):S'.tk=S.tk++rw:=by
 obtain⟨e,a,f,g,b,c,d,j,h,_,no,i,_,_,k,lt,l,rfl⟩:=st;rfl
structure Ps(K:Yc)(mg:Yp->Option Yd)(H:Hp)(hs:List Int)(nu gr:Int)(W:List PW)(es:List (bF×V))(ah ap as am:Ye)(sl:List Ye)(ml:List (List (Int×Int)))(tl:List (List (V×bF)))(res:List (Nat×List (V×bF))):Prop where
 wd:Wd K mg H hs nu gr W (es.map (·.1))
 ha:H ah=Ya (.lst (hs.map V.int))
 hp:H ap=Ya (.lst (W.map λw=>V.ref w.1))
 hs':H as=Ya (.lst (sl.map V.ref))
 ls:sl.length=hs.length
 lm:ml.length=hs.length
 sd:∀(i:Nat) (a:Ye) (m:List (Int×Int)),sl[i]?=Ya a->ml[i]?=Ya m->H a=Ya (.dK (dI m))/\Td m
 sn:sl.Nodup
 md:Xs H am es
 kp:∀e∈es,0<e.1.k
 out:∀(i:Nat) (w:PW),W[i]?=Ya w->∀a∈ti w,a∉ah::ap::as::am::sl
 n2:2<=hs.length
 n4:hs.length<=4
 nd:(res.map (·.1)).Nodup
 rs:∀e∈res,∃w m,W[e.1]?=Ya w/\ml[e.1]?=Ya m/\w.2.1.dn=rM m e.2/\Ae m e.2/\∀q∈e.2,q.2∈es.map (·.1)
 ot:∀(i:Nat) (w:PW) (m:List (Int×Int)),W[i]?=Ya w->ml[i]?=Ya m->i∉res.map (·.1)->w.2.1.dn=m
 lt:tl.length=hs.length
 rt:∀e∈res,∀(w:PW) (t:List (V×bF)),W[e.1]?=Ya w->tl[e.1]?=Ya t->w.2.1.tk=t++e.2
 tt:∀(i:Nat) (w:PW) (t:List (V×bF)),W[i]?=Ya w->tl[i]?=Ya t->i∉res.map (·.1)->w.2.1.tk=t
 oi:OI nu W (es.map (·.1))
variable{kp:List (V×bF)}
def X5(d H:Hp)(v:V)(e:Nat×List (V×bF)):Prop:=∃a b c,v=.ref a/\H a=Ya (.tup [.int e.1,.ref b])/\H b=Ya (.lst c)/\Gp H c e.2/\d b=Yb
section
variable{gr:Int}
theorem Ps.same(D:Ps K mg H hs nu gr W es ah ap as am sl ml tl res)(s:aJ H H'):Ps K mg H' hs nu gr W es ah ap as am sl ml tl res:=
 ⟨D.wd.same s,s _ _ D.ha,s _ _ D.hp,s _ _ D.hs',D.ls,D.lm,λi a m e f=>⟨s _ _ (D.sd i a m e f).1,(D.sd i a m e f).2⟩,D.sn,⟨s _ _ D.md.dt,λe b=>(D.md.tl e b).up (de.same s),D.md.nd⟩,D.kp,D.out,D.n2,D.n4,D.nd,D.rs,D.ot,D.lt,D.rt,D.tt,D.oi⟩
theorem Iw{w:PW}(h:W[i]?=Ya w)(e:w'.1=w.1):(W.set i w').map (λw=>V.ref w.1)=W.map λw=>V.ref w.1:=by
 refine adl λj=>?_;rw[Yy,Yy,xw];by_cases z:i=j
 ·rw[if_pos z,←z,h,if_pos (Yh.mp h).1];show Ya (V.ref w'.1)=Ya (V.ref w.1);rw[e]
 ·rw[if_neg z]
theorem Ps.put(D:Ps K mg H hs nu gr W es ah ap as am sl ml tl res){w:PW}(h:W[i]?=Ya w)(o:Off (ti w) H H')(P:hU K mg H' w.1 S' x')(ft:∀a∈x'.ft w.1,a∈ti w∨H a=Yb)(k:i∉res.map (·.1))(B:S'.me=w.2.1.me/\S'.nu=w.2.1.nu/\S'.ha=w.2.1.ha)(ok:Js hs (es.map (·.1)) S')(ma:S'.ma=w.2.1.ma)(dn:S'.dn=rM w.2.1.dn rw)(C:Ae w.2.1.dn rw)(p:∀q∈rw,q.2∈es.map (·.1))(r:S'.tk=w.2.1.tk++rw)(oi:OI nu (W.set i (w.1,S',x')) (es.map (·.1))):Ps K mg H' hs nu gr (W.set i (w.1,S',x')) es ah ap as am sl ml tl (res++[(i,rw)]):=by
 have s:=(Yh.mp h).1;have E:nQ H H':=iF o λa ha=>D.wd.tr h ha;have d:∀{a},a∈ah::ap::as::am::sl->a∉ti w:=λha c=>D.out i w h _ c ha;have tr:∀{a},a∈ah::ap::as::am::sl->∃u,H a=Ya u:=fun{a} ha=>by
  rcases Ym.mp ha with z|ha
  ·rw[z];exact⟨_,D.ha⟩
  rcases Ym.mp ha with z|ha
  ·rw[z];exact⟨_,D.hp⟩
  rcases Ym.mp ha with z|ha
  ·rw[z];exact⟨_,D.hs'⟩
  rcases Ym.mp ha with z|ha
  ·rw[z];exact⟨_,D.md.dt⟩
  obtain⟨j,v⟩:=YJ ha;have F:=(Yh.mp v).1;obtain⟨m,hm⟩:∃m,ml[j]?=Ya m:=⟨_,Yk (by rw[D.lm,←D.ls];exact F)⟩;exact⟨_,(D.sd j a m v hm).1⟩
 have cs:∀{j:Nat} {u:PW},(W.set i (w.1,S',x'))[j]?=Ya u->(j=i/\u=(w.1,S',x'))∨(j≠i/\W[j]?=Ya u):=fun{j u} e=>by
  rw[xw]at e;by_cases z:i=j
  ·rw[if_pos z,if_pos s]at e;exact .inl ⟨z.symm,(YF e).symm⟩
  ·rw[if_neg z]at e;exact .inr ⟨λy=>z y.symm,e⟩
 have x:(W.set i (w.1,S',x'))[i]?=Ya (w.1,S',x'):=by rw[xw,if_pos rfl,if_pos s]
 refine⟨D.wd.put0 h o P ft B ok ma,o _ _ D.ha (d (by simp)),?_,o _ _ D.hs' (d (by simp)),D.ls,D.lm,λj a m e f=>⟨o _ _ (D.sd j a m e f).1 (d (by simp[Yw e])),(D.sd j a m e f).2⟩,D.sn,⟨o _ _ D.md.dt (d (by simp)),λe l=>(D.md.tl e l).up E.smh,D.md.nd⟩,D.kp,λj u e a ha c=>?_,D.n2,D.n4,?_,λe l=>?_,λj u m e f n=>?_,D.lt,λe l u t g f=>?_,λj u t e f n=>?_,oi⟩
 ·rw[Iw (w':=(w.1,S',x')) h rfl];exact o _ _ D.hp (d (by simp))
 ·rcases cs e with⟨rfl,rfl⟩|⟨n,e⟩
  ·rcases ft a ha with z|z
   ·exact d c z
   ·obtain⟨u,q⟩:=tr c;rw[q]at z;cases z
  ·exact D.out j u e a ha c
 ·rw[Yr,jJ];refine⟨D.nd,by simp,λa ha b c z=>?_⟩;have:b=i:=by simpa using c
  rw[z,this]at ha;exact k ha
 ·rcases YD.mp l with z|z
  ·obtain⟨u,m,G,I,J⟩:=D.rs e z;have ne:e.1≠i:=λy=>k (y▸Y3 z);refine⟨u,m,?_,I,J⟩;rw[xw,if_neg (λy=>ne y.symm)];exact G
  ·rw[Yi.mp z];obtain⟨m,hm⟩:∃m,ml[i]?=Ya m:=⟨_,Yk (by rw[D.lm,←D.wd.len];exact s)⟩;have A:=D.ot i w m h hm k;refine⟨_,m,x,hm,by rw[←A];exact dn,by rw[←A];exact C,p⟩
 ·rw[Yr,YD,not_or]at n;rcases cs e with⟨rfl,rfl⟩|⟨_,e⟩
  ·exact absurd (Yi.mpr rfl) n.2
  ·exact D.ot j u m e f n.1
 ·rcases YD.mp l with z|z
  ·have ne:e.1≠i:=λy=>k (y▸Y3 z);rw[xw,if_neg (λy=>ne y.symm)]at g;exact D.rt e z u t g f
  ·rw[Yi.mp z]at g f⊢;have g:(W.set i (w.1,S',x'))[i]?=Ya u:=g;rw[x]at g;cases g;have f:tl[i]?=Ya t:=f;show S'.tk=t++rw;rw[r,D.tt i w t h f k]
 ·rw[Yr,YD,not_or]at n;rcases cs e with⟨rfl,rfl⟩|⟨_,e⟩
  ·exact absurd (Yi.mpr rfl) n.2
  ·exact D.tt j u t e f n.1
theorem Ha(h:Hs hs){a:Int}(f:hs[i]?=Ya a)(g:hs[j]?=Ya a):i=j:=by
 obtain⟨b,c⟩:=Yh.mp f;obtain⟨d,e⟩:=Yh.mp g;rcases adj i j with z|z|z
 ·have:=nh.mp h.up i j b d z;rw[c,e]at this;omega
 ·exact z
 ·have:=nh.mp h.up j i d b z;rw[c,e]at this;omega
theorem Dy(h:Js hs mk S):Js hs (mk++[c]) S:=by
 refine⟨h.ne,h.l10,h.me,λq a=>YY _ (h.kin q a),by rw[Yq];exact ir h.kl (by omega),h.od,λn hn=>by rw[Yr];exact YY _ (h.oin n hn),?_,h.dk⟩;have:=h.tl;unfold mz at this⊢;rw[YS,Yq,Yq,Y6];have:=YQ (λq:bF=>decide (ct S.dn q.c<q.k)) [c];rw[Y6]at this;omega
theorem Wm{w:Int}(n:Xo S kd w c)(hk:kd="own"∨kd="heard"∨kd="one")(hw:(if w<0 then-w else w)<10^(60:Int).toNat)(t:Td S.dn)(a:0<=S.me)(b:S.me<63):Wf c:=by
 obtain⟨hs,d,_,rfl⟩:=n;refine⟨hk,hw,?_,λz=>if_pos z,a,b⟩;show Ck (if kd="own"then[]else sN S.dn hs);by_cases z:kd="own"
 ·rw[if_pos z];exact Ck.nil
 ·rw[if_neg z];exact K0 t.toCk d
theorem Ps.made{F:Hp}(D:Ps K mg H hs nu gr W es ah ap as am sl ml tl []){w:PW}(h:W[i]?=Ya w){tv:V}{wd:Int}(o:Off (ti w) H F)(P:hU K mg F w.1 S' x')(ft:∀a∈x'.ft w.1,a∈ti w∨H a=Yb)(nw:Xo w.2.1 kd wd c)(hk:kd="own"∨kd="heard"∨kd="one")(hw:(if wd<0 then-wd else wd)<10^(60:Int).toNat)(st:EY {w.2.1 with ma:=w.2.1.ma+ 1,kp:=w.2.1.kp++[(v,c)]} S' rw)(T:Off [am] F H')(gd:H' am=Ya (.dT ((es++[(c,tv)]).map λe=>(eD e.1,e.2))))(U:js H' tv c):Ps K mg H' hs nu gr (W.set i (w.1,S',x')) (es++[(c,tv)]) ah ap as am sl ml tl [(i,rw)]/\G0 W (W.set i (w.1,S',x')):=by
 have X:=(Yh.mp h).1;have PA:=D.wd.pg i w h;have ok:=D.wd.ok i w h;obtain⟨G,Y,ao⟩:=D.wd.st i w h;have Z:=Wm nw hk hw PA.td PA.me.1 PA.me.2;obtain⟨ab,s,I⟩:c.n=w.2.1.nu/\c.c=w.2.1.me/\c.k=w.2.1.ma+ 1:=by
  obtain⟨_,_,_,e⟩:=nw;rw[e];exact⟨rfl,rfl,rfl⟩
 have em:(es++[(c,tv)]).map (·.1)=es.map (·.1)++[c]:=by rw[Yr];rfl
 have mo:Rr hs nu (es.map (·.1)++[c]):=⟨λd hd=>?_,λd hd=>?_,λd hd=>?_⟩
 rotate_left
 ·rcases YD.mp hd with z|z
  ·exact D.wd.mo.wf d z
  ·rw[Yi.mp z];exact Z
 ·rcases YD.mp hd with z|z
  ·exact D.wd.mo.nu d z
  ·rw[Yi.mp z,ab];exact Y
 ·rcases YD.mp hd with z|z
  ·exact D.wd.mo.hs d z
  ·rw[Yi.mp z,s];exact Yw G
 have J:Js hs (es.map (·.1)++[c]) {w.2.1 with ma:=w.2.1.ma+ 1,kp:=w.2.1.kp++[(v,c)]}:=by
  have q:=Dy (c:=c) ok;refine⟨q.ne,q.l10,q.me,λr hr=>?_,?_,q.od,q.oin,q.tl,q.dk⟩
  ·rcases YD.mp hr with z|z
   ·exact q.kin r z
   ·rw[Yi.mp z];exact YK _ (Yi.mpr rfl)
  ·show(w.2.1.kp++[(v,c)]).length<=(es.map (·.1)++[c]).length;rw[Yq,Yq,Y6,Y6];have:=ok.kl;omega
 obtain⟨L,ck,ac,ad,C,e2,e3,e4,e5,_⟩:=LD mo J st;have E:=D.wd.ma i w h;have M:∀{j:Nat} {u:PW},W[j]?=Ya u->j≠i->u.2.1.me≠w.2.1.me:=fun{j u} e n z=>by
  have C:=(D.wd.st j u e).1;rw[z]at C;exact n (Ha D.wd.ho C G)
 have kf:nQ H F:=iF o λa ha=>D.wd.tr h ha;have N:nQ F H':=by
  have ae:F am=Ya (.dT (es.map λe=>(eD e.1,e.2))):=o _ _ D.md.dt (λz=>D.out i w h _ z (by simp));exact T.kpf1 ae trivial
 have ag:=D.wd.put (mk':=es.map (·.1)++[c]) h o P ft mo ⟨C,e2,e3⟩ L (λj u e n=>Dy (D.wd.ok j u e)) ?_ (λj u e n=>?_) (λd hd z=>?_) λd hd j u e n z=>?_
 rotate_left
 ·rw[e5,YS,Yq];have:[c].filter (λd=>decide (d.c=w.2.1.me))=[c]:=by simp[s]
  rw[this,Y6];show w.2.1.ma+ 1=_;rw[E]
  push_cast
  rfl
 ·rw[D.wd.ma j u e,YS,Yq];have:[c].filter (λd=>decide (d.c=u.2.1.me))=[]:=by
   have:=M e n;simp[s];exact λz=>this z.symm
  rw[this];simp
 ·rw[e5];show d.k<=w.2.1.ma+ 1;rcases YD.mp hd with y|y
  ·have:=D.wd.mx d y i w h z;omega
  ·rw[Yi.mp y,I];exact aat _
 ·rcases YD.mp hd with y|y
  ·exact D.wd.mx d y j u e z
  ·rw[Yi.mp y,s]at z;exact absurd z.symm (M e n)
 have nf:∀{a},a∈ah::ap::as::am::sl->a∉ti w:=λha l=>D.out i w h _ l ha;have tr:∀{a},a∈ah::ap::as::am::sl->∃u,H a=Ya u:=fun{a} ha=>by
  rcases Ym.mp ha with z|ha
  ·rw[z];exact⟨_,D.ha⟩
  rcases Ym.mp ha with z|ha
  ·rw[z];exact⟨_,D.hp⟩
  rcases Ym.mp ha with z|ha
  ·rw[z];exact⟨_,D.hs'⟩
  rcases Ym.mp ha with z|ha
  ·rw[z];exact⟨_,D.md.dt⟩
  obtain⟨j,hj⟩:=YJ ha;have lj:=(Yh.mp hj).1;obtain⟨m,hm⟩:∃m,ml[j]?=Ya m:=⟨_,Yk (by rw[D.lm,←D.ls];exact lj)⟩;exact⟨_,(D.sd j a m hj hm).1⟩
 have cs:∀{j:Nat} {u:PW},(W.set i (w.1,S',x'))[j]?=Ya u->(j=i/\u=(w.1,S',x'))∨(j≠i/\W[j]?=Ya u):=fun{j u} e=>by
  rw[xw]at e;by_cases z:i=j
  ·rw[if_pos z,if_pos X]at e;exact .inl ⟨z.symm,(YF e).symm⟩
  ·rw[if_neg z]at e;exact .inr ⟨λy=>z y.symm,e⟩
 have B:∀(j:Nat) (u:PW),(W.set i (w.1,S',x'))[j]?=Ya u->∀a∈ti u,a∉ah::ap::as::am::sl:=λj u e a ha l=>by
  rcases cs e with⟨rfl,rfl⟩|⟨n,e⟩
  ·rcases ft a ha with z|z
   ·exact nf l z
   ·obtain⟨u,q⟩:=tr l;rw[q]at z;cases z
  ·exact D.out j u e a ha l
 have A:∀{a:Ye} {u:HO},H a=Ya u->a∈ah::ap::as::am::sl->(∀k,u≠.dT k)->H' a=Ya u:=fun{a u} e ha d=>T a u (o a u e (nf ha)) (λz=>by
  rw[Yi.mp z,D.md.dt]at e;cases e;exact d _ rfl)
 have O:∀e∈es,eD e.1≠eD c:=λe x z=>by
  unfold eD at z;have C:e.1.c=c.c:=aaL (tq (tq z).2).1;have e2:e.1.k=c.k:=aaL (tq (tq (tq z).2).2).1;have:=D.wd.mx e.1 (Y3 x) i w h (by rw[C,s]);omega
 have iw:(W.set i (w.1,S',x'))[i]?=Ya (w.1,S',x'):=by rw[xw,if_pos rfl,if_pos X]
 have aq:0<=w.2.1.ma:=by rw[E];exact ac1 _
 have Q:∀d∈es.map (·.1),d.c=c.c->d.k<c.k:=λd hd z=>by
  have:=D.wd.mx d hd i w h (by rw[z,s]);omega
 have R:=LF (S2:={w.2.1 with ma:=w.2.1.ma+ 1,kp:=w.2.1.kp++[(v,c)]}) (x':=x') D.oi h (mk':=es.map (·.1)++[c]) ⟨?_,λd hd=>?_,mo.nu⟩ (λd hd=>YY _ hd) (λd hd=>?_) rfl rfl rfl rfl J.kin ?_ ?_ (.inl rfl) (λw0 d h0 t=>D.oi.ta i w w0 d h h0 t) id L.od st C e3
 rotate_left
 ·rw[Yr,jJ];refine⟨D.oi.mu.un,by simp,λa ha b l z=>?_⟩;obtain⟨d,hd,ed⟩:=YA.mp ha;have l:b=vL c:=by simpa using l
  rw[←ed,l]at z;have z1:d.c=c.c:=congrArg (λp=>p.2.1) z;have z2:d.k=c.k:=congrArg (λp=>p.2.2) z;have:=Q d hd z1;omega
 ·rcases YD.mp hd with z|z
  ·exact D.oi.mu.ps d z
  ·rw[Yi.mp z];omega
 ·rcases YD.mp hd with z|z
  ·exact .inl z
  ·right
   rw[Yi.mp z];intro j u e le;obtain⟨d',al,q1,q2⟩:=(D.oi.po j u e).1.tp c.c (by omega);have:=Q d' al q1;omega
 ·show((w.2.1.kp++[(v,c)]).map λq=>eD q.2).Nodup;rw[Yr,jJ];refine⟨PA.kn,by simp,λa ha b l z=>?_⟩;obtain⟨q,S,eq⟩:=YA.mp ha;have l:b=eD c:=by simpa using l
  obtain⟨e,x,ee⟩:=YA.mp (ok.kin q S);exact O e x (by rw[ee,eq,z,l])
 ·intro q S;exact YA.mpr ⟨q,YY _ S,rfl⟩
 have an:S'.tk=w.2.1.tk++rw:=(Mg st).trans rfl;refine⟨⟨by rw[em];exact ag.off T N λj u e a ha z=>B j u e a ha (by rw[Yi.mp z];simp),A D.ha (by simp) (by intro _ z;cases z),?_,A D.hs' (by simp) (by intro _ z;cases z),D.ls,D.lm,λj a m e f=>⟨A (D.sd j a m e f).1 (by simp[Yw e]) (by intro _ z;cases z),(D.sd j a m e f).2⟩,D.sn,⟨gd,λe x=>?_,?_⟩,λe x=>?_,B,D.n2,D.n4,by simp,λe x=>?_,λj u m e f n=>?_,D.lt,λe x u t g f=>?_,λj u t e f n=>?_,by rw[em];exact R.1⟩,R.2⟩
 ·rw[Iw (w':=(w.1,S',x')) h rfl];exact A D.hp (by simp) (by intro _ z;cases z)
 ·rcases YD.mp x with z|z
  ·exact(D.md.tl e z).up (kf.smh.trans N.smh)
  ·rw[Yi.mp z];exact U
 ·rw[Yr,jJ];refine⟨D.md.nd,by simp,λa ha b l z=>?_⟩;obtain⟨e,x,ee⟩:=YA.mp ha;have l:b=eD c:=by simpa using l
  exact O e x (by rw[ee,z,l])
 ·rcases YD.mp x with z|z
  ·exact D.kp e z
  ·rw[Yi.mp z];show 0<c.k;rw[I,E];omega
 ·rw[Yi.mp x];obtain⟨m,hm⟩:∃m,ml[i]?=Ya m:=⟨_,Yk (by rw[D.lm,←D.wd.len];exact X)⟩;have e0:=D.ot i w m h hm (by simp);refine⟨_,m,iw,hm,by rw[←e0];exact ad,by rw[←e0];exact ck,λq S=>by rw[em];exact ac q S⟩
 ·rcases cs e with⟨rfl,rfl⟩|⟨_,e⟩
  ·exact absurd (by simp) n
  ·exact D.ot j u m e f (by simp)
 ·rw[Yi.mp x]at g f⊢;have g:(W.set i (w.1,S',x'))[i]?=Ya u:=g;rw[iw]at g;cases g;have f:tl[i]?=Ya t:=f;show S'.tk=t++rw;rw[an,D.tt i w t h f (by simp)]
 ·rcases cs e with⟨rfl,rfl⟩|⟨_,e⟩
  ·exact absurd (by simp) n
  ·exact D.tt j u t e f (by simp)
end
noncomputable abbrev qt:Y4:=fm 52
theorem T9{n:Nat}(h:Js hs mk S)(hn:mk.length<=n)(a:∀q∈S.kp,q.2.n=S.nu)(ma:0<=S.ma)(mx:∀q∈S.kp,q.2.c=S.me->q.2.k<=S.ma):Q4 S n:=by
 have ol:S.od.length<=mk.length:=by
  have:=Bg h.od h.oin;rw[Yf]at this;exact this
 have kl:=h.kl;have tl:=h.tl;exact⟨h.ne,h.l10,by omega,by omega,by omega,h.me,a,ma,mx⟩
theorem Ps.pgok{gr:Int}(D:Ps K mg H hs nu gr W es ah ap as am sl ml tl res){w:PW}(h:W[i]?=Ya w){n:Nat}(hn:es.length<=n):Q4 w.2.1 n:=by
 refine T9 (D.wd.ok i w h) (by rw[Yf];exact hn) (λq a=>?_) ?_ λq a z=>D.wd.mx _ ((D.wd.ok i w h).kin q a) i w h z
 ·rw[D.wd.mo.nu _ ((D.wd.ok i w h).kin q a),(D.wd.st i w h).2.1]
 ·rw[D.wd.ma i w h];exact ac1 _
theorem Ps.none'{gr:Int}(D:Ps K mg H hs nu gr W es ah ap as am sl ml tl [])(c:i<hs.length):Ps K mg H hs nu gr W es ah ap as am sl ml tl [(i,[])]:=by
 refine⟨D.wd,D.ha,D.hp,D.hs',D.ls,D.lm,D.sd,D.sn,D.md,D.kp,D.out,D.n2,D.n4,by simp,λe a=>?_,λj u m e f n=>D.ot j u m e f (by simp),D.lt,λe a u t g f=>?_,λj u t e f n=>D.tt j u t e f (by simp),D.oi⟩
 rotate_left
 ·rw[Yi.mp a]at g f⊢;rw[D.tt i u t g f (by simp)];exact(Y1 _).symm
 rw[Yi.mp a];have h1:i<W.length:=by rw[D.wd.len];exact c
 have h2:i<ml.length:=by rw[D.lm];exact c
 exact⟨_,_,Yk h1,Yk h2,D.ot i _ _ (Yk h1) (Yk h2) (by simp),(λj q b=>by simp at b),λq b=>nomatch b⟩
theorem thaw_same{d:Ye}(hd:H d=Ya (.dT kvs))(a:KR d H A)(s:aJ A B):aJ H (upd B d (.dT kvs)):=λb u e=>by
 by_cases z:b=d
 ·rw[z,af,←e,z,hd]
 ·rw[ak z];exact s _ _ (a b u z e)
theorem Ux{S:List Int}(h:Hs hs)(t:Td m)(hk:∀e∈m,e.1∈hs)(a:S.Perm (m.map (·.1)))(b:S.Pairwise (·<=·)):sN m hs=sN m S:=by
 rw[Ih t.toCk a b];unfold sN xS;have:=qq (l:=hs.filter λk=>decide (0<ct m k)) (m:=B5.filter λk=>decide (0<ct m k)) (h.up.filter _) (BB.filter _) λx=>?_
 ·rw[this]
 ·rw[YU,YU];constructor
  ·rintro⟨h1,h2⟩;have:=h.rg x h1;exact⟨Cu.mpr this,h2⟩
  ·rintro⟨h1,h2⟩;refine⟨?_,h2⟩;have h2:=of_decide_eq_true h2;by_cases z:x∈m.map (·.1)
   ·obtain⟨p,hp,rfl⟩:=YA.mp z;exact hk p hp
   ·rw[lJ z]at h2;cases h2
noncomputable def mU(W:List PW):List Ye:=W.flatMap ti
theorem jo:a∈mU W↔∃w∈W,a∈ti w:=List.mem_flatMap
theorem sv{w:PW}(h:W[i]?=Ya w)(ha:a∈ti w):a∈mU W:=jo.mpr ⟨w,Yw h,ha⟩
theorem HQ{w:PW}(h:W[i]?=Ya w)(ft:∀a∈ti w',a∈ti w∨H a=Yb):∀a∈mU (W.set i w'),a∈mU W∨H a=none:=λa ha=>by
 obtain⟨u,hu,b⟩:=jo.mp ha;rcases aeK hu with z|z
 ·exact .inl (jo.mpr ⟨u,z,b⟩)
 ·rw[z]at b;exact(ft a b).imp (sv h) id
def tI(K:Yc)(mg:Yp->Option Yd):Sp:=λc H Q _=>∃(i:Nat) (d:Ye) (nu:Int) (ap e am:Ye) (cell:Int),c=[.int (i:Nat),.ref d,.int nu,.ref ap,.ref e,.ref am,.int cell]/\∃hs gr W f h j tl w,Ps K mg H hs nu gr W f d ap e am h j tl []/\i<hs.length/\W[i]?=Ya w/\f.length<=30/\
 ∀b r c g k rw,Ps K mg b hs nu gr g k d ap e am h j tl [(i,rw)]->Off (am::ti w) H b->(∃ex,k=f++ex/\ex.length<=1)->G0 W g->(∀a∈mU g,a∈mU W∨H a=Yb)->H r=Yb->b r=Ya (.lst c)->YX (X5 H b) c [(i,rw)]->Q (.ref r) b
abbrev Ee:List Yp:=["_law_at","_law_hands_here","_law_number","_law_pages_here","_law_seen","_law_made","_law_cell"]
theorem cC:aG ["_law_at","_law_hands_here","_law_number","_law_pages_here","_law_seen","_law_made","_law_cell","_law_hand","_law_kind","_law_count","_law_causes","_law_told","_law_found","_law_good"] Ee (av qt):=fq
variable{tW:Ye}{rU:YE}(ug:aH P w K mg base (CT P w) 9 tW rU Dr (rO K mg))(tZ:Binds K rU Dr [])(iG:bE K bX "utter" tW)(gh:Nd K cj cj)
include eV ug tZ fc jd aY aW iG nM gh in
theorem BY(F:bN K "_law_call" "_law_call" qt f fd):∅ 10 f fd Ee (tI K mg):=by
 refine F.oj cC ?_;rintro _ A _ _ H _ _ E hr _ _ hu ⟨i,ah,nu,ap,as,am,cell,rfl,h⟩;refine⟨_,(aj (bc (i:=7) cC.nd rfl (Or.inr rfl) (bB (bO (K:=K) rfl) (pv 1) (pv 0) (λ_ _=>rfl)))
   (aj (bc (i:=8) cC.nd rfl (Or.inl rfl) (bB (bO (K:=K) rfl) (d5 (aa fS (aa fS (aa fS ai)))) (a8 df (pv 6) az) (λ_ _=>rfl)))
   (aj (Nq (bc (i:=9) cC.nd rfl (Or.inl rfl) (a8 eQ az (bH (c8 (K:=K) rfl) (by rfl) fc aal (aa (bS ["_law_hand","_law_name"] [Ya 7,Yb] rfl rfl (by kernel_rfl) (MJ (pv 5)) (λ_ _ _ _ _ nd=>aQ (i:=1) nd rfl (Or.inl rfl)) (λ_ _ _ _ _=>(dA (br oP (bB (bG (K:=K) rfl) (pv 1) az (λ_ _=>rfl)) (pv 0) (bC _)))) (λ_ _ _ _ _=>(pv 1))) ai)))))
   (aj (bc (i:=10) cC.nd rfl (Or.inl rfl) (cF ai))
   (aj (eF (br EW (pv 8) fS (bC _)) (ax (bc (i:=10) cC.nd rfl (Or.inl rfl) (bZ (iQ (K:=K) rfl) (by rfl) jd abD (aa (bS ["_law_seen","_law_at","_law_one"] [Ya 4,Ya 0,Yb] rfl rfl (by kernel_rfl) (bo (K:=K) rfl (pv 1)) (λ_ _ _ _ _ nd=>aQ (i:=2) nd rfl (Or.inl rfl)) (λ_ _ _ _ _=>(dA (Gv (Lf hu (pv 2) (bB (bO (K:=K) rfl) (pv 0) (pv 1) (λ_ _=>rfl)))))) (λ_ _ _ _ _=>(cF (aa (pv 2) (aa (uV hu (bB (bO (K:=K) rfl) (pv 0) (pv 1) (λ_ _=>rfl)) (pv 2) (λ_ _=>rfl)) ai))))) ai)))) cg)
   (aj (bc (i:=11) cC.nd rfl (Or.inl rfl) (cF (aa (pv 2) (aa (pv 7) (aa (pv 9) (aa (pv 8) (aa (a8 eQ (a8 zN (a8 df (a8 hG (pv 6) az) (a8 zN (a8 vX az (a8 Ct az az)) az)) (a8 Ct az az)) az) (aa (pv 10) ai))))))))
   (aj (bc (i:=12) cC.nd rfl (Or.inl rfl) (d5 ai))
   (aj (bc (i:=13) cC.nd rfl (Or.inl rfl) wM)
   (aj (QI (K:=K) rfl rfl rfl (by rfl) nM gh (λZa EE=>(ax (bc (i:=12) cC.nd rfl (Or.inl rfl) (LM (bB (bO (K:=K) rfl) (pv 3) (pv 0) (λ_ _=>rfl)) aY.cl iG ug hr tZ (aa (pv 8) (aa (bB (bG (K:=K) rfl) (pv 11) az (λ_ _=>rfl)) ai)))))) (λea=>(ax (bc (i:=13) cC.nd rfl (Or.inl rfl) wM))))
   (aj (eF (vF (Mh (K:=K) rfl (pv 13))) (ax (q5 hu (pv 5) (cF (aa (pv 2) (aa (pv 7) (aa (pv 9) ai)))) (pv 11) rfl)) cg)
   (ax (aP (d5 (aa (cF (aa (pv 0) (aa (pv 12) ai))) ai)))))))))))))),?_⟩
 obtain⟨hs,gr,W,p,sl,ml,tl,w,D,hi,hw,bv,kk⟩:=h;obtain⟨aR,aS,bw⟩:=D.wd.st i w hw;have hS:a9 K H ah (hs.map V.int):=a9.of D.ha;have bz:uZ (hs.map V.int) (i:Int)=Ya (.int w.2.1.me):=cG (by rw[Yy,aR];rfl);have q0:=KW cell (show(3:Int)≠0 by decide);have q1:=aaj cell (show(0:Int)<3 by decide);cbv;intro lk H1 bA s1 aT;have bI:a9 K H1 lk [.str "one",.str "heard",.str "own"]:=a9.of aT;obtain⟨kd,bm,al⟩:∃kd:Yp,uZ [V.str "one",V.str "heard",V.str "own"] (cell%3)=Ya (.str kd)/\(kd="own"∨kd="heard"∨kd="one"):=by
  have:cell%3=0∨cell%3=1∨cell%3=2:=by omega
  rcases this with z|z|z
  ·exact⟨"one",by rw[z];rfl,.inr (.inr rfl)⟩
  ·exact⟨"heard",by rw[z];rfl,.inr (.inl rfl)⟩
  ·exact⟨"own",by rw[z];rfl,.inl rfl⟩
 have U:=s1 _ _ D.md.dt;have D1:=D.same s1;cbv;refine Qo (d:=am) U ?_;cbv;refine Np U λo A hA sA=>?_;intro Dc an;refine G5 (kvs:=p.map λe=>(eD e.1,e.2)) (λi σ B=>∃v g,σ=[Ya (.int w.2.1.me),v]/\aJ A B/\B Dc=Ya (.lst g)/\g.length=((p.take i).filter λe=>decide (e.1.c=w.2.1.me)).length) ⟨Yb,[],rfl,aC an,af,rfl⟩ ?_ ?_ ?_
 ·rintro j σ B _ ⟨_,_,_,z,_⟩;exact z _ _ hA
 ·rintro j k v b σ B hk ⟨v0,g,rfl,s,gD,lx⟩ gb;rw[Yy]at hk;obtain⟨e,he,J⟩:=aa7.mp hk;cases J;have hj:=(Yh.mp he).1;have bK:bJ K B b [.int e.1.n,.int e.1.c,.int e.1.k]:=bJ.of gb;have lf:=YQ (λe:bF×V=>decide (e.1.c=w.2.1.me)) (p.take j);rw[mr]at lf;rw[aN he,YS];cbv;refine dP (λz=>?_) λz=>?_
  ·have z:e.1.c=w.2.1.me:=of_decide_eq_true z;cbv;refine⟨g,gD,aF (by omega),_,g++[.ref b],rfl,λb' X q=>?_,af,?_⟩
   ·rw[ak (ay q an)];exact s b' X q
   ·rw[aa0 (by exact decide_eq_true z),Yq,Yq,lx];rfl
  ·have z:¬ e.1.c=w.2.1.me:=λq=>z (decide_eq_true q);refine⟨_,g,rfl,s,gD,?_⟩;rw[aa1 (by rw[decide_eq_false z];exact YZ),afp,Y1];exact lx
 rintro σ B ⟨v0,g,rfl,s,gD,lx⟩;rw[Yf,YI]at lx;have aU:=D.wd.ma i w hw;have aX:(g.length:Int)=w.2.1.ma:=by
  rw[aU,lx,afq,Yf];rfl
 have bL:a9 K B Dc g:=a9.of gD;cbv;rw[aX];refine⟨⟨o,s _ _ hA⟩,?_⟩;have s2:aJ H1 _:=thaw_same U sA s;generalize upd B am (.dT (p.map λe=>(eD e.1,e.2)))=H2 at s2⊢;have Y:=s1.trans s2;have D2:=D.same Y;obtain⟨ae,ao⟩:∃a,sl[i]?=Ya a:=⟨_,Yk (by rw[D.ls];exact hi)⟩;obtain⟨m,hm⟩:∃m,ml[i]?=Ya m:=⟨_,Yk (by rw[D.lm];exact hi)⟩;have em:=D.ot i w m hw hm (by simp);obtain⟨aZ,tm⟩:=D2.sd i ae m ao hm;have a0:=D.wd.ok i w hw;have a1:∀e∈m,e.1∈hs:=by rw[←em];exact a0.dk
 have bn:uZ (sl.map V.ref) (i:Int)=Ya (.ref ae):=cG (by rw[Yy,ao];rfl);cbv;intro t0 H3 bP s3 a2;have D3:=D2.same s3;have a3:=s3 _ _ aZ;have bQ:a9 K H3 ah (hs.map V.int):=a9.of D3.ha;refine AW (λσ A=>∃tc xc,σ=[Ya (.int i),Ya (.ref ah),Ya (.int nu),Ya (.ref ap),Ya (.ref as),Ya (.ref am),Ya (.int cell),Ya (.int w.2.1.me),Ya (.str kd),Ya (.int (1+ w.2.1.ma)),Ya (.ref tc),Yb,Yb,Yb]/\aJ H3 A/\A tc=Ya (.tup xc)/\jW A xc (if kd="own"then[]else sN m hs)) ?_ λN Zd=>?_
 rotate_left
 ·cbv;refine dP (λz=>?_) λz=>?_
  ·have z:¬ kd="own":=λq=>by rw[q]at z;exact absurd z (by decide)
   cbv;intro E hE;refine bh (K:=K) (a:=ah) (xs:=hs.map V.int) (λj σ B=>∃v g,σ=[Ya (.ref as),Ya (.int i),v]/\aJ H3 B/\B E=Ya (.lst g)/\jW B g (sN m (hs.take j))) ⟨Yb,[],rfl,aC hE,af,.nil⟩ ?_ ?_ ?_
   ·rintro j σ B _ ⟨_,_,_,z,_⟩;exact a9.of (z _ _ D3.ha)
   ·rintro j y σ B hy ⟨v,g,rfl,s,gE,pr⟩;obtain⟨h,hh,rfl⟩:=gF hy;have hj:=(Yh.mp hh).1;have lx:=Y2 pr;have a4:=Qr m (hs.take j);rw[mr]at a4;have bU:a9 K B as (sl.map V.ref):=a9.of (s _ _ D3.hs');have bX:=s _ _ a3;have n4:=D.n4;rw[aN hh];cbv;refine dP (λq=>?_) λq=>?_
    ·obtain⟨c,hc⟩:=ac4.mp q;have cc:ct m h=c:=by unfold ct;rw[hc];rfl
     have cp:0<ct m h:=by
      by_cases y:h∈m.map (·.1)
      ·exact tm.pos y
      ·rw[HX y]at hc;cases hc
     cbv;intro u B1 hu n gu;rw[←cc]at gu;have aq:=n _ _ gE;have kp:de B1 (upd B1 E (.lst (g++[.ref u]))):=de.lst aq;refine⟨g,aq,aF (by omega),_,g++[.ref u],rfl,λb X e=>?_,af,?_⟩
     ·rw[ak (ay e hE)];exact n _ _ (s b X e)
     ·rw[Ie cp];exact kj ((pr.mono (de.same n)).mono kp) ⟨u,rfl,kp _ _ gu⟩
    ·have cp:¬ 0<ct m h:=λy=>q (by
      unfold ct at y;cases e:wQ m h with
      |none=>rw[e]at y;cases y
      |some _=>rfl)
     refine⟨_,g,rfl,s,gE,?_⟩;rw[NB cp];exact pr
   rintro σ B ⟨v,g,rfl,s,gE,pr⟩;rw[show hs.take (hs.map V.int).length=hs by rw[Yf,YI]]at pr;have bY:a9 K B E g:=a9.of gE;cbv;intro tc B1 b0 n Z;refine Zd _ _ ⟨tc,g,rfl,s.trans n,Z,?_⟩;rw[if_neg z];exact pr.mono (de.same n)
  ·have z:kd="own":=by
    by_cases q:kd="own"
    ·exact q
    ·exact absurd (by rw[decide_eq_false q];rfl) z
   cbv;refine Zd _ _ ⟨t0,[],rfl,λb o e=>e,a2,?_⟩;rw[if_pos z];exact .nil
 rintro σ A ⟨tc,xc,rfl,ab,Z,a5⟩;have b1:=Lm;have L:(0:Int)<2*10^(60:Int).toNat-1:=by omega
 have bt:Nt 10 60:=⟨by decide,by decide,by decide⟩;have b2:CC 2 (10^(60:Int).toNat):=.inl ⟨by decide,by decide⟩;have DA:=D3.same ab;cbv;have y0:=KW (cell / 3) (ae8 L);have y1:=aaj (cell / 3) L;have ac:(if cell / 3%(2*10^abN 60-1)-10^abN 60+ 1<0 then-(cell / 3%(2*10^abN 60-1)-10^abN 60+ 1)else cell / 3%(2*10^abN 60-1)-10^abN 60+ 1)<(10:Int)^(60:Int).toNat:=by
  generalize cell / 3%(2*10^abN 60-1)=y at y0 y1⊢;generalize (10:Int)^abN 60=P at y0 y1⊢;split<;>omega
 generalize cell / 3%(2*10^abN 60-1)-10^abN 60+ 1=wd at ac⊢;intro tt A1 b3 t a6;cbv;intro fl M a7 x ba;have G:=DA.same (t.trans x);have O:=x _ _ a6;have s5:aJ H M:=Y.trans (s3.trans (ab.trans (t.trans x)));have b4:bJ K M tt [.int nu,.int w.2.1.me,.int (1+ w.2.1.ma),.str kd,.int wd,.ref tc]:=bJ.of O;have b5:a9 K M ap (W.map λw=>V.ref w.1):=a9.of G.hp;have bu:uZ (W.map λw=>V.ref w.1) (i:Int)=Ya (.ref w.1):=cG (by rw[Yy,hw];rfl);have PA:=G.wd.pg i w hw;obtain⟨C,dx,mP,T,hp⟩:=PA.ob;have eC:=mP;rw[aW]at eC;cases eC;cbv;refine TL ?_;cbv;refine O3 ?_;cbv;refine⟨w.1,dx,_,rfl,hp,Bo,?_⟩;cbv;refine⟨w.1,kd,wd,rfl,w.2.1,w.2.2,PA,G.pgok hw (by omega),al,ac,λH' x' S' rw l ys v c j X bb P' ar bd be nw st hl nl gl tv=>?_,λH' j ea Ce s' bd be mh he=>?_⟩
 ·have kf:nQ M H':=iF X λa ha=>G.wd.tr hw ha;have au:H' am=Ya (.dT (p.map λe=>(eD e.1,e.2))):=X _ _ G.md.dt (λz=>G.out i w hw _ z (by simp));have ec:c=⟨kd,nu,w.2.1.me,1+ w.2.1.ma,wd,if kd="own"then[]else sN m hs⟩:=by
   obtain⟨S0,pm,so,e⟩:=nw;rw[e,Ux D.wd.ho tm a1 (by rw[←em];exact pm) so,em,aS,Int.add_comm]
  have bi:js H' (.ref tt) c:=by
   rw[ec];exact⟨tt,tc,xc,rfl,kf.smh _ _ O,kf.smh _ _ (x _ _ (t _ _ Z)),(a5.mono (de.same (t.trans x))).mono kf.smh⟩
  cbv;refine zq ?_;cbv;intro u Q hu R gu;have aw:eD c=[YL nu,YL w.2.1.me,YL (1+ w.2.1.ma)]:=by rw[ec];rfl
  have nk:eD c∉(p.map λe=>(eD e.1,e.2)).map (·.1):=λz=>by
   rw[rl]at z;obtain⟨e,he,J⟩:=YA.mp z;have J:eD e.1=eD c:=J;rw[aw]at J;unfold eD at J;have e1:e.1.c=w.2.1.me:=aaL (tq (tq J).2).1;have e2:e.1.k=1+ w.2.1.ma:=aaL (tq (tq (tq J).2).2).1;have:=D.wd.mx e.1 (Y3 he) i w hw e1;omega
  refine⟨am,_,rfl,Ab.t (k:=eD c) (R _ _ au) (by rw[aw];exact gu) (aF (by rw[Yf];omega)),?_⟩;rw[BZ nk];have o6:Off (ti w) M Q:=λb o e S=>R _ _ (X b o e S);have o7:Off [am] Q (upd Q am (.dT ((p.map λe=>(eD e.1,e.2))++[(eD c,.ref tt)]))):=λb u e S=>by rw[ak (λz=>S (Yi.mpr z))];exact e
  have k7:nQ Q _:=o7.kpf1 (R _ _ au) trivial;obtain⟨D7,g7⟩:=G.made (tv:=.ref tt) hw o6 (P'.same R) ar nw al ac st o7 (by rw[af,Yr];rfl) ((bi.up (de.same R)).up k7.smh);have aA:l≠am:=λz=>by rw[z,G.md.dt]at hl;cases hl
  have aB:upd Q am (.dT ((p.map λe=>(eD e.1,e.2))++[(eD c,.ref tt)])) l=Ya (.lst ys):=by rw[ak aA];exact R _ _ gl
  have aD:=(tv.up (de.same R)).up k7.smh;have oA:Off (am::ti w) M (upd Q am (.dT ((p.map λe=>(eD e.1,e.2))++[(eD c,.ref tt)]))):=λb o e S=>o7 b o (o6 b o e λz=>S (Yo _ z)) λz=>S (by rw[Yi.mp z];exact Yu);have aE:∀a,upd Q am (.dT ((p.map λe=>(eD e.1,e.2))++[(eD c,.ref tt)])) a=Yb->M a=none:=λa e=>by
   by_cases z:a=am
   ·rw[z,af]at e;cases e
   ·rw[ak z]at e;exact bb a (R.free e)
  generalize upd Q am (.dT ((p.map λe=>(eD e.1,e.2))++[(eD c,.ref tt)]))=A7 at D7 aB aD oA aE⊢;cbv;intro u' A8 b6 s8 bj;cbv;intro r A9 bl s9 ad;have I:=s8.trans s9;exact kk A9 r _ _ _ rw (D7.same I) (λb o e S=>I _ _ (oA b o (s5 _ _ e) S)) ⟨[(c,.ref tt)],rfl,Yl _⟩ g7 (HQ hw λa ha=>(ar a ha).imp id λz=>s5.free z) (s5.free (aE _ (s8.free bl))) ad (.cons ⟨u',l,ys,rfl,s9 _ _ bj,I _ _ aB,aD.up (de.same I),s5.free hl⟩ .nil)
 ·have aI:aJ M (upd H' ea (xO ea Ce)):=λb o e=>by
   rw[ak (λz=>by rw[z,he]at e;cases e)];exact s' b o e
  rw[nM]at mh;cases mh;refine⟨ea,_,rfl,rfl,gh,?_⟩;cbv;refine zq ?_;cbv;intro u A3 hu aK gu;cbv;intro r A4 hr aM ad;have ag:=aI.trans (aK.trans aM);refine kk A4 r _ W p [] ((G.same ag).none' hi) (Off.of (s5.trans ag)) ⟨[],by simp,by simp⟩ (.refl _) (λa ha=>.inl ha) (s5.free (aI.free (aK.free hr))) ad (.cons ⟨u,fl,[],rfl,aM _ _ gu,ag _ _ ba,.nil,(Y.trans (s3.trans (ab.trans t))).free a7⟩ .nil)
theorem Ii(c:Ck m):Td (xS (ct m)):=by
 have a:(xS (ct m)).map (·.1)=B5.filter λk=>decide (0<ct m k):=by
  unfold xS;rw[rl];exact ada _
 refine⟨⟨?_,λp hp=>?_,λp hp=>?_⟩,λp hp=>?_⟩
 ·rw[a];exact(BB.imp λh=>ae9 h).filter _
 all_goals
  unfold xS at hp;obtain⟨k,b,rfl⟩:=YA.mp hp;obtain⟨h1,h2⟩:=YU.mp b
 ·exact c.ct k
 ·exact Cu.mp h1
 ·exact of_decide_eq_true h2
theorem HU(h:∀e∈tb,Td e.2):∀e∈u6 tb,Td e.2:=λe a=>by
 unfold u6 at a;obtain⟨q,b,rfl⟩:=YA.mp a;exact Ii (h q (YU.mp b).1).toCk
theorem FG(tb:List (Int×List (Int×Int))):(u6 tb).length<=tb.length:=by
 unfold u6;rw[Yf];exact YQ _ _
theorem M4{d:Ye}{rs:List (Int×V)}(k:mi K mg H p d rs tb):tb.length<=64:=by
 have:=iY (k.hs.up.imp λh=>ae9 h) k.hs.rg;rw[Yf]at this;omega
theorem PL(c:Ck m)(k:Int):ct (xS (ct m)) k<=ct m k:=by
 by_cases z:k∈(xS (ct m)).map (·.1)
 ·obtain⟨p,hp,rfl⟩:=YA.mp z;rw[My (Ii c).nd hp];unfold xS at hp;obtain⟨j,_,rfl⟩:=YA.mp hp;exact aat _
 ·rw[lJ z];exact c.ct k
theorem tbl_key(nd:(tb.map (·.1)).Nodup){q:Int×List (Int×Int)}(h:q∈tb):tbl tb q.1=Ya q.2:=by
 induction tb with
 |nil=>cases h
 |cons e tb ih=>
  rw[YG,vc]at nd;rcases Ym.mp h with z|z
  ·rw[←z];unfold tbl;exact if_pos rfl
  ·unfold tbl;rw[if_neg λy=>nd.1 (YA.mpr ⟨q,z,y.symm⟩)];exact ih nd.2 z
theorem Ly{h k M:Int}:∀{ls:List (Int×List (Int×Int))} {c:Int},c<=M->(∀e∈ls,e.1=h->ct e.2 k<=M)->RV ls h k c<=M
 |[],_,a,_=>a
 |e::ls,c,a,b=>Ly (ls:=ls) (by
   split
   ·rename_i z;exact Int.max_le.mpr ⟨a,b e Yu z⟩
   ·exact a) λf d=>b f (Yo _ d)
theorem Eb.sub(h:Eb dn kp cs Zi):∀q∈kp,q∈Zi:=by
 induction h with
 |nil=>exact λq a=>a
 |skip _ _ ih=>exact ih
 |add _ _ _ ih=>exact λq a=>YY _ (ih q a)
def vb(W:List PW)(mk:List bF)(H:Hp)(t:Ye)(f:Int):Prop:=∃a b d cs,Xh H t f a b d cs/\(∀c∈cs,c∈mk)/\cs.length<=mk.length/\a.Nodup/\(∀n∈a,n∈mk.map vL)/\b.length<=64/\d.length<=64/\(∀e∈b,Td e.2)/\(∀e∈d,Td e.2)/\Xm W a b
theorem vb.gr(h:vb W mk H t sm)(g:G0 W W'):vb W' mk H t sm:=by
 obtain⟨a,b,c,cs,h1,h2,h3,h4,h5,h6,h7,h8,h9,h10⟩:=h;exact⟨a,b,c,cs,h1,h2,h3,h4,h5,h6,h7,h8,h9,h10.gr g⟩
theorem vb.up(u:de H H')(h:vb W mk H t sm):vb W mk H' t sm:=by
 obtain⟨a,b,c,cs,⟨d,e,f,tt,g,i,j,k,h1,h2,h3,h4,h5,h6,h7,h8,h9⟩,r⟩:=h;exact⟨a,b,c,cs,⟨d,e,f,tt,g,i,j,k,u _ _ h1,u _ _ h2,h3.up u,u _ _ h4,iP u h5,u _ _ h6,iP u h7,u _ _ h8,YX.mapP h9 λ_ _ z=>z.up u⟩,r⟩
theorem vb.mono(h:vb W mk H t sm):vb W (mk++ex) H t sm:=by
 obtain⟨a,b,d,cs,h1,h2,h3,h4,h5,h6⟩:=h;exact⟨a,b,d,cs,h1,λc e=>YY _ (h2 c e),by rw[Yq];omega,h4,λn hn=>by rw[Yr];exact YY _ (h5 n hn),h6⟩
noncomputable def U8(e:Int×List (Int×Int)):abo:=.tuple [.int e.1,.tuple (e.2.map Xg)]
theorem EM{K:Yc}:∀{xs:List V} {ls:List (Int×List (Int×Int))},yJ H xs ls->CY K H xs (ls.map U8):=by
 intro xs ls w
 induction w with
 |nil=>exact .nil
 |cons w r ih=>
  obtain⟨t,u,xs,a,b,c,d⟩:=w;subst a;exact .cons (.tup (bJ.of b) (.cons (.int _) (.cons (.tup (bJ.of c) d.dps) .nil))) ih
theorem II:∀ls:List (Int×List (Int×Int)),aae (ls.map U8)=true
 |[]=>rfl
 |e::ls=>by
  have:(U8 e).canLay0=true:=by simp[U8,aed,aae,Ca]
  rw[YG,aa8,this,II ls];rfl
theorem vb.dp{K:Yc}(h:vb W mk H t sm)(wf:∀c∈mk,Wf c):∃d,Dp K H (.ref t) d/\d.canLay0=true:=by
 obtain⟨a,b,e,cs,⟨g,i,j,tt,k,l,m,n,h1,h2,h3,h4,h5,h6,h7,h8,h9⟩,h10,_⟩:=h;refine⟨.tuple [.int sm,.tuple (a.map xD),.tuple (b.map U8),.tuple (e.map U8),.tuple (cs.map U7)],.tup (bJ.of h1) (.cons (.int _) (.cons (.tup (bJ.of h2) h3.dps) (.cons (.tup (bJ.of h4) (EM h5)) (.cons (.tup (bJ.of h6) (EM h7)) (.cons (.tup (bJ.of h8) (Xi.dps h9)) .nil))))),?_⟩;simp[aed,aae,Cg,II,Ia λc f=>wf c (h10 c f)]
def tF(W:List PW)(mk:List bF)(H:Hp)(pl:List V):Prop:=∀v∈pl,∃t a,v=.ref t/\vb W mk H t a
theorem tF.up(u:de H H')(h:tF W mk H pl):tF W mk H' pl:=λv a=>by
 obtain⟨t,b,e,q⟩:=h v a;exact⟨t,b,e,q.up u⟩
theorem tF.gr(h:tF W mk H pl)(g:G0 W W'):tF W' mk H pl:=λv a=>by
 obtain⟨t,b,e,q⟩:=h v a;exact⟨t,b,e,q.gr g⟩
variable{gr:Int}
theorem tF.mono(h:tF W mk H pl):tF W (mk++ex) H pl:=λv a=>by
 obtain⟨t,b,e,q⟩:=h v a;exact⟨t,b,e,q.mono⟩
theorem tF.dps{K:Yc}{W:List PW}{mk:List bF}{H:Hp}(wf:∀c∈mk,Wf c):∀{pl:List V},tF W mk H pl->∃ds,CY K H pl ds/\aae ds=true
 |[],_=>⟨[],.nil,rfl⟩
 |v::pl,h=>by
  obtain⟨t,b,rfl,q⟩:=h v Yu;obtain⟨d,h1,h2⟩:=q.dp (K:=K) wf;obtain⟨ds,h3,h4⟩:=tF.dps (K:=K) wf λv a=>h v (Yo _ a);exact⟨d::ds,.cons h1 h3,by rw[aa8,h2,h4];rfl⟩
theorem HH:(∀q∈PR zs sk mv,q∈zs)/\(PR zs sk mv).length<=zs.length:=by
 unfold PR;split
 ·exact⟨λq a=>acM (acL a),by rw[mr,abG];omega⟩
 ·exact⟨λq a=>acM a,by rw[abG];omega⟩
section
theorem Ps.pc(D:Ps K mg H hs nu gr W es ah ap as am sl ml tl res){w:PW}(h:W[i]?=Ya w)(d:zs.Perm w.2.1.kp)(j:Xh H' t w.2.1.me w.2.1.od (u6 w.2.1.ta) (u6 w.2.1.ab) ((PR zs sk mv).map (·.2))):vb W (es.map (·.1)) H' t w.2.1.me:=by
 have PA:=D.wd.pg i w h;have ok:=D.wd.ok i w h;refine⟨_,_,_,_,j,λc l=>?_,?_,ok.od,ok.oin,ir (FG _) (M4 PA.ta),ir (FG _) (M4 PA.ab),HU PA.ta.td,HU PA.ab.td,λb h0=>⟨D.oi.px i w b h h0,λe f z=>?_⟩⟩
 ·obtain⟨q,a,rfl⟩:=YA.mp l;exact ok.kin q (d.mem_iff.mp (HH.1 q a))
 ·rw[Yf];have:=(HH (zs:=zs) (sk:=sk) (mv:=mv)).2;have:=d.length_eq;have:=ok.kl;omega
 ·unfold u6 at f;obtain⟨q,a,rfl⟩:=YA.mp f;have a:=(YU.mp a).1;have z:q.1=b.2.1.me:=z;have g:=tbl_key (PA.ta.hs.up.imp λh=>ae9 h) a;rw[z]at g;exact λk=>aaK (PL (PA.ta.td q a).toCk k) (D.oi.ta i w b q.2 h h0 g k)
theorem Eb.nd(h:Eb dn kp cs Zi)(e:(kp.map λq=>eD q.2).Nodup):(Zi.map λq=>eD q.2).Nodup:=by
 induction h with
 |nil=>exact e
 |skip _ _ ih=>exact ih
 |@add _ _ c _ _ _ n ih=>
  rw[Yr,jJ];refine⟨ih,by simp,λa ha b d z=>?_⟩;have d:b=eD c:=by simpa using d
  rw[z,d]at ha;exact n ha
theorem Ug{j:List (Int×List (Int×Int))}(h:Js hs mk S)(kn:(S.kp.map λq=>eD q.2).Nodup)(k:LnR S so la j cs S2)(d:∀c∈cs,c∈mk)(sn:so.Nodup)(e:∀n∈so,n∈mk.map vL):Js hs mk S2/\S2.dn=S.dn/\S2.me=S.me/\S2.nu=S.nu/\S2.ha=S.ha/\S2.ma=S.ma:=by
 obtain⟨g,b,l,kr,i,o,rfl⟩:=k;have kin:∀q∈g,q.2∈mk:=λq f=>(kr.mem q f).elim (h.kin q) (d _);refine⟨⟨λz=>?_,?_,h.me,kin,?_,?_,?_,h.tl,h.dk⟩,rfl,rfl,rfl,rfl,rfl⟩
 ·have z:b=[]:=z;have:=i.len;rw[z]at this;exact h.ne (aaZ.mp this.symm)
 ·show b.length<=10;rw[i.len];exact h.l10
 ·show g.length<=mk.length;have:=Bg (m:=mk.map eD) (kr.nd kn) λa ha=>by
   obtain⟨q,f,rfl⟩:=YA.mp ha;exact Y3 (kin q f)
  rw[Yf,Yf]at this;exact this
 ·show(if S.od.length<so.length then so else S.od).Nodup;split
  ·exact sn
  ·exact h.od
 ·show∀n∈(if S.od.length<so.length then so else S.od),n∈mk.map vL;split
  ·exact e
  ·exact h.oin
theorem Du{w:PW}(h:W[i]?=Ya w):W.set i (w.1,w.2.1,w.2.2)=W:=by
 refine adl λj=>?_;rw[xw];by_cases z:i=j
 ·rw[if_pos z,←z,h,if_pos (Yh.mp h).1]
 ·rw[if_neg z]
theorem Ps.listen{E:XK}(D:Ps K mg H hs nu gr W es ah ap as am sl ml tl res){w:PW}(h:W[i]?=Ya w)(R:i∉res.map (·.1))(pc:vb W (es.map (·.1)) H t sm)(ab:es.length<=30)(q:∀H' W' rw l ys,Ps K mg H' hs nu gr W' es ah ap as am sl ml tl (res++[(i,rw)])->Off (mU W) H H'->nQ H H'->(∀a,H' a=Yb->H a=Yb)->(∀a∈mU W',a∈mU W∨H a=Yb)->G0 W W'->H l=Yb->l∉mU W'->H' l=Ya (.lst ys)->Gp H' ys rw->Q (.ref l) H'):jy K mg [.ref w.1,.ref t] H Q E:=by
 obtain⟨v,la,lb,cs,pa,m,cl,sn,x,l1,l2,t1,t2,S⟩:=pc;have ok:=D.wd.ok i w h;have PA:=D.wd.pg i w h;obtain⟨ac,L,ad⟩:=D.wd.st i w h;rw[Yf]at cl;have kl:=ok.kl;rw[Yf]at kl;have ae:v.length<=es.length:=by
  have:=Bg sn x;rw[Yf,Yf]at this;exact this
 have tr:∀{a:Ye},a∈mU W->∃o,H a=Ya o:=fun{a} ha=>by
  obtain⟨u,hu,A⟩:=jo.mp ha;obtain⟨j,hj⟩:=YJ hu;obtain⟨o,e,_⟩:=D.wd.tr hj A;exact⟨o,e⟩
 refine⟨w.1,t,rfl,w.2.1,w.2.2,sm,v,la,lb,cs,PA,pa,λc r=>⟨D.wd.mo.wf c (m c r),by rw[D.wd.mo.nu c (m c r),L]⟩,D.pgok h (by omega),by omega,by omega,l1,l2,t1,t2,λz H' l s hl M=>?_,λz H' x' T S' rw l ys o nn P ft U st hl nl M tv=>?_⟩
 ·have I:=D.same s;have:=I.put h (rw:=[]) (Off.refl _ _) (I.wd.pg i w h) (λa ha=>.inl ha) R ⟨rfl,rfl,rfl⟩ ok rfl rfl (λj q n=>by simp at n) (λq n=>nomatch n) (Y1 _).symm (by rw[Du h];exact D.oi);rw[Du h]at this;refine q H' W [] l [] this (Off.of s) (.same s) (λa e=>s.free e) (λa ha=>.inl ha) (.refl _) hl (λha=>?_) M .nil;obtain⟨o,e⟩:=tr ha;rw[hl]at e;cases e
 ·obtain⟨B,V,X,e3,Y,e5⟩:=Ug ok PA.kn U m sn x;obtain⟨C,Z,N,F,f1,f2,f3,f4,f5,_⟩:=LD D.wd.mo B st;rw[V]at Z F;obtain⟨Zi,f,ag,kr,O,m2,p⟩:=id U;have G:=LF (x':=x') D.oi h D.oi.mu (λc r=>r) (λc r=>.inl r) V (by rw[p]) X Y B.kin (by rw[p];exact kr.nd PA.kn) (λq n=>by rw[p];exact YA.mpr ⟨q,kr.sub q n,rfl⟩) ?_ (λg d h0 td=>?_) (λhd=>?_) C.od st f1 f3
  rotate_left
  ·have J:T.od=if w.2.1.od.length<v.length then v else w.2.1.od:=by rw[p]
   by_cases y:w.2.1.od.length<v.length
   ·rw[if_pos y]at J;rw[J];exact .inr ⟨y,λg h0=>(S g h0).1⟩
   ·rw[if_neg y]at J;exact .inl J
  ·have td:tbl f g.2.1.me=Ya d:=by rw[p]at td;exact td
   have hm:g.2.1.me∈w.2.1.ta.map (·.1):=by
    rw[←O.1];by_cases y:g.2.1.me∈f.map (·.1)
    ·exact y
    ·rw[gJ.mp y]at td;cases td
   intro k;have e:=O.2 _ hm k;rw[td]at e;have e:ct d k=_:=e;rw[e];refine Ly ?_ λq n z=>(S g h0).2 q n z k;cases y:tbl w.2.1.ta g.2.1.me with
   |none=>exact absurd hm (gJ.mpr y)
   |some d0=>exact D.oi.ta i w g d0 h h0 y k
  ·have et:T.ta=f:=by rw[p]
   rw[et];cases y:tbl f w.2.1.me with
   |some d=>exact⟨d,rfl⟩
   |none=>
    have y1:=gJ.mpr y;rw[O.1]at y1;obtain⟨d,hd⟩:=hd;rw[gJ.mp y1]at hd;cases hd
  have I:=D.put h o P ft R ⟨f1.trans X,f2.trans e3,f3.trans Y⟩ C (f5.trans e5) F Z N ((Mg st).trans (by rw[p])) G.1;refine q H' _ rw l ys I (λb u e nb=>o b u e λy=>nb (sv h y)) (iF o λa ha=>D.wd.tr h ha) nn (HQ h ft) G.2 hl (λha=>?_) M tv;obtain⟨u,hu,A⟩:=jo.mp ha;rcases aeK hu with y|y
  ·obtain⟨o,e⟩:=tr (jo.mpr ⟨u,y,A⟩);rw[hl]at e;cases e
  ·rw[y]at A;exact nl A
end
noncomputable abbrev qN:Y4:=fm 53
section
theorem Ps.off(D:Ps K mg H hs nu gr W es ah ap as am sl ml tl res)(o:Off F H H')(k:nQ H H')(n:∀a∈mU W,a∉F)(n2:∀a∈ah::ap::as::am::sl,a∉F):Ps K mg H' hs nu gr W es ah ap as am sl ml tl res:=
 ⟨D.wd.off o k λi w h a ha=>n a (sv h ha),o _ _ D.ha (n2 _ (by simp)),o _ _ D.hp (n2 _ (by simp)),o _ _ D.hs' (n2 _ (by simp)),D.ls,D.lm,λi a m e f=>⟨o _ _ (D.sd i a m e f).1 (n2 _ (by simp[Yw e])),(D.sd i a m e f).2⟩,D.sn,⟨o _ _ D.md.dt (n2 _ (by simp)),λe b=>(D.md.tl e b).up k.smh,D.md.nd⟩,D.kp,D.out,D.n2,D.n4,D.nd,D.rs,D.ot,D.lt,D.rt,D.tt,D.oi⟩
theorem IL(o:Off F H H')(h:∀a∈F,∃u,H a=Ya u/\∀xs,u≠.tup xs):de H H':=λb xs e=>o b _ e λz=>by
 obtain⟨u,q,n⟩:=h b z;rw[e]at q;cases q;exact n xs rfl
theorem Ps.ftu(D:Ps K mg H hs nu gr W es ah ap as am sl ml tl res)(ha:a∈mU W):∃u,H a=Ya u/\∀xs,u≠.tup xs:=by
 obtain⟨w,hw,b⟩:=jo.mp ha;obtain⟨j,c⟩:=YJ hw;obtain⟨o,e,f⟩:=D.wd.tr c b;exact⟨o,e,λxs z=>by rw[z]at f;exact f⟩
end
theorem Ps.ltr(D:Ps K mg H hs nu gr W es ah ap as am sl ml tl res)(ha:a∈ah::ap::as::am::sl):∃u,H a=Ya u:=by
 rcases Ym.mp ha with z|ha
 ·rw[z];exact⟨_,D.ha⟩
 rcases Ym.mp ha with z|ha
 ·rw[z];exact⟨_,D.hp⟩
 rcases Ym.mp ha with z|ha
 ·rw[z];exact⟨_,D.hs'⟩
 rcases Ym.mp ha with z|ha
 ·rw[z];exact⟨_,D.md.dt⟩
 obtain⟨j,b⟩:=YJ ha;have c:=(Yh.mp b).1;obtain⟨m,hm⟩:∃m,ml[j]?=Ya m:=⟨_,Yk (by rw[D.lm,←D.ls];exact c)⟩;exact⟨_,(D.sd j a m b hm).1⟩
def Xl(F:List Ye)(d H:Hp)(v:V)(e:Nat×List (V×bF)):Prop:=∃a b c,v=.ref a/\H a=Ya (.tup [.int e.1,.ref b])/\H b=Ya (.lst c)/\Gp H c e.2/\b∉F/\d b=Yb
theorem Xl.off{F':List Ye}{b:Hp}{e:Nat×List (V×bF)}(h:Xl F b H v e)(o:Off F H H')(u:de H H')(n:∀a∈F',a∈F∨H a=Yb):Xl F' b H' v e:=by
 obtain⟨a,c,g,i,j,d,k,f,l⟩:=h;refine⟨a,c,g,i,u _ _ j,o _ _ d f,k.up u,λz=>?_,l⟩;rcases n c z with y|y
 ·exact f y
 ·rw[d]at y;cases y
def uz(K:Yc)(mg:Yp->Option Yd):Sp:=λf H Q _=>∃(g:Ye) (nu:Int) (ap h am d:Ye) (cell k:Int),f=[.ref g,.int nu,.ref ap,.ref h,.ref am,.ref d,.int cell,.int k]/\∃hs gr W i l o tl j,Ps K mg H hs nu gr W i g ap h am l o tl []/\i.length<=29/\0<=k/\k<=100/\H d=Ya (.lst j)/\tF W (i.map (·.1)) H j/\d∉mU W/\d∉g::ap::h::am::l/\j.length<=100/\
 ∀b r f m n e c,Ps K mg b hs nu gr m n g ap h am l o tl e->Off (am::d::mU W) H b->(∀a∈mU m,a∈mU W∨H a=Yb)->n.length<=i.length+ 1->b d=Ya (.lst c)->c.length<=j.length+ 1->tF m (n.map (·.1)) b c->H r=Yb->b r=Ya (.lst f)->YX (X5 H b) f e->Q (.ref r) b
abbrev DK:List Yp:=["_law_hands_here","_law_number","_law_pages_here","_law_seen","_law_made","_law_pool","_law_cell","_law_k"]
theorem fu:aG ["_law_hands_here","_law_number","_law_pages_here","_law_seen","_law_made","_law_pool","_law_cell","_law_k","_law_amount","_law_draw","_law_at","_law_other","_law_rest"] DK (av qN):=fq
variable{uD:Ye}{rF:Ye}{uQ:Ye}{wo:Ye}{lO:YE}{p4:YE}{rH:YE}{uM:YE}{pW:acT}(gC:∅ 10 uD lO yr (rR K mg))(fH:Binds K lO yr [.int 0 pW,.none])(nF:Binds K lO yr [])(fL:∅ 10 rF p4 Fn (jy K mg))(fM:Binds K p4 Fn [])(tT:∅ 10 uQ rH Ef (sj K))(u5:eM K mg "_law_mixed" uQ rH Ef)(wI:∅ 10 wo uM Ee (tI K mg))(wL:eM K mg "_law_call" wo uM Ee)(dq:bE K bX "listen" rF)(dN:bE K bX "piece" uD)
include eV gC fH nF fL fM tT u5 wI wL fc ji aY aW dq dN in
theorem BG(F:bN K "_law_deed" "_law_deed" qN f fd):∅ 11 f fd DK (uz K mg):=by
 refine F.oj fu ?_;rintro _ A _ _ H vs Q E Y aB _ hu ⟨ah,nu,ap,as,am,aq,cell,k,rfl,h⟩;refine⟨_,(aj (bc (i:=8) fu.nd rfl (Or.inl rfl) (bH (c8 (K:=K) rfl) (by rfl) fc aal (aa (pv 2) ai)))
   (aj (bc (i:=9) fu.nd rfl (Or.inl rfl) (bg tT u5 Y (aa (pv 6) (aa (pv 7) ai))))
   (aj (bc (i:=10) fu.nd rfl (Or.inr rfl) (a8 df (a8 hG (pv 9) az) (pv 8)))
   (aj (bc (i:=11) fu.nd rfl (Or.inl rfl) (a8 df (a8 eQ (a8 eQ (pv 10) az) (a8 df (a8 hG (pv 9) az) (a8 zN (pv 8) az))) (pv 8)))
   (aj (eF (br Ay (a8 df (pv 9) az) az (bC _)) (ax (aP (bg wI wL Y (aa (pv 10) (aa (pv 0) (aa (pv 1) (aa (pv 2) (aa (pv 3) (aa (pv 4) (aa (pv 6) ai)))))))))) cg)
   (aj (eF (br oP (a8 df (pv 9) az) az (bC _)) (aj (dC (ny (K:=K) rfl (D9 abC ab1 ab3 mL (pv 5) (aa (bV (bT.cons aY.cl dN gC nF bT.nil) (bB (bO (K:=K) rfl) (pv 2) (pv 10) (λ_ _=>rfl)) Y (aa (a8 df (a8 hG (pv 9) az) az) (aa (a8 df (a8 hG (pv 9) az) az) ai))) ai))))
   (ax (aP (d5 ai)))) cg)
   (aj (eF (PW.pt (zW (br oP (a8 df (pv 9) az) az (bC _)) (uK (br (zS (K:=K) rfl aB) (pv 5) (d5 ai) (bC _))))) (ax (aP (d5 (aa (cF (aa (pv 10) (aa (bV (bT.cons aY.cl dq fL fM bT.nil) (bB (bO (K:=K) rfl) (pv 2) (pv 10) (λ_ _=>rfl)) Y (aa (bB (bO (K:=K) rfl) (pv 5) (a8 df (a8 hG (pv 9) az) (bH (c8 (K:=K) rfl) (by rfl) fc aal (aa (pv 5) ai))) (λ_ _=>rfl)) ai)) ai))) ai)))) cg)
   (aj (eF (br oP (a8 df (pv 9) az) az (bC _)) (aj (ka (i:=12) ["_law_at","_law_one"] [Ya 10,Yb] fu.nd rfl (Or.inl rfl) rfl rfl (by kernel_rfl) (qX rfl ji (aa (pv 8) ai)) (λ_ _ _ _ _ nd=>aQ (i:=1) nd rfl (Or.inl rfl)) (λ_ _ _ _ _=>(dA (br EW (pv 1) (pv 0) (bC _)))) (λ_ _ _ _ _=>(pv 1)))
   (ax (aP (bS ["_law_pages_here","_law_at","_law_one"] [Ya 2,Ya 10,Yb] rfl rfl (by kernel_rfl) (bo (K:=K) rfl (pv 12)) (λ_ _ _ _ _ nd=>aQ (i:=2) nd rfl (Or.inl rfl)) (λ_ _ _ _ _=>dD) (λ_ _ _ _ _=>(cF (aa (pv 2) (aa (bV (bT.cons aY.cl dq fL fM bT.nil) (bB (bO (K:=K) rfl) (pv 0) (pv 2) (λ_ _=>rfl)) Y (aa (zt (bB (bO (K:=K) rfl) (pv 0) (pv 1) (λ_ _=>rfl)) aY.cl dN gC Y fH (show Vals [V.int 0,V.non] _ from(.cons ⟨_,rfl⟩ (.cons rfl .nil))) oF) ai)) ai)))))))) cg)
   (aj (eF (br oP (a8 df (pv 9) az) az (bC _)) (ax (aP (d5 (aa (cF (aa (pv 10) (aa (bV (bT.cons aY.cl dq fL fM bT.nil) (bB (bO (K:=K) rfl) (pv 2) (pv 10) (λ_ _=>rfl)) Y (aa (bV (bT.cons aY.cl dN gC nF bT.nil) (bB (bO (K:=K) rfl) (pv 2) (pv 11) (λ_ _=>rfl)) Y (aa (a8 df (a8 hG (pv 9) az) az) (aa (a8 eQ az (a8 df (a8 hG (pv 9) az) az)) ai))) ai)) ai))) ai)))) cg)
   (ax (aP (d5 (aa (cF (aa (pv 10) (aa (bV (bT.cons aY.cl dq fL fM bT.nil) (bB (bO (K:=K) rfl) (pv 2) (pv 10) (λ_ _=>rfl)) Y (aa (zt (bB (bO (K:=K) rfl) (pv 2) (pv 11) (λ_ _=>rfl)) aY.cl dN gC Y fH (show Vals [V.int 0,V.non] _ from(.cons ⟨_,rfl⟩ (.cons rfl .nil))) oF) ai)) ai))) ai))))))))))))),?_⟩
 obtain⟨hs,gr,W,es,sl,ml,tl,pl,D,bP,k0,k1,gq,po,nq,aD,bQ,kk⟩:=h;have bU:a9 K H ap (W.map λw=>V.ref w.1):=a9.of D.hp;have lW:((W.map λw=>V.ref w.1).length:Int)=(hs.length:Int):=by rw[Yf,D.wd.len]
 have n2:=D.n2;have n4:=D.n4;cbv;rw[lW];cbv;refine⟨cell,k,rfl,k0,k1,λr r0 r1=>?_⟩;have ac:(0:Int)<(hs.length:Int):=by omega
 have bX:(0:Int)<(hs.length:Int)-1:=by omega
 have a0:=KW (r / 8) (ae8 ac);have a1:=aaj (r / 8) ac;cbv;obtain⟨i,hi⟩:=aaF a0;rw[hi];rw[hi]at a1;cbv;have b0:=KW ((i:Int)+ 1+ r / 64%((hs.length:Int)-1)) (ae8 ac);have b1:=aaj ((i:Int)+ 1+ r / 64%((hs.length:Int)-1)) ac;obtain⟨j,hj⟩:=aaF b0;rw[hj];rw[hj]at b1;have an:i<hs.length:=by omega
 have aX:j<hs.length:=by omega
 obtain⟨w,hw⟩:∃w,W[i]?=Ya w:=⟨_,Yk (by rw[D.wd.len];exact an)⟩;obtain⟨Z,J⟩:∃w,W[j]?=Ya w:=⟨_,Yk (by rw[D.wd.len];exact aX)⟩;have bz:uZ (W.map λw=>V.ref w.1) (i:Int)=Ya (.ref w.1):=cG (by rw[Yy,hw];rfl);have bA:uZ (W.map λw=>V.ref w.1) (j:Int)=Ya (.ref Z.1):=cG (by rw[Yy,J];rfl);obtain⟨C,dx,mP,T,hp⟩:=(D.wd.pg i w hw).ob;have eC:=mP;rw[aW]at eC;cases eC;obtain⟨Cj,aZ,a2,Tj,a3⟩:=(D.wd.pg j Z J).ob;have eC:=a2;rw[aW]at eC;cases eC;have aE:aq≠am:=λz=>aD (by simp[z]);have yw:∀{i:Nat} {w:PW},W[i]?=Ya w->w.2.1.kp.length<64:=fun{i w} h=>by
  have:=(D.wd.ok i w h).kl;rw[Yf]at this;omega
 have done:∀{A L A2:Hp} {d:List PW} {rw:List (V×bF)} {l u r:Ye} {ys:List V},aJ H A->Ps K mg L hs nu gr d es ah ap as am sl ml tl ([]++[(i,rw)])->Off (mU W) A L->nQ A L->(∀a,L a=Yb->A a=Yb)->(∀a∈mU d,a∈mU W∨A a=Yb)->G0 W d->A l=Yb->aJ L A2->L l=Ya (.lst ys)->Gp L ys rw->A2 u=Ya (.tup [.int i,.ref l])->L r=Yb->A2 r=Ya (.lst [.ref u])->Q (.ref r) A2:=fun{A L A2 d rw l u r ys} S D' M p G c g0 hl O gl tv gu a4 ao=>by
  refine kk A2 r _ d es [(i,rw)] pl (D'.same O) (λb o e x=>O _ _ (M b o (S _ _ e) λz=>x (by simp[z]))) (λa ha=>(c a ha).imp id S.free) (by omega) (O _ _ (M _ _ (S _ _ gq) nq)) (by omega) ((((po.gr g0).up (de.same S)).up p.smh).up (de.same O)) (S.free (G _ a4)) ao (.cons ⟨u,l,ys,rfl,gu,O _ _ gl,tv.up (de.same O),S.free hl⟩ .nil)
 cbv;refine dP (λ_=>?_) λ_=>?_
 ·cbv;refine⟨i,ah,nu,ap,as,am,cell,rfl,hs,gr,W,es,sl,ml,tl,w,D,an,hw,by omega,λL r vs d Zm rw D' M ex g0 c Y ao pr=>?_⟩;obtain⟨ex,rfl,bY⟩:=ex;have sm:de H L:=IL M λa ha=>by
   rcases Ym.mp ha with z|z
   ·rw[z];exact⟨_,D.md.dt,λxs z=>by cases z⟩
   ·exact D.ftu (sv hw z)
  refine kk L r vs d _ [(i,rw)] pl D' (λb o e x=>M b o e λz=>x ?_) c (by rw[Yq];omega) (M _ _ gq λz=>?_) (by omega) (by rw[Yr];exact((po.gr g0).mono).up sm) Y ao pr
  ·rcases Ym.mp z with z|z
   ·simp[z]
   ·simp[sv hw z]
  ·rcases Ym.mp z with z|z
   ·exact aE z
   ·exact nq (sv hw z)
 refine zq ?_;have a5:=KW (r / 512) (show(3:Int)≠0 by decide);have a6:=KW (r / 2048) (show(4:Int)≠0 by decide);cbv;refine dP (λ_=>?_) λ_=>?_
 ·cbv;refine⟨w.1,_,_,rfl,w.2.1,w.2.2,D.wd.pg i w hw,yw hw,a5,.inr ⟨_,a6,rfl⟩,λH1 t zs g ht pz pa=>?_⟩;have a7:=g _ _ gq;have pc:=D.pc hw pz pa;cbv;intro H2 b2 g2;cbv;intro rr H3 R U g3;have o2:Off [aq] H1 H2:=λb u e x=>b2.at (λz=>x (Yi.mpr z)) e;have ar:nQ H1 H2:=o2.kpf1 a7 trivial;have D2:=(D.same g).off o2 ar (λa ha z=>nq (by rw[←Yi.mp z];exact ha)) λa ha z=>aD (by rw[←Yi.mp z];exact ha);have ba:∀a,H2 a=Yb->H a=none:=λa e=>g.free (by
   cases v:H1 a with
   |none=>rfl
   |some u=>
    by_cases z:a=aq
    ·rw[z,g2]at e;cases e
    ·rw[b2.at z v]at e;cases e)
  refine kk H3 rr [] W es [] (pl++[.ref t]) (D2.same U) (λb o e x=>U _ _ (o2 b o (g _ _ e) λz=>x (by simp[Yi.mp z]))) (λa ha=>.inl ha) (by omega) (U _ _ g2) (by rw[Yq];exact Yl _) (λv hv=>?_) (ba _ R) g3 .nil;rcases YD.mp hv with z|z
  ·exact((po.up (de.same g)).up (ar.smh.trans (de.same U))) v z
  ·exact⟨t,_,Yi.mp z,pc.up (ar.smh.trans (de.same U))⟩
 refine NR ?_;dsimp only;refine AW (λσ A=>σ=[Ya (.ref ah),Ya (.int nu),Ya (.ref ap),Ya (.ref as),Ya (.ref am),Ya (.ref aq),Ya (.int cell),Ya (.int k),Ya (.int (hs.length:Nat)),Ya (.int r),Ya (.int i),Ya (.int j),Yb]/\aJ H A) ?_ λN Zd=>?_
 rotate_left
 ·cbv;refine dP (λ_=>?_) λ_=>?_
  ·cbv;intro e2 H1 b3 g bb;obtain⟨ds,hd,bd⟩:=(po.up (de.same g)).dps (K:=K) D.wd.mo.wf;refine Ir (a9.of (g _ _ gq)) hd bd (a9.of bb) ?_;by_cases z:ds=[]
   ·rw[decide_eq_true z];cbv;exact Zd _ _ ⟨rfl,g⟩
   rw[decide_eq_false z];have b4:0<pl.length:=by
    cases hd with
    |nil=>exact absurd rfl z
    |cons _ _=>exact aiw _
   have b5:a9 K H1 aq pl:=a9.of (g _ _ gq);have bI:a9 K H1 ap (W.map λw=>V.ref w.1):=a9.of (g _ _ D.hp);have b6:=g _ _ hp;have ag:(0:Int)<(pl.length:Int):=by omega
   have i0:=KW (r / 512) (ae8 ag);have i1:=aaj (r / 512) ag;obtain⟨ix,be⟩:=aaF i0;obtain⟨v,hv⟩:∃v,pl[ix]?=Ya v:=⟨_,Yk (by omega)⟩;have aI:uZ pl (r / 512%(pl.length:Int))=Ya v:=by rw[be];exact cG hv
   obtain⟨t,sm,rfl,pc⟩:=po v (Yw hv);cbv;refine(D.same g).listen hw (by simp) (pc.up (de.same g)) (by omega) λL d rw l ys D' M p G c g0 hl nl gl tv=>?_;cbv;intro u A1 hu O gu;cbv;intro rr A2 R U g3;exact done g D' M p G c g0 hl (O.trans U) gl tv (U _ _ gu) (O.free R) g3
  ·cbv;exact Zd _ _ ⟨rfl,.refl _⟩
 rintro σ A ⟨rfl,S⟩;have DA:=D.same S;refine zq ?_;cbv;refine dP (λ_=>?_) λ_=>?_
 ·cbv;refine⟨_,rfl,by omega,by omega,λE0 au=>?_⟩;refine sY (λm σ B=>∃v,σ=[Ya (.int i),v]/\aJ A B/\B E0=Ya (.lst (((Y8 m).filter λq=>decide (q≠i)).map fun(q:Nat)=>V.int q))) ⟨Yb,rfl,aC au,af⟩ ?_ ?_
  ·rintro m σ B hm ⟨v,rfl,sB,gB⟩;rw[acX,YS,Yr];have lf:=YQ (λq=>decide (q≠i)) (Y8 m);rw[Rw]at lf;have b7:m<hs.length:=by rw[YO]at hm;exact hm
   have e0:(0:Int)+ (m:Int)=(m:Int):=ae7 _;rw[e0];cbv;refine dP (λz=>?_) λz=>?_
   ·have z:m≠i:=λy=>by rw[y,decide_eq_true rfl]at z;cases z
    cbv;refine⟨_,gB,aF (by rw[Yf];omega),_,rfl,λb o q=>?_,?_⟩
    ·rw[ak (ay q au)];exact sB b o q
    ·rw[af,aa0 (by exact decide_eq_true z)];rfl
   ·have z:m=i:=by
     by_cases y:m=i
     ·exact y
     ·exact absurd (by rw[decide_eq_false (show ¬ (m:Int)=(i:Int) by omega)];rfl) z
    refine⟨_,rfl,sB,?_⟩;rw[aa1 (by rw[decide_eq_false (λy=>y z)];exact YZ)];exact gB.trans (by simp)
  rintro σ A1 ⟨v,rfl,g,g1⟩;rw[YO]at g1;obtain⟨rs,ad⟩:∃rs,rs=(Y8 hs.length).filter λq=>decide (q≠i):=⟨_,rfl⟩;have bi:rs.Nodup:=by rw[ad];exact ahq.filter _
  have bj:∀q∈rs,q<hs.length:=λq hq=>by
   rw[ad]at hq;exact aak.mp (YU.mp hq).1
  have bK:rs.length<=4:=by
   have:=YQ (λq=>decide (q≠i)) (Y8 hs.length);rw[←ad,Rw]at this;omega
  rw[←ad]at g1;have X:aJ H A1:=S.trans g;have D1:=D.same X;cbv;intro E hE;have nE:E∉mU W:=λz=>by
   obtain⟨u,e,_⟩:=D1.ftu z;rw[hE]at e;cases e
  have bl:E∉ah::ap::as::am::sl:=λz=>by
   obtain⟨u,e⟩:=D1.ltr z;rw[hE]at e;cases e
  let aK:Nat->St->Hp->Prop:=λm σ B=>∃v d s xs,σ=[Ya (.ref ap),Ya (.int i),v]/\Ps K mg B hs nu gr d es ah ap as am sl ml tl s/\s.map (·.1)=rs.take m/\B E=Ya (.lst xs)/\YX (Xl (E::mU d) H B) xs s/\Off (mU W) A1 B/\de A1 B/\(∀a∈mU d,a∈mU W∨A1 a=Yb)/\E∉mU d/\(∀a,B a=Yb->A1 a=Yb)/\G0 W d;refine bh (K:=K) (a:=E0) (xs:=rs.map fun(q:Nat)=>V.int q) aK ?_ ?_ ?_ ?_
  ·have se:=aC (o:=.lst []) hE;exact⟨Yb,W,[],[],rfl,D1.same se,rfl,af,.nil,Off.of se,de.same se,λa ha=>.inl ha,nE,λa e=>se.free e,.refl _⟩
  ·rintro m σ B _ ⟨_,_,_,_,_,_,_,_,_,o,_⟩;exact a9.of (o _ _ g1 λz=>by
    obtain⟨u,e,_⟩:=D.ftu z;have:=S.free au;rw[e]at this;cases this)
  ·rintro m y σ B hy ⟨v,d,s,xs,rfl,DB,er,gE,pr,oB,uB,fB,aw,ae,gB⟩;rw[Yy]at hy;obtain⟨q,hq,rfl⟩:=aa7.mp hy;have hm:=(Yh.mp hq).1;have bm:=bj q (Yw hq);have bn:q∉s.map (·.1):=by
    rw[er];intro z;have:=aN hq;have nd:(rs.take (m+ 1)).Nodup:=bi.sublist (aco _ _);rw[this,jJ]at nd;exact nd.2.2 q z q (Yi.mpr rfl) rfl
   obtain⟨wq,aA⟩:∃w,d[q]?=Ya w:=⟨_,Yk (by rw[DB.wd.len];exact bm)⟩;obtain⟨wi,ab⟩:∃w,d[i]?=Ya w:=⟨_,Yk (by rw[DB.wd.len];exact an)⟩;have aI:uZ (d.map λw=>V.ref w.1) (q:Int)=Ya (.ref wq.1):=cG (by rw[Yy,aA];rfl);have bt:uZ (d.map λw=>V.ref w.1) (i:Int)=Ya (.ref wi.1):=cG (by rw[Yy,ab];rfl);obtain⟨Cq,b8,aM,Tq,b9⟩:=(DB.wd.pg q wq aA).ob;rw[aW]at aM;cases aM;obtain⟨Ci,bu,aR,Ti,bv⟩:=(DB.wd.pg i wi ab).ob;rw[aW]at aR;cases aR;have ca:a9 K B ap (d.map λw=>V.ref w.1):=a9.of DB.hp;have cc:xs.length=s.length:=Y2 pr;have cd:s.length<=4:=by
    have:=congrArg adn er;rw[Yf,mr]at this;omega
   have bw:wi.2.1.kp.length<64:=by
    have:=(DB.wd.ok i wi ab).kl;rw[Yf]at this;omega
   cbv;refine Cn ?_;cbv;refine⟨wi.1,bu,_,rfl,bv,vO,?_⟩;cbv;refine⟨wi.1,0,.non,rfl,wi.2.1,wi.2.2,DB.wd.pg i wi ab,bw,by decide,.inl rfl,λB1 t zs n ht pz pa=>?_⟩;cbv;refine(DB.same n).listen aA bn (DB.pc ab pz pa) (by omega) λL W2 rw l ys D' M p G c g0 hl nl gl tv=>?_;cbv;intro u B2 hu I gu;have aS:B2 E=Ya (.lst xs):=I _ _ (M _ _ (n _ _ gE) aw);have oE:Off [E] B2 (upd B2 E (.lst (xs++[.ref u]))):=λb o e x=>by rw[ak λz=>x (Yi.mpr z)];exact e
   have kE:nQ B2 _:=oE.kpf1 aS trivial;have lE:l≠E:=λz=>by rw[z,n _ _ gE]at hl;cases hl
   have al:E∉mU W2:=λz=>by
    rcases c E z with y|y
    ·exact aw y
    ·rw[n _ _ gE]at y;cases y
   refine⟨xs,aS,aF (by omega),_,W2,s++[(q,rw)],xs++[.ref u],rfl,(D'.same I).off oE kE (λa ha z=>al (by rw[←Yi.mp z];exact ha)) (λa ha z=>bl (by rw[←Yi.mp z];exact ha)),?_,af,?_,?_,?_,λa ha=>(c a ha).elim (fB a) λy=>.inr (ae a (n.free y)),al,λa e=>?_,gB.trans g0⟩
   ·rw[aN hq,Yr,er];rfl
   ·refine kj (YX.mapP pr λ_ _ z=>?_) ?_
    ·have z1:=z.off (F':=E::mU d) (Off.of n) (de.same n) λa ha=>.inl ha;have z2:=z1.off (F':=E::mU W2) (λb o e x=>I _ _ (M b o e λy=>x (Yo _ y))) (p.smh.trans (de.same I)) λa ha=>by
      rcases Ym.mp ha with y|y
      ·exact .inl (by simp[y])
      ·exact(c a y).imp (Yo _) id
     exact z2.off (λb o e x=>oE b o e λy=>x (by simp[Yi.mp y])) kE.smh λa ha=>.inl ha
    ·refine⟨u,l,ys,rfl,kE.smh _ _ gu,oE _ _ (I _ _ gl) (by simp[lE]),(tv.up (de.same I)).up kE.smh,λz=>?_,X.free (ae l (n.free hl))⟩;rcases Ym.mp z with y|y
     ·exact lE y
     ·exact nl y
   ·intro b o e x;have e1:=n _ _ (oB b o e x);have n1:b∉mU d:=λz=>by
     rcases fB b z with y|y
     ·exact x y
     ·rw[e]at y;cases y
    exact oE _ _ (I _ _ (M b o e1 n1)) (λz=>by rw[Yi.mp z,hE]at e;cases e)
   ·exact uB.trans ((de.same n).trans (p.smh.trans ((de.same I).trans kE.smh)))
   ·by_cases z:a=E
    ·rw[z,af]at e;cases e
    ·rw[ak z]at e;exact ae a (n.free (G a (I.free e)))
  rintro σ B ⟨v,d,s,xs,rfl,DB,er,gE,pr,oB,uB,fB,aw,ae,gB⟩;cbv;have oH:Off (mU W) H B:=λb o e x=>oB b o (X _ _ e) x;exact kk B E xs d es s pl DB (λb o e x=>oH b o e λz=>x (by simp[z])) (λa ha=>(fB a ha).imp id X.free) (by omega) (oH _ _ gq nq) (by omega) (((po.gr gB).up (de.same X)).up uB) (X.free hE) gE (YX.mapP pr λ_ _ ⟨a,fl,ys,e1,e2,e3,e4,_,e5⟩=>⟨a,fl,ys,e1,e2,e3,e4,e5⟩)
 have bL:a9 K A ap (W.map λw=>V.ref w.1):=a9.of DA.hp;have ce:=S _ _ hp;have aT:=S _ _ a3;have aU:=KW (r / 512) (show(4:Int)≠0 by decide);have cf:=KW (r / 2048) (show(2:Int)≠0 by decide);cbv;refine dP (λ_=>?_) λ_=>?_
 ·cbv;refine⟨Z.1,_,_,rfl,Z.2.1,Z.2.2,DA.wd.pg j Z J,yw J,aU,.inr ⟨_,by omega,rfl⟩,λH1 t zs g ht pz pa=>?_⟩;cbv;refine(DA.same g).listen hw (by simp) (DA.pc J pz pa) (by omega) λL d rw l ys D' M p G c g0 hl nl gl tv=>?_;cbv;intro u A1 hu O gu;cbv;intro rr A2 R U g3;exact done (S.trans g) D' M p G c g0 hl (O.trans U) gl tv (U _ _ gu) (O.free R) g3
 cbv;refine Cn ?_;cbv;refine⟨Z.1,aZ,_,rfl,aT,vO,?_⟩;cbv;refine⟨Z.1,0,.non,rfl,Z.2.1,Z.2.2,DA.wd.pg j Z J,yw J,by decide,.inl rfl,λH1 t zs g ht pz pa=>?_⟩;cbv;refine(DA.same g).listen hw (by simp) (DA.pc J pz pa) (by omega) λL d rw l ys D' M p G c g0 hl nl gl tv=>?_;cbv;intro u A1 hu O gu;cbv;intro rr A2 R U g3;exact done (S.trans g) D' M p G c g0 hl (O.trans U) gl tv (U _ _ gu) (O.free R) g3
noncomputable abbrev l8:Y4:=bD (fm 46) 16
noncomputable abbrev pC:Y4:=bD (fm 46) 13
noncomputable def Ak(x:bF):Bool:=decide (x.kd="one")
def U6(z r:List bF):Prop:=r.Perm z/\r.Pairwise λa b=>a.c*64+ a.k<b.c*64+ b.k
theorem U6.uniq{z r c:List bF}(h:U6 z r)(h':U6 z c):r=c:=
 aiE (le:=λa b:bF=>a.c*64+ a.k<b.c*64+ b.k) (λa b _ _ x y=>by omega) h.2 h'.2 (h.1.trans h'.1.symm)
def XU(z r:List (V×bF)):Prop:=r.Perm z/\r.Pairwise λa b=>a.2.c*64+ a.2.k<b.2.c*64+ b.2.k
theorem XU.map{r:List (V×bF)}(h:XU z r):U6 (z.map (·.2)) (r.map (·.2)):=⟨h.1.map _,abw.mpr h.2⟩
theorem ltP{a b:bF}(ha:0<a.k/\a.k<64)(c:0<b.k/\b.k<64):Kz [a.c,a.k] [b.c,b.k]=decide (a.c*64+ a.k<b.c*64+ b.k):=by
 unfold Kz;show(if a.c=b.c then(if a.k=b.k then _ else decide (a.k<b.k))else decide (a.c<b.c))=_;by_cases z:a.c=b.c
 ·rw[if_pos z];by_cases y:a.k=b.k
  ·rw[if_pos y];exact(decide_eq_false (by omega)).symm
  ·rw[if_neg y];exact decide_eq_decide.mpr (by omega)
 ·rw[if_neg z];exact decide_eq_decide.mpr (by omega)
theorem WD(od:wb ((z.map (·.2)).map λx=>[x.c,x.k]) (z.map (·.1)) ws)(bd:∀q∈z,0<q.2.k/\q.2.k<64)(nd:(z.map λq=>(q.2.c,q.2.k)).Nodup):∃r,XU z r/\ws=r.map (·.1):=by
 obtain⟨p,hp,rfl,ho⟩:=od;rw[Yf]at ho;have hp:p.toList.Perm (Y8 z.length):=by
  have:=hp;unfold jr at this;rw[Yf]at this;exact this
 have s:p.toList.length=z.length:=by
  have:=hp.length_eq;rw[Rw]at this;exact this
 have l:p.toList.Nodup:=hp.nodup_iff.mpr ahq;have lt:∀i (c:i<p.toList.length),p.toList[i]<z.length:=λi c=>aak.mp (hp.mem_iff.mp (Rk c));have n:∀i (c:i<p.toList.length),p.getD i 0=p.toList[i]:=λi c=>by
  have m:i<p.size:=by rw[pk]at c;exact c
  rw[YT,YR m,acJ];rfl
 let d:V×bF:=(V.non,⟨"",0,0,0,0,[]⟩);have g:∀i (c:i<z.length),z.getD i d=z[i]:=λi c=>by rw[YM,Yk c];rfl
 have kd:∀i (c:i<z.length),((z.map (·.2)).map λx=>[x.c,x.k]).getD i []=[z[i].2.c,z[i].2.k]:=λi c=>by
  rw[YM,Yy,Yy,Yk c];rfl
 have lk:∀i j (c:i<z.length) (f:j<z.length),Kz (((z.map (·.2)).map λx=>[x.c,x.k]).getD i []) (((z.map (·.2)).map λx=>[x.c,x.k]).getD j [])=decide (z[i].2.c*64+ z[i].2.k<z[j].2.c*64+ z[j].2.k):=λi j c f=>by
  rw[kd i c,kd j f];exact ltP (bd _ (Rk c)) (bd _ (Rk f))
 refine⟨p.toList.map λi=>z.getD i d,⟨?_,?_⟩,?_⟩
 ·have:=hp.map λi=>z.getD i d;rw[show(Y8 z.length).map (λi=>z.getD i d)=z from jB z d]at this;exact this
 ·rw[abw,nh];intro i j c f h;have h1:=ho ⟨λi=>(z.getD i d).2.c*64+ (z.getD i d).2.k,λi j c f=>by rw[lk i j c f];show _=decide ((z.getD i d).2.c*64+ (z.getD i d).2.k<(z.getD j d).2.c*64+ (z.getD j d).2.k);rw[g i c,g j f]⟩ i j (xl h) (by omega);rw[n i c,n j f,lk _ _ (lt j f) (lt i c)]at h1;have h1:=of_decide_eq_false h1;rw[g _ (lt i c),g _ (lt j f)];have o:∀a b (ha:a<z.length) (k:b<z.length),a<b->(z[a].2.c,z[a].2.k)≠(z[b].2.c,z[b].2.k):=λa b ha k ab=>by
   have:=nh.mp nd a b (by rw[Yf];exact ha) (by rw[Yf];exact k) ab;rw[ab4,ab4]at this;exact this
  have fin:∀a b (ha:a<z.length) (k:b<z.length),a≠b->¬ z[b].2.c*64+ z[b].2.k<z[a].2.c*64+ z[a].2.k->z[a].2.c*64+ z[a].2.k<z[b].2.c*64+ z[b].2.k:=λa b ha k ne h1=>by
   have t:=bd _ (Rk ha);have u:=bd _ (Rk k);have kn:¬ (z[a].2.c=z[b].2.c/\z[a].2.k=z[b].2.k):=λw=>by
    have e:(z[a].2.c,z[a].2.k)=(z[b].2.c,z[b].2.k):=by rw[w.1,w.2]
    rcases aem ne with y|y
    ·exact o _ _ _ _ y e
    ·exact o _ _ _ _ y e.symm
   omega
  exact fin _ _ _ _ (nh.mp l i j c f h) h1
 ·rw[rl];refine aap λi c=>?_;have:=aak.mp (hp.mem_iff.mp c);show(z.map (·.1)).getD i V.non=(z.getD i d).1;rw[g i this,YM,Yy,Yk this];rfl
def pH(K:Yc)(mg:Yp->Option Yd):Sp:=λc H Q _=>∃(p:Ye),c=[.ref p]/\∃S x,hU K mg H p S x/\S.od.length<=60/\∀a l b,aJ H a->H l=Yb->a l=Ya (.lst b)->nv a b S.od->Q (.ref l) a
theorem z6:aG ["self"] aV (av l8):=fq
include eV gR aY aW in
theorem yx(F:bN K "places" "Page.places" l8 f fd):∅ 1 f fd aV (pH K mg):=by
 refine F.oj z6 ?_;rintro _ _ _ _ H _ _ _ _ _ _ _ ⟨p,rfl,h⟩;refine⟨_,(ax (aP (bZ (sI (K:=K) rfl) (by rfl) gR aaO (aa (aL (K:=K) rfl (pv 0) rfl) ai)))),?_⟩;obtain⟨S,x,PA,lo,c⟩:=h;obtain⟨C,g,i,T,hp⟩:=PA.ob;obtain⟨cl,n1,n2,n3,n4,n5,n6,n7,n8,n9,n10,n11⟩:=id T;obtain⟨a,go,no⟩:=PA.od;have j:=no.len;have k:a9 K H x.o a:=a9.of go;cbv;intro l d hl b e;exact c d l a b hl e (no.up (.same b))
theorem DZ{K:Yc}{b c d e f g:V}(h:H a=Ya (.tup [b,c,d,e,f,g]))(q:∀p H',H p=Yb->aJ H H'->H' p=Ya (.tup [b,c,d,e,f])->Q (.ref p) H'):Qy K (.ref a) Yb (Ya 5) H Q:=
 ⟨a,_,rfl,bJ.of h,by show ¬ (HT.f6 6 0 Yb=0/\HT.f6 6 6 (Ya 5)=6);decide,λp hp=>q p _ hp (aC hp) af⟩
theorem fg{α β:Type}{R:α->β->Prop}:∀{xs:List α} {ys:List β} {us:List α} {vs:List β},YX R xs ys->YX R us vs->YX R (xs++us) (ys++vs):=by
 intro a b c d w h
 induction w with
 |nil=>exact h
 |cons r _ ih=>exact .cons r ih
noncomputable def jX(q:V×bF):Bool:=decide (q.2.kd="one")
def M3(H:Hp)(v:V)(x:bF):Prop:=∃a,v=.ref a/\H a=Ya (.tup [.int x.n,.int x.c,.int x.k,.str x.kd,.int x.w])
theorem M3.same(s:aJ H H')(h:M3 H v x):M3 H' v x:=by
 obtain⟨a,e,h1⟩:=h;exact⟨a,e,s _ _ h1⟩
theorem O8(l:List (V×bF)):(l.filter jX).map (·.2)=(l.map (·.2)).filter Ak:=by
 rw[afq];rfl
theorem N6(l:List (V×bF)):(l.filter λq=>!jX q).map (·.2)=(l.map (·.2)).filter λx=>!Ak x:=by
 rw[afq];rfl
def tL(K:Yc)(mg:Yp->Option Yd):Sp:=λc H Q _=>∃(p:Ye),c=[.ref p]/\∃S x,hU K mg H p S x/\S.tk.length<=60/\(∀q∈S.tk,0<q.2.k/\q.2.k<64)/\(S.tk.map λq=>(q.2.c,q.2.k)).Nodup/\
 ∀a l b rs,aJ H a->H l=Yb->a l=Ya (.lst b)->U6 ((S.tk.map (·.2)).filter λx=>!Ak x) rs->YX (M3 a) b ((S.tk.map (·.2)).filter Ak++rs)->Q (.ref l) a
theorem nD:aG ["self","ones","others"] aV (av pC):=fq
variable(cO:∅ 4 dB dY aV (d3 K))(dR:∅ 4 dH dy aV (dz K))(gP:∅ 4 fX je aV (jn K mg))
include eV cO a7 dR bA gP cE q9 q8 ao aA aB aY aw aD aE aW aM bI aR bQ aT bP in
theorem Cz(F:bN K "rows" "Page.rows" pC f fd):∅ 5 f fd aV (tL K mg):=by
 refine F.oj nD ?_;rintro _ A _ _ H _ _ _ O _ _ hu ⟨p,rfl,h⟩;refine⟨_,(aj (ka (i:=1) ["call"] [Yb] nD.nd rfl (Or.inl rfl) rfl rfl (by kernel_rfl) (bo (K:=K) rfl (aL (K:=K) rfl (pv 0) rfl)) (λ_ _ _ _ _ nd=>aQ (i:=0) nd rfl (Or.inl rfl)) (λ_ _ _ _ _=>(dA (dS K rfl (bp (bT.cons aB.cl aT cO a7 (bT.cons ao.cl aM cO a7 (bT.cons aA.cl aR dR bA bT.nil))) (pv 0) O)))) (λ_ _ _ _ _=>(pv 0)))
   (aj (ka (i:=2) ["call"] [Yb] nD.nd rfl (Or.inl rfl) rfl rfl (by kernel_rfl) (bo (K:=K) rfl (aL (K:=K) rfl (pv 0) rfl)) (λ_ _ _ _ _ nd=>aQ (i:=0) nd rfl (Or.inl rfl)) (λ_ _ _ _ _=>(dA (vF (dS K rfl (bp (bT.cons aB.cl aT cO a7 (bT.cons ao.cl aM cO a7 (bT.cons aA.cl aR dR bA bT.nil))) (pv 0) O))))) (λ_ _ _ _ _=>(pv 0)))
   (ax (aP (bS ["call"] [Yb] rfl rfl (by kernel_rfl) (bo (K:=K) rfl (a8 zD (pv 1) (bg q9 q8 O (aa (pv 2) ai)))) (λ_ _ _ _ _ nd=>aQ (i:=0) nd rfl (Or.inl rfl)) (λ_ _ _ _ _=>dD) (λ_ _ _ _ _=>(fN (yi (K:=K) rfl) (bp (bT.cons aB.cl bP gP cE (bT.cons ao.cl bI gP cE (bT.cons aA.cl bQ gP cE bT.nil))) (pv 0) O) iD (iO az)))))))),?_⟩
 obtain⟨S,x,PA,lt,bd,nd,kk⟩:=h;obtain⟨C,dx,mP,T,hp⟩:=PA.ob;obtain⟨cl,n1,n2,n3,n4,n5,n6,n7,n8,n9,n10,n11⟩:=id T;have gt:=PA.tk;have tc:=PA.tc;cbv;intro D1 ae;refine bh (K:=K) (a:=x.t) (xs:=S.tk.map (·.1)) (λi σ A=>∃v d,σ=[v]/\aJ H A/\A D1=Ya (.lst ((d:List (V×bF)).map (·.1)))/\d=(S.tk.take i).filter jX) ⟨Yb,[],rfl,aC ae,af,rfl⟩ ?_ ?_ ?_
 ·rintro i σ A _ ⟨_,_,_,z,_⟩;exact a9.of (z _ _ gt)
 ·rintro i v σ A g ⟨v0,d,rfl,j,s,ez⟩;obtain⟨q,c,rfl⟩:∃q,S.tk[i]?=Ya q/\q.1=v:=by
   rw[Yy]at g;cases e:S.tk[i]? with
   |none=>rw[e]at g;cases g
   |some q=>rw[e]at g;exact⟨q,rfl,YF g⟩
  have hi:=(Yh.mp c).1;have lz:d.length<=i:=by
   rw[ez];exact ir (YQ _ _) (aa6 _ _)
  have ab:jX q=true->d++[q]=(S.tk.take (i+ 1)).filter jX:=λw=>by
   rw[aN c,YS,←ez];simp[w]
  have no:jX q=false->d=(S.tk.take (i+ 1)).filter jX:=λw=>by
   rw[aN c,YS,←ez];simp[w]
  have put:jX q=true->∃v' G,[Ya q.1]=[v']/\aJ H (upd A D1 (.lst (d.map (·.1)++[q.1])))/\upd A D1 (.lst (d.map (·.1)++[q.1])) D1=Ya (.lst ((G:List (V×bF)).map (·.1)))/\G=(S.tk.take (i+ 1)).filter jX:=λw=>
   ⟨_,d++[q],rfl,λb o z=>by rw[ak (ay z ae)];exact j b o z,by rw[af,Yr];rfl,ab w⟩
  obtain⟨v,y⟩:=q;obtain⟨D,C',Q,t,ag,I,J,hT,E,ht,ah,al⟩:=(tc _ (Yw c)).up (.same (j));have I:v=.ref D:=I;subst I;obtain⟨kd,n,c',k,w,an⟩:=y;have J:OL mg kd C':=J;have E:A D=Ya (.ins C' Q (tG (.int n) (.int c') (.int k) (.int w) (.ref t))):=E;rcases J with⟨rfl,e⟩|⟨rfl,e⟩|⟨rfl,e⟩
  ·rw[aE]at e;cases e;cbv;refine⟨D,rfl,?_⟩;cbv;exact⟨_,d,rfl,j,s,no (by unfold jX;kernel_rfl)⟩
  ·rw[aw]at e;cases e;cbv;refine⟨D,rfl,?_⟩;cbv;exact⟨_,d,rfl,j,s,no (by unfold jX;kernel_rfl)⟩
  ·rw[aD]at e;cases e;cbv;refine⟨D,rfl,?_⟩;cbv;exact⟨_,s,by rw[Yf];exact aF (by omega),put (by unfold jX;kernel_rfl)⟩
 rintro σ A1 ⟨v1,z1,rfl,s1,g1,R⟩;rw[Yf,YI]at R;have aq:=s1 _ _ hp;have ap:=s1 _ _ gt;cbv;intro D2 am;refine bh (K:=K) (a:=x.t) (xs:=S.tk.map (·.1)) (λi σ A=>∃v d,σ=[v]/\aJ A1 A/\A D2=Ya (.lst ((d:List (V×bF)).map (·.1)))/\d=(S.tk.take i).filter λq=>!jX q) ⟨Yb,[],rfl,aC am,af,rfl⟩ ?_ ?_ ?_
 ·rintro i σ A _ ⟨_,_,_,z,_⟩;exact a9.of (z _ _ ap)
 ·rintro i v σ A g ⟨v0,d,rfl,j,s,ez⟩;obtain⟨q,c,rfl⟩:∃q,S.tk[i]?=Ya q/\q.1=v:=by
   rw[Yy]at g;cases e:S.tk[i]? with
   |none=>rw[e]at g;cases g
   |some q=>rw[e]at g;exact⟨q,rfl,YF g⟩
  have hi:=(Yh.mp c).1;have lz:d.length<=i:=by
   rw[ez];exact ir (YQ _ _) (aa6 _ _)
  have ab:(!jX q)=true->d++[q]=(S.tk.take (i+ 1)).filter (λq=>!jX q):=λw=>by
   rw[aN c,YS,←ez];simp[w]
  have no:(!jX q)=false->d=(S.tk.take (i+ 1)).filter (λq=>!jX q):=λw=>by
   rw[aN c,YS,←ez];simp[w]
  have put:(!jX q)=true->∃v' G,[Ya q.1]=[v']/\aJ A1 (upd A D2 (.lst (d.map (·.1)++[q.1])))/\upd A D2 (.lst (d.map (·.1)++[q.1])) D2=Ya (.lst ((G:List (V×bF)).map (·.1)))/\G=(S.tk.take (i+ 1)).filter (λq=>!jX q):=λw=>
   ⟨_,d++[q],rfl,λb o z=>by rw[ak (ay z am)];exact j b o z,by rw[af,Yr];rfl,ab w⟩
  obtain⟨v,y⟩:=q;obtain⟨D,C',Q,t,ag,I,J,hT,E,ht,ah,al⟩:=(tc _ (Yw c)).up (.same (s1.trans j));have I:v=.ref D:=I;subst I;obtain⟨kd,n,c',k,w,an⟩:=y;have J:OL mg kd C':=J;have E:A D=Ya (.ins C' Q (tG (.int n) (.int c') (.int k) (.int w) (.ref t))):=E;rcases J with⟨rfl,e⟩|⟨rfl,e⟩|⟨rfl,e⟩
  ·rw[aE]at e;cases e;cbv;refine⟨D,rfl,?_⟩;cbv;exact⟨_,s,by rw[Yf];exact aF (by omega),put (by unfold jX;kernel_rfl)⟩
  ·rw[aw]at e;cases e;cbv;refine⟨D,rfl,?_⟩;cbv;exact⟨_,s,by rw[Yf];exact aF (by omega),put (by unfold jX;kernel_rfl)⟩
  ·rw[aD]at e;cases e;cbv;refine⟨D,rfl,?_⟩;cbv;exact⟨_,d,rfl,j,s,no (by unfold jX;kernel_rfl)⟩
 rintro σ A2 ⟨v2,z2,rfl,s2,g2,L⟩;rw[Yf,YI]at L;cbv;have cz:∀q∈S.tk,f7 K mg A2 q.1 q.2:=λq c=>(tc q c).up (.same (s1.trans s2));have m1:∀q∈z1,q∈S.tk:=λq c=>by rw[R]at c;exact(YU.mp c).1
 have m2:∀q∈z2,q∈S.tk:=λq c=>by rw[L]at c;exact(YU.mp c).1
 have l1:z1.length<=S.tk.length:=by rw[R];exact YQ _ _
 have l2:z2.length<=S.tk.length:=by rw[L];exact YQ _ _
 have IU:∀{B:Hp} (l:List (V×bF)),(∀q∈l,f7 K mg B q.1 q.2)->Cs K mg B (l.map (·.1)) (l.map (·.2)):=fun{B} l=>by
  induction l with
  |nil=>exact λ_=>.nil
  |cons q l ih=>exact λh=>.cons (h q Yu) (ih λr O=>h r (Yo _ O))
 refine⟨D2,rfl,_,z2.map (·.2),a9.of g2,IU z2 λq c=>cz q (m2 q c),(by rw[Yf];omega),λA3 D3 ar s3 as pm od g3=>?_⟩;obtain⟨W,rk,pr⟩:=WD od (λq c=>bd q (m2 q c)) (by rw[L];exact nd.sublist (ab7.map _));have l3:W.length=z2.length:=rk.1.length_eq;have m3:∀q∈W,q∈S.tk:=λq c=>m2 q (rk.1.mem_iff.mp c);rw[pr]at g3;refine DU (s3 _ _ (s2 _ _ g1)) g3 (by rw[Yf,Yf];omega) λD4 A4 au s4 g4=>?_;rw[←Yr]at g4;have ac:aJ H A4:=((s1.trans s2).trans s3).trans s4;have mm:∀q∈z1++W,q∈S.tk:=λq c=>(YD.mp c).elim (m1 q) (m3 q);refine⟨D4,rfl,⟨_,a9.of g4⟩,λX U=>?_⟩;refine bh (K:=K) (a:=D4) (xs:=(z1++W).map (·.1)) (λi σ A=>∃v m,σ=[v]/\aJ A4 A/\A X=Ya (.lst m)/\m.length=i/\YX (M3 A) m (((z1++W).take i).map (·.2))) ⟨Yb,[],rfl,aC U,af,rfl,.nil⟩ ?_ ?_ ?_
 ·rintro i σ A _ ⟨_,_,_,z,_⟩;exact a9.of (z _ _ g4)
 ·rintro i v σ A g ⟨v0,m,rfl,j,s,ly,py⟩;obtain⟨q,c,rfl⟩:∃q,(z1++W)[i]?=Ya q/\q.1=v:=by
   rw[Yy]at g;cases e:(z1++W)[i]? with
   |none=>rw[e]at g;cases g
   |some q=>rw[e]at g;exact⟨q,rfl,YF g⟩
  have hi:=(Yh.mp c).1;rw[Yq]at hi;have cq:=(tc _ (mm q (Yw c))).up (.same (ac.trans j));obtain⟨v,y⟩:=q;obtain⟨D,C',Q,t,ag,I,J,hT,E,ht,ah,al⟩:=id cq;have I:v=.ref D:=I;subst I;have J:OL mg y.kd C':=J;have ad:∀b o,A4 b=Ya o->b≠X:=λb o z=>ay z U;rcases J with⟨ek,e⟩|⟨ek,e⟩|⟨ek,e⟩
  ·rw[aE]at e;cases e;cbv;refine⟨_,rfl,y,cq,λA5 u M hu tl=>?_⟩;obtain⟨u',t',Y,e5,gu,_⟩:=tl;cases e5;cbv;refine DZ gu λr Z O N gr=>?_;have g5:=N _ _ (M _ _ s);refine⟨m,g5,aF (by omega),_,m++[.ref r],rfl,λb o z=>?_,af,by rw[Yq,ly];rfl,?_⟩
   ·rw[ak (ad b o z)];exact N _ _ (M _ _ (j b o z))
   ·rw[aN c,Yr];have kt:de Z (upd Z X (.lst (m++[.ref r]))):=de.lst g5;refine fg (YX.mapP py λv y' hv=>?_) (.cons ⟨r,rfl,kt _ _ gr⟩ .nil);obtain⟨a',e',h'⟩:=hv;exact⟨a',e',kt _ _ (N _ _ (M _ _ h'))⟩
  ·rw[aw]at e;cases e;cbv;refine⟨_,rfl,y,cq,λA5 u M hu tl=>?_⟩;obtain⟨u',t',Y,e5,gu,_⟩:=tl;cases e5;cbv;refine DZ gu λr Z O N gr=>?_;have g5:=N _ _ (M _ _ s);refine⟨m,g5,aF (by omega),_,m++[.ref r],rfl,λb o z=>?_,af,by rw[Yq,ly];rfl,?_⟩
   ·rw[ak (ad b o z)];exact N _ _ (M _ _ (j b o z))
   ·rw[aN c,Yr];have kt:de Z (upd Z X (.lst (m++[.ref r]))):=de.lst g5;refine fg (YX.mapP py λv y' hv=>?_) (.cons ⟨r,rfl,kt _ _ gr⟩ .nil);obtain⟨a',e',h'⟩:=hv;exact⟨a',e',kt _ _ (N _ _ (M _ _ h'))⟩
  ·rw[aD]at e;cases e;cbv;refine⟨_,rfl,y,cq,λA5 u M hu tl=>?_⟩;obtain⟨u',t',Y,e5,gu,_⟩:=tl;cases e5;cbv;refine DZ gu λr Z O N gr=>?_;have g5:=N _ _ (M _ _ s);refine⟨m,g5,aF (by omega),_,m++[.ref r],rfl,λb o z=>?_,af,by rw[Yq,ly];rfl,?_⟩
   ·rw[ak (ad b o z)];exact N _ _ (M _ _ (j b o z))
   ·rw[aN c,Yr];have kt:de Z (upd Z X (.lst (m++[.ref r]))):=de.lst g5;refine fg (YX.mapP py λv y' hv=>?_) (.cons ⟨r,rfl,kt _ _ gr⟩ .nil);obtain⟨a',e',h'⟩:=hv;exact⟨a',e',kt _ _ (N _ _ (M _ _ h'))⟩
 rintro σ A ⟨v0,m,rfl,j,s,ly,py⟩;rw[Yf,YI,Yr,R,O8]at py;have hn:H X=none:=by
  cases z:H X with
  |none=>rfl
  |some o=>rw[ac _ _ z]at U;cases U
 refine kk A X m (W.map (·.2)) (ac.trans j) hn s ?_ py;have:=rk.map;rw[L,N6]at this;exact this
noncomputable abbrev pN:Y4:=fm 54
theorem XZ{R:V->List Int->Prop}(f:bF->List Int):∀{a:List (V×bF)},(∀q∈a,R q.1 (f q.2))->YX R (a.map (·.1)) ((a.map (·.2)).map f)
 |[],_=>.nil
 |q::a,h=>.cons (h q Yu) (XZ f λr b=>h r (Yo _ b))
def t9(K:Yc):Sp:=λc H Q _=>∃(l:Ye),c=[.ref l]/\∃us cs,H l=Ya (.lst us)/\YX (js H) us cs/\cs.length<=60/\(∀x∈cs,0<x.k/\x.k<64)/\(cs.map λx=>(x.c,x.k)).Nodup/\
 ∀a r b rs,aJ H a->H r=Yb->a r=Ya (.lst b)->U6 (cs.filter λx=>!Ak x) rs->YX (M3 a) b (cs.filter Ak++rs)->Q (.ref r) a
abbrev Ei:List Yp:=["_law_takes"]
theorem m7:aG ["_law_takes","_law_ones","_law_others"] Ei (av pN):=fq
include eV fJ in
theorem B3(F:bN K "_law_rows" "_law_rows" pN f fd):∅ 1 f fd Ei (t9 K):=by
 refine F.oj m7 ?_;rintro _ A _ _ H _ _ _ hr _ _ _ ⟨l,rfl,h⟩;refine⟨_,(aj (ka (i:=1) ["_law_told"] [Yb] m7.nd rfl (Or.inl rfl) rfl rfl (by kernel_rfl) (bo (K:=K) rfl (pv 0)) (λ_ _ _ _ _ nd=>aQ (i:=0) nd rfl (Or.inl rfl)) (λ_ _ _ _ _=>(dA (br oP (bB (bG (K:=K) rfl) (pv 0) az (λ_ _=>rfl)) fS (bC _)))) (λ_ _ _ _ _=>(fN (yi (K:=K) rfl) (pv 0) iD (iO az))))
   (aj (ka (i:=2) ["_law_told"] [Yb] m7.nd rfl (Or.inl rfl) rfl rfl (by kernel_rfl) (bo (K:=K) rfl (pv 0)) (λ_ _ _ _ _ nd=>aQ (i:=0) nd rfl (Or.inl rfl)) (λ_ _ _ _ _=>(dA (br EW (bB (bG (K:=K) rfl) (pv 0) az (λ_ _=>rfl)) fS (bC _)))) (λ_ _ _ _ _=>(cF (aa (bB (bG (K:=K) rfl) (pv 0) az (λ_ _=>rfl)) (aa (bB (bG (K:=K) rfl) (pv 0) az (λ_ _=>rfl)) (aa (fN (yi (K:=K) rfl) (pv 0) iD (iO az)) ai))))))
   (ax (aP (a8 zD (pv 1) (bS ["_law_caller","_law_count","_law_row"] [Yb,Yb,Yb] rfl rfl (by kernel_rfl) (bo (K:=K) rfl (bH (y3 (K:=K) rfl) (by rfl) fJ abt (aa (pv 2) ai))) (λ_ _ _ _ _ nd=>kM (K:=K) (n:=3) rfl rfl (cH (aQ (i:=0) nd rfl (Or.inl rfl)) (cH (aQ (i:=1) nd rfl (Or.inl rfl)) (cH (aQ (i:=2) nd rfl (Or.inl rfl)) kT)))) (λ_ _ _ _ _=>dD) (λ_ _ _ _ _=>(pv 2)))))))),?_⟩
 obtain⟨us,cs,gl,tl,lc,bd,nd,kk⟩:=h;have lu:us.length=cs.length:=Y2 tl;cbv;intro D1 R;refine bh (K:=K) (a:=l) (xs:=us) (λi σ A=>∃v d,σ=[v]/\aJ H A/\A D1=Ya (.lst d)/\d.length<=i/\YX (M3 A) d ((cs.take i).filter Ak)) ⟨Yb,[],rfl,aC R,af,Yl _,.nil⟩ ?_ ?_ ?_
 ·rintro i σ A _ ⟨_,_,_,z,_⟩;exact a9.of (z _ _ gl)
 ·rintro i y σ A N ⟨v0,d,rfl,g,s,lz,pz⟩;obtain⟨c,S,t,tc,xc,rfl,gt,ah,al⟩:=cR tl N;have hi:=(Yh.mp S).1;have st:bJ K A t [.int c.n,.int c.c,.int c.k,.str c.kd,.int c.w,.ref tc]:=bJ.of (g _ _ gt);rw[aN S,YS];cbv;refine dP (λz=>?_) λz=>?_
  ·cbv;refine DZ (g _ _ gt) λr A1 hr C gr=>?_;have T:=C _ _ s;have u:de A1 (upd A1 D1 (.lst (d++[.ref r]))):=de.lst T;refine⟨d,T,aF (by omega),_,d++[.ref r],rfl,λb o e=>?_,af,by rw[Yq];exact aau lz,?_⟩
   ·rw[ak (ay e R)];exact C _ _ (g b o e)
   ·rw[aa0 (by exact z)];refine fg (YX.mapP pz λv y' I=>?_) (.cons ⟨r,rfl,u _ _ gr⟩ .nil);obtain⟨O,e',h'⟩:=I;exact⟨O,e',u _ _ (C _ _ h')⟩
  ·refine⟨_,d,rfl,g,s,by omega,?_⟩;rw[aa1 (by exact z),afp,Y1];exact pz
 rintro σ A1 ⟨v1,z1,rfl,C,g1,ao,U⟩;rw[lu,YI]at U;have ap:=C _ _ gl;cbv;intro D2 W;refine bh (K:=K) (a:=l) (xs:=us) (λi σ A=>∃v d j,σ=[v]/\aJ A1 A/\A D2=Ya (.lst d)/\d.length<=i/\d=(j:List (V×bF)).map (·.1)/\j.map (·.2)=(cs.take i).filter (λx=>!Ak x)/\∀q∈j,∃t r,q.1=.ref t/\A t=Ya (.tup [.int q.2.c,.int q.2.k,.ref r])/\M3 A (.ref r) q.2) ⟨Yb,[],[],rfl,aC W,af,Yl _,rfl,rfl,λq m=>nomatch m⟩ ?_ ?_ ?_
 ·rintro i σ A _ ⟨_,_,_,_,z,_⟩;exact a9.of (z _ _ (C _ _ gl))
 ·rintro i y σ A N ⟨v0,d,j,rfl,g,s,lz,ez,eq,pq⟩;obtain⟨c,S,t,tc,xc,rfl,gt,ah,al⟩:=cR tl N;have hi:=(Yh.mp S).1;have X:=g _ _ (C _ _ gt);have st:bJ K A t [.int c.n,.int c.c,.int c.k,.str c.kd,.int c.w,.ref tc]:=bJ.of X;rw[aN S,YS];cbv;refine dP (λz=>?_) λz=>?_
  ·cbv;refine DZ X λr A2 hr J gr=>?_;cbv;intro p A3 hp B gp;have Y:=B _ _ (J _ _ s);have u:de A3 (upd A3 D2 (.lst (d++[.ref p]))):=de.lst Y;refine⟨d,Y,aF (by omega),_,d++[.ref p],j++[(.ref p,c)],rfl,λb o e=>?_,af,by rw[Yq];exact aau lz,by rw[ez,Yr];rfl,?_,λq m=>?_⟩
   ·rw[ak (ay e W)];exact B _ _ (J _ _ (g b o e))
   ·rw[Yr,eq,aa0 (by exact z)];rfl
   ·rcases YD.mp m with y|y
    ·obtain⟨Z,E,e1,e2,O,e3,e4⟩:=pq q y;exact⟨Z,E,e1,u _ _ (B _ _ (J _ _ e2)),O,e3,u _ _ (B _ _ (J _ _ e4))⟩
    ·rw[Yi.mp y];exact⟨p,r,rfl,u _ _ gp,r,rfl,u _ _ (B _ _ gr)⟩
  ·refine⟨_,d,j,rfl,g,s,by omega,ez,?_,pq⟩;rw[aa1 (by exact z),afp,Y1];exact eq
 rintro σ A2 ⟨v2,z2,j,rfl,J,g2,aq,L,D,ab⟩;rw[lu,YI]at D;cbv;have mq:∀q∈j,q.2∈cs:=λq m=>by
  have:q.2∈j.map (·.2):=Y3 m;rw[D]at this;exact(YU.mp this).1
 have ac:(j.map λq=>(q.2.c,q.2.k)).Nodup:=by
  have:((j.map (·.2)).map λx:bF=>(x.c,x.k)).Nodup:=by
   rw[D];exact nd.sublist (ab7.map _)
  rw[rl]at this;exact this
 refine⟨D2,z2,(j.map (·.2)).map λx=>[x.c,x.k],rfl,a9.of g2,by omega,⟨⟨2,λk hk=>?_⟩,?_⟩,?_,λQ ws ad od=>?_⟩
 ·obtain⟨x,_,rfl⟩:=YA.mp hk;rfl
 ·rw[rl];refine abw.mpr ((abw.mp ac).imp λam e=>am ?_);have e:[_,_]=[_,_]:=e;exact Prod.ext (tq e).1 (tq (tq e).2).1
 ·rw[L];refine XZ _ λq m=>⟨List.cons_ne_nil _ _,?_⟩;obtain⟨Z,E,e1,e2,_⟩:=ab q m;exact⟨Z,[.ref E],e1,bJ.of e2⟩
 rw[L]at od;obtain⟨r,rk,rfl⟩:=WD od (λq m=>bd _ (mq q m)) ac;have ar:r.length=j.length:=rk.1.length_eq;have lq:j.length<=60:=by
  have:=congrArg adn L;rw[Yf]at this;omega
 have B:=aC (o:=.lst (r.map (·.1))) ad;have g3:upd A2 Q (.lst (r.map (·.1))) Q=Ya (.lst (r.map (·.1))):=af;have h3:H Q=none:=C.free (J.free ad);generalize upd A2 Q (.lst (r.map (·.1)))=A3 at B g3⊢;refine⟨Q,rfl,⟨_,a9.of g3⟩,λD3 ae=>?_⟩;refine bh (K:=K) (a:=Q) (xs:=r.map (·.1)) (λi σ A=>∃v1 v2 v3 G,σ=[v1,v2,v3]/\aJ A3 A/\A D3=Ya (.lst G)/\G.length=i/\YX (M3 A) G ((r.take i).map (·.2))) ⟨Yb,Yb,Yb,[],rfl,aC ae,af,rfl,.nil⟩ ?_ ?_ ?_
 ·rintro i σ A _ ⟨_,_,_,_,_,z,_⟩;exact a9.of (z _ _ g3)
 ·rintro i y σ A N ⟨v1,v2,v3,G,rfl,g,s,ly,py⟩;rw[Yy]at N;obtain⟨q,m,rfl⟩:=aa7.mp N;have hi:=(Yh.mp m).1;obtain⟨Z,E,e1,e2,O,e3,e4⟩:=ab q (rk.1.mem_iff.mp (Yw m));cases e3;rw[e1];have st:bJ K A Z [.int q.2.c,.int q.2.k,.ref E]:=bJ.of (g _ _ (B _ _ e2));have u:de A (upd A D3 (.lst (G++[.ref E]))):=de.lst s;cbv;refine⟨G,s,aF (by omega),_,_,_,G++[.ref E],rfl,λb o e=>?_,af,by rw[Yq,ly];rfl,?_⟩
  ·rw[ak (ay e ae)];exact g b o e
  ·rw[aN m,Yr];refine fg (YX.mapP py λv y' I=>?_) (.cons ⟨E,rfl,u _ _ (g _ _ (B _ _ e4))⟩ .nil);obtain⟨O,e',h'⟩:=I;exact⟨O,e',u _ _ h'⟩
 rintro σ A ⟨v1,v2,v3,G,rfl,g,s,ly,py⟩;rw[Yf,YI]at py;rw[Yf]at ly;have M:=J.trans (B.trans g);refine DU (M _ _ g1) s (by omega) λD4 A4 an s4 g4=>?_;have ag:=C.trans M;refine kk A4 D4 _ (r.map (·.2)) (ag.trans s4) (ag.free an) g4 ?_ (fg (YX.mapP U λv y' I=>?_) (YX.mapP py λv y' I=>I.same s4))
 ·have:=rk.map;rw[D]at this;exact this
 ·exact I.same (M.trans s4)
theorem SO(wd:Wd K mg H hs nu gr W [])(hl:GB.hl gr=hs)(v:∀(i:Nat) (w:PW),W[i]?=Ya w->∃ro,w.2.1=Pg.new w.2.1.me nu gr ro):OI nu W []:=by
 have lst:∀{i:Nat} {w:PW},W[i]?=Ya w->(jj w.2.1.ha=.int w.2.1.me↔i=0):=fun{i w} h=>by
  obtain⟨b,_,m⟩:=wd.st i w h;rw[m];unfold jj;rw[hl];cases o:hs with
  |nil=>rw[o]at b;cases b
  |cons a l=>
   have h0:hs[0]?=Ya a:=by rw[o];rfl
   constructor
   ·intro z;cases z;exact Ha wd.ho b h0
   ·intro z;subst z;rw[h0]at b;cases b;rfl
 have j:∀{i:Nat} {w:PW},W[i]?=Ya w->w.2.1.od=[]/\w.2.1.tk=[]/\w.2.1.kp=[]/\w.2.1.dn=[]/\w.2.1.ta=hs.map λh=>(h,[]):=fun{i w} h=>by
  obtain⟨ro,e⟩:=v i w h;rw[e];exact⟨rfl,rfl,rfl,rfl,by show(GB.hl gr).map _=_;rw[hl]⟩
 refine⟨⟨.nil,(λc f=>nomatch f),λc f=>nomatch f⟩,λi w h=>?_,λi w g h h0=>?_,λg h0=>?_,λi w h n z=>n ((lst h).mp z),λi w g h h0 n z=>?_,λi w g d h h0 t=>?_⟩
 ·obtain⟨b,s,m,u,k⟩:=j h;rw[b,s,u];refine⟨⟨aaT _,(λc f=>nomatch f),(λc f=>nomatch f),.nil,(λc f=>nomatch f),λh o=>?_⟩,λn hn=>nomatch hn⟩;have:ct [] h=0:=rfl;omega
 ·rw[(j h).1];exact List.nil_prefix
 ·obtain⟨b,s,m,u,k⟩:=j h0;refine⟨?_,(lst h0).mpr rfl,[],?_⟩
  ·rw[b];exact λM _ _ p hp=>nomatch hp
  ·rw[k];have:=tbl_key (tb:=hs.map λh=>(h,([]:List (Int×Int)))) (q:=(g.2.1.me,[])) (by rw[rl];rw[show((λq:Int×List (Int×Int)=>q.1)∘λh=>(h,[]))=id from rfl,adp];exact wd.ho.up.imp λh=>ae9 h) (YA.mpr ⟨_,Yw (wd.st 0 g h0).1,rfl⟩);exact this
 ·have b:=(wd.st i w h).1;rw[←z]at b;exact n (Ha wd.ho b (wd.st 0 g h0).1)
 ·obtain⟨_,_,_,_,k⟩:=j h;rw[k]at t;obtain⟨q,y,r⟩:=YA.mp (tbl_mem t);obtain⟨x,_,rfl⟩:=YA.mp y;have r:([]:List (Int×Int))=d:=r;rw[←r,(j h0).2.2.2.1];exact .refl _
structure QV(H:Hp)(au:Ye)(ul:List Ye)(tl:List (List (V×bF))):Prop where
 hu:H au=Ya (.lst (ul.map V.ref))
 us:∀(i:Nat) (u:Ye) (t:List (V×bF)),ul[i]?=Ya u->tl[i]?=Ya t->∃us,H u=Ya (.lst us)/\YX (js H) us (t.map (·.2))
theorem QV.up{c:Ye}{d:List Ye}(T:QV H c d tl)(k:∀b∈c::d,∀o,H b=Ya o->H' b=Ya o)(u:de H H'):QV H' c d tl:=
 ⟨k _ Yu _ T.hu,λi a t e f=>by
  obtain⟨us,h1,h2⟩:=T.us i a t e f;exact⟨us,k _ (Yo _ (Yw e)) _ h1,YX.mapP h2 λ_ _ z=>z.up u⟩⟩
section
theorem BR{α:Type}{l:List α}{x y m:α}(hm:l[i]?=Ya m)(e:(l.set i x)[j]?=Ya y):(j=i/\y=x)∨(j≠i/\l[j]?=Ya y):=by
 rw[xw]at e;by_cases z:i=j
 ·rw[if_pos z,if_pos (Yh.mp hm).1]at e;exact .inl ⟨z.symm,(YF e).symm⟩
 ·rw[if_neg z]at e;exact .inr ⟨λy=>z y.symm,e⟩
theorem Ps.seen(D:Ps K mg H hs nu gr W es ah ap as am sl ml tl ((i,rw)::res)){u:Ye}{t:List (V×bF)}{us:List V}(ha:sl[i]?=Ya a)(hm:ml[i]?=Ya m)(E:tl[i]?=Ya t)(I:H u=Ya (.lst us))(r:u∉mU W)(s:u∉ah::ap::as::am::sl)(k:∀b o,H b=Ya o->b≠a->b≠u->H' b=Ya o)(g:H' a=Ya (.dK (dI (rM m rw))))(td:Td (rM m rw)):Ps K mg H' hs nu gr W es ah ap as am sl (ml.set i (rM m rw)) (tl.set i (t++rw)) res:=by
 have ga:=(D.sd i a m ha hm).1;have o:Off [a,u] H H':=λb x e F=>k b x e (λz=>F (by simp[z])) λz=>F (by simp[z]);have G:nQ H H':=iF o λb l=>by
  rcases Ym.mp l with z|z
  ·rw[z];exact⟨_,ga,trivial⟩
  ·rw[Yi.mp z];exact⟨_,I,trivial⟩
 have c:∀{b},b∈ah::ap::as::am::sl->b≠u:=λl z=>s (z▸l);have nd:=D.nd;rw[YG,vc]at nd;refine⟨D.wd.off o G λj w h b l z=>?_,k _ _ D.ha (bM D.ha ga (by intro z;cases z)) (c (by simp)),k _ _ D.hp (bM D.hp ga (by intro z;cases z)) (c (by simp)),k _ _ D.hs' (bM D.hs' ga (by intro z;cases z)) (c (by simp)),D.ls,by rw[afo];exact D.lm,λj b q e f=>?_,D.sn,⟨k _ _ D.md.dt (bM D.md.dt ga (by intro z;cases z)) (c (by simp)),λe d=>(D.md.tl e d).up G.smh,D.md.nd⟩,D.kp,D.out,D.n2,D.n4,nd.2,λe d=>?_,λj w q e f n=>?_,by rw[afo];exact D.lt,λe d w v J f=>?_,λj w v e f n=>?_,D.oi⟩
 ·rcases Ym.mp z with z|z
  ·exact D.out j w h b l (by rw[z];simp[Yw ha])
  ·exact r (by rw[←Yi.mp z];exact sv h l)
 ·rcases BR hm f with⟨rfl,rfl⟩|⟨n,f⟩
  ·rw[ha]at e;cases e;exact⟨g,td⟩
  ·obtain⟨L,M⟩:=D.sd j b q e f;refine⟨k _ _ L (λz=>n ?_) (c (by simp[Yw e])),M⟩;rw[z]at e;exact(agZ (Yh.mp e).1 D.sn).mp (e.trans ha.symm)
 ·obtain⟨w,q,A,p,B⟩:=D.rs e (Yo _ d);refine⟨w,q,A,?_,B⟩;rw[xw,if_neg (λy:i=e.1=>nd.1 (by show i∈_;rw[y];exact Y3 d))];exact p
 ·rcases BR hm f with⟨rfl,rfl⟩|⟨C,f⟩
  ·obtain⟨O,N,A,p,B,_⟩:=D.rs (j,rw) Yu;rw[A]at e;cases e;have p:ml[j]?=Ya N:=p;rw[hm]at p;cases p;exact B
  ·refine D.ot j w q e f ?_;rw[YG,Ym,not_or];exact⟨C,n⟩
 ·rw[xw,if_neg (λy:i=e.1=>nd.1 (by show i∈_;rw[y];exact Y3 d))]at f;exact D.rt e (Yo _ d) w v J f
 ·rcases BR E f with⟨rfl,rfl⟩|⟨C,f⟩
  ·exact D.rt (j,rw) Yu w t e E
  ·refine D.tt j w v e f ?_;rw[YG,Ym,not_or];exact⟨C,n⟩
theorem OI.tkl(O:OI nu W mk){w:PW}(h:W[i]?=Ya w):w.2.1.tk.length<=mk.length:=by
 have P:=(O.po i w h).1;have:=Bg (m:=mk.map λx:bF=>(x.c,x.k)) P.tn λa ha=>by
  obtain⟨q,b,rfl⟩:=YA.mp ha;exact YA.mpr ⟨q.2,P.tm q b,rfl⟩
 rw[Yf,Yf]at this;exact this
end
theorem Vr{ta:TA}{R:It->Hp->Prop}(h:ta σ H λvs a=>∃i j:Int,vs=[.int i,.int j]/\(-(2^62)<=i/\i<2^62/\-(2^62)<=j/\j<2^62)/\R (KU i (j-i).toNat) a):RY ta σ H R:=h
theorem PJ{α:Type}{l:List α}{x:α}(h:l[i]?=Ya x):l.drop i=x::l.drop (i+ 1):=by
 obtain⟨a,e⟩:=Yh.mp h;rw[aeJ a,e]
noncomputable abbrev Bf:Y4:=fm 55
noncomputable def JI(x:bF):abo:=.tuple [.int x.n,.int x.c,.int x.k,.str x.kd,.int x.w]
theorem K3{K:Yc}(h:YX (M3 H) xs cs):CY K H xs (cs.map JI):=by
 induction h with
 |nil=>exact .nil
 |cons w _ ih=>
  obtain⟨a,rfl,e⟩:=w;exact .cons (.tup (bJ.of e) (.cons (.int _) (.cons (.int _) (.cons (.int _) (.cons (.str _) (.cons (.int _) .nil)))))) ih
theorem Lc:∀{cs:List bF},(∀x∈cs,Wf x)->aae (cs.map JI)=true
 |[],_=>rfl
 |x::cs,h=>by
  have e:aiC x.kd=true:=by
   rcases(h x Yu).kd with h|h|h<;>rw[h]<;>decide +kernel
  have a:(JI x).canLay0=true:=by simp[JI,aed,aae,e]
  rw[YG,aa8,a,Lc λx b=>h x (Yo _ b)];rfl
theorem Oz:∀cs:List bF,abp (cs.map JI)<=1
 |[]=>by rw[acw,PyData.depthAll.eq_1];omega
 |x::cs=>by
  have e:abp ((x::cs).map JI)=max (JI x).depth (abp (cs.map JI)):=rfl;rw[e];have:=Oz cs;have:(JI x).depth=1:=rfl;omega
theorem QM(cs:List bF):(acP (cs.map JI)).depth<=60:=by
 have e:(acP (cs.map JI)).depth=abp (cs.map JI)+ 1:=rfl;have:=Oz cs;rw[e];omega
theorem QN(o:x.kd="one"):AF [(v,x)]=[vL x]:=by
 unfold AF;rw[aa0]
 ·rfl
 ·exact decide_eq_true o
theorem U1(o:¬ x.kd="one"):AF [(v,x)]=[]:=by
 unfold AF;rw[aa1]
 ·rfl
 ·simpa using o
def BE(K:Yc):Sp:=λb H Q _=>∃(a:Ye) (ns:List Int),b=[.ref a]/\a9 K H a (ns.map V.int)/\ns.length<=63/\∀c,Q (.bl true) c
theorem eP:aG ["_law_script","_law_hands_here","_law_number","_law_pages_here","_law_seen","_law_taken","_law_made","_law_pool","_law_k","_law_at","_law_found","_law_told","_law_why","_law_order","_law_ones","_law_mine"] xn (av Bf):=fq
variable{uJ:Ye}{wR:Ye}{rG:Ye}{wJ:Ye}{wW:Ye}{rQ:YE}{uj:YE}{pX:YE}{uP:YE}{uH:YE}(tS:∅ 11 uJ rQ xn (rB K mg))(tJ:eM K mg "_law_pages" uJ rQ xn)(w6:∅ 11 wR uj DK (uz K mg))(wz:eM K mg "_law_deed" wR uj DK)(lB:∅ 11 rG pX aV (pH K mg))(lg:Binds K pX aV [])(wm:∅ 11 wJ uP aV (tL K mg))(w8:Binds K uP aV [])(wG:∅ 11 wW uH Ei (t9 K))(wO:eM K mg "_law_rows" wW uH Ei)(fb:bE K bX "places" rG)(jm:bE K bX "rows" wJ)
include eV tS tJ w6 wz lB lg wm w8 wG wO gj fc gR wA ji aY aW fb jm in
theorem UE(F:bN K "law" "law" Bf f fd):∅ 12 f fd xn (BE K):=by
 refine F.oj eP ?_;rintro _ A _ _ H vs _ _ hr ad _ hu ⟨a,ns,rfl,h⟩;refine⟨_,(aj (Se (bg tS tJ hr (aa (pv 0) ai)) (kM (K:=K) (n:=3) rfl rfl (cH (aQ (i:=1) eP.nd rfl (Or.inl rfl)) (cH (aQ (i:=2) eP.nd rfl (Or.inl rfl)) (cH (aQ (i:=3) eP.nd rfl (Or.inl rfl)) kT)))))
   (aj (ka (i:=4) ["_law_hand"] [Yb] eP.nd rfl (Or.inl rfl) rfl rfl (by kernel_rfl) (bo (K:=K) rfl (pv 1)) (λ_ _ _ _ _ nd=>aQ (i:=0) nd rfl (Or.inl rfl)) (λ_ _ _ _ _=>dD) (λ_ _ _ _ _=>qP))
   (aj (ka (i:=5) ["_law_hand"] [Yb] eP.nd rfl (Or.inl rfl) rfl rfl (by kernel_rfl) (bo (K:=K) rfl (pv 1)) (λ_ _ _ _ _ nd=>aQ (i:=0) nd rfl (Or.inl rfl)) (λ_ _ _ _ _=>dD) (λ_ _ _ _ _=>(d5 ai)))
   (aj (bc (i:=6) eP.nd rfl (Or.inr rfl) E6)
   (aj (bc (i:=7) eP.nd rfl (Or.inl rfl) (d5 ai))
   (aj (lU aam rfl (J2 rfl ji (aa az (aa (bH (JM rfl) (by rfl) wA acB (aa (bH (c8 (K:=K) rfl) (by rfl) fc aal (aa (pv 0) ai)) (aa az ai))) ai))) (aQ (i:=8) eP.nd rfl (Or.inl rfl))
   (ax (lU aam rfl (bo (K:=K) rfl (bg w6 wz hr (aa (pv 1) (aa (pv 2) (aa (pv 3) (aa (pv 4) (aa (pv 6) (aa (pv 7) (aa (bB (bO (K:=K) rfl) (pv 0) (pv 8) (λ_ _=>rfl)) (aa (pv 8) ai)))))))))) (kM (K:=K) (n:=2) rfl rfl (cH (aQ (i:=9) eP.nd rfl (Or.inl rfl)) (cH (aQ (i:=10) eP.nd rfl (Or.inl rfl)) kT)))
   (ax (lU aam rfl (bo (K:=K) rfl (pv 10)) (kM (K:=K) (n:=2) rfl rfl (cH (aQ (i:=11) eP.nd rfl (Or.inl rfl)) (cH (aQ (i:=12) eP.nd rfl (Or.inl rfl)) kT)))
   (aj (q5 hu (bB (bO (K:=K) rfl) (pv 4) (pv 9) (λ_ _=>rfl)) (bB (bG (K:=K) rfl) (pv 11) az (λ_ _=>rfl)) (bB (bG (K:=K) rfl) (pv 11) az (λ_ _=>rfl)) rfl)
   (ax (dC (ny (K:=K) rfl (D9 abC ab1 ab3 mL (bB (bO (K:=K) rfl) (pv 5) (pv 9) (λ_ _=>rfl)) (aa (pv 11) ai)))))))))))
   (aj (bc (i:=13) eP.nd rfl (Or.inl rfl) (bp (bT.cons aY.cl fb lB lg bT.nil) (bB (bO (K:=K) rfl) (pv 3) az (λ_ _=>rfl)) hr))
   (aj (eF (PW.pt (RS (vF (dS K rfl (bH (vm (K:=K) rfl) (by rfl) gj acC (aa (pv 13) (aa (BW gR aaO) ai))))) (LR (br (zS (K:=K) rfl ad) (bS ["_law_made","_law_name"] [Ya 6,Yb] rfl rfl (by kernel_rfl) (bo (K:=K) rfl (pv 13)) (λ_ _ _ _ _ nd=>aQ (i:=1) nd rfl (Or.inl rfl)) (λ_ _ _ _ _=>(dA (br EW (bB (bG (K:=K) rfl) (uV hu (pv 0) (pv 1) (λ_ _=>rfl)) az (λ_ _=>rfl)) fS (bC _)))) (λ_ _ _ _ _=>(pv 1))) (d5 ai) (bC _))))) (ax (aP wM)) cg)
   (aj (lU aam rfl (qX rfl ji (aa (bH (c8 (K:=K) rfl) (by rfl) fc aal (aa (pv 1) ai)) ai)) (aQ (i:=9) eP.nd rfl (Or.inl rfl))
   (aj (ka (i:=14) ["_law_told"] [Yb] eP.nd rfl (Or.inl rfl) rfl rfl (by kernel_rfl) (bo (K:=K) rfl (bB (bO (K:=K) rfl) (pv 5) (pv 9) (λ_ _=>rfl))) (λ_ _ _ _ _ nd=>aQ (i:=0) nd rfl (Or.inl rfl)) (λ_ _ _ _ _=>(dA (br oP (bB (bG (K:=K) rfl) (pv 0) az (λ_ _=>rfl)) fS (bC _)))) (λ_ _ _ _ _=>(fN (yi (K:=K) rfl) (pv 0) iD (iO az))))
   (aj (bc (i:=15) eP.nd rfl (Or.inl rfl) (bp (bT.cons aY.cl fb lB lg bT.nil) (bB (bO (K:=K) rfl) (pv 3) (pv 9) (λ_ _=>rfl)) hr))
   (aj (eF (PW.pt (RS (br (zS (K:=K) rfl ad) (pv 14) (fN (mf (K:=K) rfl) (pv 13) iD (iO (bH (c8 (K:=K) rfl) (by rfl) fc aal (aa (pv 14) ai)))) (bC _)) (LR (br (zS (K:=K) rfl ad) (pv 15) (fN (mf (K:=K) rfl) (pv 13) iD (iO (bH (c8 (K:=K) rfl) (by rfl) fc aal (aa (pv 15) ai)))) (bC _))))) (ax (aP wM)) cg)
   (ax (eF (br (zS (K:=K) rfl ad) (bp (bT.cons aY.cl jm wm w8 bT.nil) (bB (bO (K:=K) rfl) (pv 3) (pv 9) (λ_ _=>rfl)) hr) (bg wG wO hr (aa (bB (bO (K:=K) rfl) (pv 5) (pv 9) (λ_ _=>rfl)) ai)) (bC _)) (ax (aP wM)) cg))))))
   (ax (aP wM))))))))))),?_⟩
 obtain⟨hS,eA,kk⟩:=h;cbv;refine⟨a,rfl,ns,hS,λH1 t R ap hs nu gr W s1 gt bm ca wd n2 n4 di aB eB eE=>?_⟩;have cc:bJ K H1 t [.ref R,.int nu,.ref ap]:=bJ.of gt;have eG:=s1.seq hS;cbv;intro Q has;refine bh (K:=K) (a:=R) (xs:=hs.map V.int) (λi σ B=>∃v I,σ=[v]/\aJ H1 B/\B Q=Ya (.lst ((I:List Ye).map V.ref))/\I.length=i/\I.Nodup/\∀d∈I,B d=Ya (.dK (dI []))/\H1 d=Yb/\d≠Q) ⟨Yb,[],rfl,aC has,af,rfl,.nil,λd hd=>nomatch hd⟩ ?_ ?_ ?_
 ·rintro i σ B _ ⟨_,_,_,z,_⟩;exact a9.of (z _ _ bm)
 ·rintro i y σ B Z ⟨v,I,rfl,M,gD,ae,aD,J⟩;have S:=(Yh.mp Z).1;rw[Yf]at S;cbv;intro d B1 hd G gd;have bn:=G _ _ gD;have aE:d≠Q:=λz=>by rw[z,gD]at hd;cases hd
  refine⟨_,bn,aF (by rw[Yf];omega),_,I++[d],rfl,λb o e=>?_,by rw[af,Yr];rfl,by rw[Yq,ae];rfl,?_,λd' bt=>?_⟩
  ·rw[ak (ay e has)];exact G _ _ (M b o e)
  ·rw[jJ];refine⟨aD,by simp,λx hx y Z z=>?_⟩;rw[Yi.mp Z]at z;have:=(J x hx).1;rw[z,hd]at this;cases this
  ·rcases YD.mp bt with z|z
   ·obtain⟨q1,q2,q3⟩:=J d' z;exact⟨by rw[ak q3];exact G _ _ q1,q2,q3⟩
   ·rw[Yi.mp z];exact⟨by rw[ak aE];exact gd,M.free hd,aE⟩
 rintro σ H2 ⟨v,I,rfl,L,cd,ae,aD,J⟩;rw[Yf]at ae;have bb:=L _ _ bm;cbv;intro p bu;refine bh (K:=K) (a:=R) (xs:=hs.map V.int) (λi σ B=>∃v g,σ=[v]/\aJ H2 B/\B p=Ya (.lst ((g:List Ye).map V.ref))/\g.length=i/\g.Nodup/\∀d∈g,B d=Ya (.lst [])/\H2 d=Yb/\d≠p) ⟨Yb,[],rfl,aC bu,af,rfl,.nil,λd hd=>nomatch hd⟩ ?_ ?_ ?_
 ·rintro i σ B _ ⟨_,_,_,z,_⟩;exact a9.of (z _ _ bb)
 ·rintro i y σ B Z ⟨v,g,rfl,M,gD,ae,aD,J⟩;have S:=(Yh.mp Z).1;rw[Yf]at S;cbv;intro d B1 hd G gd;have bn:=G _ _ gD;have aE:d≠p:=λz=>by rw[z,gD]at hd;cases hd
  refine⟨_,bn,aF (by rw[Yf];omega),_,g++[d],rfl,λb o e=>?_,by rw[af,Yr];rfl,by rw[Yq,ae];rfl,?_,λd' bt=>?_⟩
  ·rw[ak (ay e bu)];exact G _ _ (M b o e)
  ·rw[jJ];refine⟨aD,by simp,λx hx y Z z=>?_⟩;rw[Yi.mp Z]at z;have:=(J x hx).1;rw[z,hd]at this;cases this
  ·rcases YD.mp bt with z|z
   ·obtain⟨q1,q2,q3⟩:=J d' z;exact⟨by rw[ak q3];exact G _ _ q1,q2,q3⟩
   ·rw[Yi.mp z];exact⟨by rw[ak aE];exact gd,M.free hd,aE⟩
 rintro σ aI ⟨v',g,rfl,ag,ce,al,dj,a1⟩;rw[Yf]at al;cbv;intro am aK;have s3:aJ aI (upd aI am (.dT [])):=aC aK;have bv:(upd aI am (.dT [])) am=Ya (.dT []):=af;generalize upd aI am (.dT [])=H3 at s3 bv⊢;cbv;intro N H4 a2 s4 dk;have aM:=s3.trans s4;have bw:=ag.trans aM;have ab:=L.trans bw;have cf:=s1.trans ab;have ch:∀{i:Nat} {w:PW},W[i]?=Ya w->∀b∈ti w,∃o,H1 b=Ya o:=fun{i w} h b s=>by
  obtain⟨o,e,_⟩:=wd.tr h s;exact⟨o,e⟩
 have D:Ps K mg H4 hs nu gr W [] R ap Q am I (ad5 hs.length []) (ad5 hs.length []) []:=by
  refine⟨wd.same ab,ab _ _ bm,ab _ _ ca,bw _ _ cd,ae,by rw[adC],λi d m e f=>?_,aD,⟨s4 _ _ bv,(λe he=>nomatch he),.nil⟩,(λe he=>nomatch he),λi w h b s=>?_,n2,n4,.nil,(λe he=>nomatch he),λi w m h f _=>?_,by rw[adC],(λe he=>nomatch he),λi w m h f _=>?_,SO wd di λi w h=>(aB i w h).1⟩
  ·have hm:m=[]:=(adb.mp (Yw f)).2;rw[hm];exact⟨bw _ _ (J d (Yw e)).1,Td.nil⟩
  ·obtain⟨o,e⟩:=ch h b s;obtain⟨e1,e2⟩:=(aB i w h).2 b s;intro z;rcases Ym.mp z with z|z
   ·exact e2.1 z
   rcases Ym.mp z with z|z
   ·exact e2.2 z
   rcases Ym.mp z with z|z
   ·rw[z,has]at e;cases e
   rcases Ym.mp z with z|z
   ·rw[z]at e;rw[ag _ _ (L _ _ e)]at aK;cases aK
   ·rw[(J b z).2.1]at e;cases e
  ·have hm:m=[]:=(adb.mp (Yw f)).2;obtain⟨ro,e⟩:=(aB i w h).1;rw[hm,e];rfl
  ·have hm:m=[]:=(adb.mp (Yw f)).2;obtain⟨ro,e⟩:=(aB i w h).1;rw[hm,e];rfl
 have T:QV H4 p g (ad5 hs.length []):=⟨aM _ _ ce,λi u t e f=>by
  have ht:t=[]:=(adb.mp (Yw f)).2;rw[ht];exact⟨[],aM _ _ (a1 u (Yw e)).1,.nil⟩⟩
 have dl:∀b∈mU W,H b=none:=λb s=>by
  obtain⟨w,hw,hc⟩:=jo.mp s;obtain⟨i,S⟩:=YJ hw;exact((aB i w S).2 b hc).1
 have ci:∀b∈mU W,∃o,H1 b=Ya o:=λb s=>by
  obtain⟨w,hw,hc⟩:=jo.mp s;obtain⟨i,S⟩:=YJ hw;exact ch S b hc
 have ltr:∀b∈R::ap::Q::I,∃o,H2 b=Ya o:=λb z=>by
  rcases Ym.mp z with z|z
  ·exact⟨_,by rw[z];exact bb⟩
  rcases Ym.mp z with z|z
  ·exact⟨_,by rw[z];exact L _ _ ca⟩
  rcases Ym.mp z with z|z
  ·exact⟨_,by rw[z];exact cd⟩
  ·exact⟨_,(J b z).1⟩
 have aR:∀b∈p::g,H2 b=Yb/\∃o,aI b=Ya o:=λb z=>by
  rcases Ym.mp z with z|z
  ·rw[z];exact⟨bu,_,ce⟩
  ·exact⟨(a1 b z).2.1,_,(a1 b z).1⟩
 have cj:∀b∈p::g,b≠am:=λb s z=>by
  obtain⟨_,o,e⟩:=aR b s;rw[z,aK]at e;cases e
 have ck:∀b∈p::g,b≠N:=λb s z=>by
  obtain⟨_,o,e⟩:=aR b s;have:=s3 _ _ e;rw[z,a2]at this;cases this
 have uo:∀b∈p::g,b∉R::ap::Q::am::I:=λb s z=>by
  have e:=(aR b s).1;have y:b=am∨b∈R::ap::Q::I:=by
   simp only[Ym]at z⊢;rcases z with z|z|z|z|z<;>simp[z]
  rcases y with y|y
  ·exact cj b s y
  ·obtain⟨o,q⟩:=ltr b y;rw[e]at q;cases q
 have uf:∀b∈p::g,b∉mU W:=λb s z=>by
  obtain⟨o,q⟩:=ci b z;have:=L _ _ q;rw[(aR b s).1]at this;cases this
 have cl:p∉g:=λz=>(a1 p z).2.2 rfl;have bz:∀{b:Ye} {o:HO},H3 b=Ya o->N≠b:=fun{b o} e z=>by rw[z,e]at a2;cases a2
 have nq:N∉mU W:=λz=>by
  obtain⟨o,e⟩:=ci N z;exact bz (s3 _ _ (ag _ _ (L _ _ e))) rfl
 have dm:N∉R::ap::Q::am::I:=λz=>by
  have y:N=am∨N∈R::ap::Q::I:=by
   simp only[Ym]at z⊢;rcases z with z|z|z|z|z<;>simp[z]
  rcases y with y|y
  ·exact bz bv y
  ·obtain⟨o,q⟩:=ltr N y;exact bz (s3 _ _ (ag _ _ q)) rfl
 have dn:H am=none:=s1.free (L.free (ag.free aK));have dq:H N=none:=s1.free (L.free (ag.free (s3.free a2)));have dr:∀d∈I,H d=none:=λd hd=>s1.free (J d hd).2.1;have u0:∀d∈p::g,H d=none:=λd hd=>s1.free (L.free (aR d hd).1);have eH:=cf.seq hS;have el:((ns.map V.int).length:Int)<=63:=by rw[Yf];omega
 cbv;refine Vr ?_;cbv;refine⟨_,_,rfl,?_⟩;cbv;refine⟨_,_,rfl,⟨by decide,by decide,by split<;>omega,by split<;>omega⟩,?_⟩;let cm:Nat->St->Hp->Prop:=λi σ A=>∃v8 v9 aS aT aU W es ml tl pl,σ=[Ya (.ref a),Ya (.ref R),Ya (.int nu),Ya (.ref ap),Ya (.ref Q),Ya (.ref p),Ya (.ref am),Ya (.ref N),v8,v9,aS,aT,aU,Yb,Yb,Yb]/\Ps K mg A hs nu gr W es R ap Q am I ml tl []/\es.length<=i/\pl.length<=i/\A N=Ya (.lst pl)/\tF W (es.map (·.1)) A pl/\aJ H A/\(∀b∈mU W,H b=Yb)/\N∉mU W/\QV A p g tl/\∀b∈p::g,b∉mU W;refine AR cm ⟨Yb,Yb,Yb,Yb,Yb,W,[],_,_,[],rfl,D,Yl _,Yl _,dk,(λv hv=>nomatch hv),cf,dl,nq,T,uf⟩ ?_ ?_
 ·rintro i σ A S ⟨v8,v9,aS,aT,aU,W',es,ml,tl,pl,rfl,E,bA,ds,gq,po,sA,bI,bK,TA,bL⟩;have cn:i<28/\3+ i<ns.length:=by
   rw[Yf]at S;split at S<;>omega
  have eI:=sA.seq hS;have ei:(3:Int)+ (i:Int)=((3+ i:Nat):Int):=by omega
  have eL:uZ (ns.map V.int) (3+ (i:Int))=Ya (.int ns[3+ i]):=by rw[ei];exact cG (by rw[Yy,Yk cn.2];rfl)
  cbv;refine⟨R,nu,ap,Q,am,N,_,_,rfl,hs,gr,W',es,I,ml,tl,pl,E,by omega,by omega,by omega,gq,po,bK,dm,by omega,λH' r vs W2 Zm co dt D' o' bP eN cp eO du hr bQ pr=>?_⟩;have sH:aJ H H':=λb o e=>o' b o (sA _ _ e) λz=>by
   rcases Ym.mp z with z|z
   ·rw[z,dn]at e;cases e
   rcases Ym.mp z with z|z
   ·rw[z,dq]at e;cases e
   ·rw[bI b z]at e;cases e
  have dv:de A H':=IL o' λb s=>by
   rcases Ym.mp s with z|z
   ·rw[z];exact⟨_,E.md.dt,λxs z=>by cases z⟩
   rcases Ym.mp z with z|z
   ·rw[z];exact⟨_,gq,λxs z=>by cases z⟩
   ·exact E.ftu z
  have T':QV H' p g tl:=TA.up (λb s o e=>o' b o e λz=>by
   rcases Ym.mp z with z|z
   ·exact cj b s z
   rcases Ym.mp z with z|z
   ·exact ck b s z
   ·exact bL b s z) dv
  have cq:∀b∈p::g,b∉mU W2:=λb s z=>by
   rcases bP b z with y|y
   ·exact bL b s y
   ·have:∃o,A b=Ya o:=by
     rcases Ym.mp s with q|q
     ·rw[q];exact⟨_,TA.hu⟩
     ·obtain⟨j,hj⟩:=YJ q;have lj:=(Yh.mp hj).1;obtain⟨us,e,_⟩:=TA.us j b _ hj (Yk (by rw[E.lt,←al];exact lj));exact⟨_,e⟩
    obtain⟨o,e⟩:=this;rw[y]at e;cases e
  have bU:∀{b:Ye} {o:HO},H' b=Ya o->(∀k,o≠.dK k)->b∉I:=fun{b o} e n z=>by
   obtain⟨j,hj⟩:=YJ z;have lj:=(Yh.mp hj).1;obtain⟨m,hm⟩:∃m,ml[j]?=Ya m:=⟨_,Yk (by rw[D'.lm,←D'.ls];exact lj)⟩;rw[(D'.sd j b m hj hm).1]at e;exact n _ (YF e).symm
  have ru:r∉g:=λz=>by
   obtain⟨j,hj⟩:=YJ z;have lj:=(Yh.mp hj).1;obtain⟨us,e,_⟩:=TA.us j r _ hj (Yk (by rw[E.lt,←al];exact lj));rw[hr]at e;cases e
  have dx:vs.length=co.length:=Y2 pr;have eR:a9 K H' r vs:=a9.of bQ;have dy:∀{b:Ye},b∈g->∃o,A b=Ya o:=fun{b} z=>by
   obtain⟨j,hj⟩:=YJ z;have lj:=(Yh.mp hj).1;obtain⟨us,e,_⟩:=TA.us j b _ hj (Yk (by rw[E.lt,←al];exact lj));exact⟨_,e⟩
  cbv;let cr:Nat->St->Hp->Prop:=λj σ B=>∃w9 bX a3 a4 aX ac,σ=[Ya (.ref a),Ya (.ref R),Ya (.int nu),Ya (.ref ap),Ya (.ref Q),Ya (.ref p),Ya (.ref am),Ya (.ref N),Ya (.int (3+ (i:Int))),w9,bX,a3,a4,Yb,Yb,Yb]/\Ps K mg B hs nu gr W2 Zm R ap Q am I aX ac (co.drop j)/\(∀b o,H' b=Ya o->b∉I->b∉g->B b=Ya o)/\QV B p g ac/\de H' B;refine mG (xs:=vs) cr ⟨v9,aS,aT,aU,ml,tl,rfl,D',λb o e _ _=>e,T',λb xs e=>e⟩ (λj σ B _ z=>?_) ?_ ?_
  ·obtain⟨_,_,_,_,_,_,_,_,kB,_⟩:=z;exact a9.of (kB _ _ bQ (bU bQ (by intro _ z;cases z)) ru)
  ·rintro j y σ B Z ⟨w9,bX,a3,a4,aX,ac,rfl,O,kB,TB,an⟩;obtain⟨e,he,ua,fl,ys,rfl,ga,cs,tv,dB⟩:=cR pr Z;rw[PJ he]at O;obtain⟨w,m,ew,em,eS,eT,bd⟩:=O.rs e Yu;have bY:e.1<hs.length:=by rw[←O.wd.len];exact(Yh.mp ew).1
   obtain⟨d,hd⟩:∃d,I[e.1]?=Ya d:=⟨_,Yk (by rw[O.ls];exact bY)⟩;obtain⟨u,hu⟩:∃d,g[e.1]?=Ya d:=⟨_,Yk (by rw[al];exact bY)⟩;obtain⟨t,ht⟩:∃d,ac[e.1]?=Ya d:=⟨_,Yk (by rw[O.lt];exact bY)⟩;obtain⟨gs,tm⟩:=O.sd e.1 d m hd em;obtain⟨us,gu,ao⟩:=TB.us e.1 u t hu ht;have ar:=Yw hu;have dF:=Yw hd;have U:w.2.1.tk=t++e.2:=O.rt e Yu w t ew ht;have dH:ys.length=e.2.length:=Y2 tv;have cu:us.length=t.length:=by rw[Y2 ao,Yf]
   have b0:t.length+ e.2.length<=29:=by
    have:=O.oi.tkl ew;rw[U,Yq,Yf]at this;omega
   have eU:bJ K B ua [.int e.1,.ref fl]:=bJ.of (an _ _ ga);have be:fl∉g:=λz=>by
    obtain⟨o,q⟩:=dy z;rw[dB]at q;cases q
   have aZ:=kB _ _ cs (bU cs (by intro _ z;cases z)) be;have eV:a9 K B fl ys:=a9.of aZ;have dJ:fl≠u:=λz=>be (z▸ar);have dK:Q≠u:=λz=>uo u (Yo _ ar) (by simp[z]);have cv:p≠u:=λz=>cl (z▸ar);have cx:u≠d:=bM gu gs (by intro z;cases z);have eo:uZ (I.map V.ref) (e.1:Int)=Ya (.ref d):=cG (by rw[Yy,hd];rfl);have cy:uZ (g.map V.ref) (e.1:Int)=Ya (.ref u):=cG (by rw[Yy,hu];rfl);cbv;let cz:Nat->St->Hp->Prop:=λn σ C=>∃b3 b4 X,σ=[Ya (.ref a),Ya (.ref R),Ya (.int nu),Ya (.ref ap),Ya (.ref Q),Ya (.ref p),Ya (.ref am),Ya (.ref N),Ya (.int (3+ (i:Int))),Ya (.int e.1),Ya (.ref fl),b3,b4,Yb,Yb,Yb]/\(∀b o,B b=Ya o->b≠d->b≠u->C b=Ya o)/\C d=Ya (.dK (dI (rM m (e.2.take n))))/\Td (rM m (e.2.take n))/\C u=Ya (.lst (us++X))/\X.length=n/\YX (js C) X ((e.2.take n).map (·.2));refine mG (xs:=ys) cz ⟨a3,a4,[],rfl,λb o e _ _=>e,gs,tm,by rw[Y1];exact gu,rfl,.nil⟩ (λn σ C _ z=>?_) ?_ ?_
   ·obtain⟨_,_,_,_,kC,_⟩:=z;exact a9.of (kC _ _ aZ (bM aZ gs (by intro z;cases z)) dJ)
   ·rintro n y σ C Z ⟨b3,b4,X,rfl,kC,gd,td,a5,cA,a6⟩;have aw:de B C:=λb xs q=>kC b _ q (bM q gs (by intro z;cases z)) (bM q gu (by intro z;cases z));obtain⟨q,Y,pa,tt,rfl,dL,dN⟩:=cR tv Z;have hn:=(Yh.mp Y).1;have cB:=(dN.up an).up aw;obtain⟨t0,tc,xc,e0,dR,dT,dV⟩:=id cB;cases e0;have eW:bJ K C pa [.ref tt,.str (XO q.2)]:=bJ.of (aw _ _ (an _ _ dL));have cc:bJ K C tt [.int q.2.n,.int q.2.c,.int q.2.k,.str q.2.kd,.int q.2.w,.ref tc]:=bJ.of dR;have cE:=kC _ _ O.hs' (bM O.hs' gs (by intro z;cases z)) dK;have a0:=kC _ _ TB.hu (bM TB.hu gs (by intro z;cases z)) cv;have eY:a9 K C Q (I.map V.ref):=a9.of cE;have dX:a9 K C p (g.map V.ref):=a9.of a0;have nd:=td.nd;have ld:=td.toCk.len;have cI:=O.wd.mo.wf _ (bd q (Yw Y));obtain⟨ee,dY,dZ⟩:=YA.mp (bd q (Yw Y));have cN:=O.kp ee dY;rw[dZ]at cN;cbv;intro C1 b1 g1;have eZ:=b1.at cx a5;have ep:a9 K C1 p (g.map V.ref):=a9.of (b1.at (bM a0 gd (by intro z;cases z)) a0);have lz:(us++X).length<1000:=by rw[Yq];omega
    cbv;intro C2 b2 g2;have bi:de C C2:=λb xs q=>b2.at (bM q a5 (by intro z;cases z)) (b1.at (bM q gd (by intro z;cases z)) q);refine⟨_,_,X++[.ref tt],rfl,λb o e n1 n2=>b2.at n2 (b1.at n1 (kC b o e n1 n2)),?_,?_,by rw[←RW];exact g2,by rw[Yq,cA];rfl,?_⟩
    ·rw[aN Y,pF];exact b2.at (Ne.symm cx) g1
    ·rw[aN Y,pF];exact F9 td cI.c0 cI.c1 cN
    ·rw[aN Y,Yr];exact fg (YX.mapP a6 λ_ _ z=>z.up bi) (.cons (cB.up bi) .nil)
   rintro σ C ⟨b3,b4,X,rfl,kC,gd,td,a5,cA,a6⟩;rw[dH,YI]at gd td a6;have aw:de B C:=λb xs q=>kC b _ q (bM q gs (by intro z;cases z)) (bM q gu (by intro z;cases z));refine⟨_,_,_,_,aX.set e.1 (rM m e.2),ac.set e.1 (t++e.2),rfl,O.seen (rw:=e.2) hd em ht gu (cq u (Yo _ ar)) (uo u (Yo _ ar)) kC gd td,λb o q n1 n2=>kC b o (kB b o q n1 n2) (λz=>n1 (z▸dF)) λz=>n2 (z▸ar),⟨kC _ _ TB.hu (bM TB.hu gs (by intro z;cases z)) cv,λj' u' t' e1 f=>?_⟩,λb xs q=>aw _ _ (an _ _ q)⟩;rcases BR ht f with⟨rfl,rfl⟩|⟨n,f⟩
   ·rw[hu]at e1;cases e1;refine⟨us++X,a5,?_⟩;rw[Yr];exact fg (YX.mapP ao λ_ _ z=>z.up aw) a6
   ·obtain⟨d0,g2,p2⟩:=TB.us j' u' t' e1 f;refine⟨d0,kC _ _ g2 (bM g2 gs (by intro z;cases z)) (λz=>n ?_),YX.mapP p2 λ_ _ z=>z.up aw⟩;rw[z]at e1;exact(agZ (Yh.mp e1).1 dj).mp (e1.trans hu.symm)
  rintro σ B ⟨w9,bX,a3,a4,aX,ac,rfl,O,kB,TB,an⟩;rw[dx,List.drop_length]at O;have cO:N∉g:=λz=>ck N (Yo _ z) rfl;refine⟨_,_,_,_,_,W2,Zm,aX,ac,dt,rfl,O,by omega,by omega,kB _ _ cp (bU cp (by intro _ z;cases z)) cO,du.up an,λb o e=>kB b o (sH b o e) (λz=>by rw[dr b z]at e;cases e) (λz=>by rw[u0 b (Yo _ z)]at e;cases e),λb s=>?_,λz=>?_,TB,cq⟩
  ·rcases bP b s with z|z
   ·exact bI b z
   ·exact sA.free z
  ·rcases bP N z with y|y
   ·exact bK y
   ·rw[gq]at y;cases y
 rintro σ A ⟨v8,v9,aS,aT,aU,W',es,ml,tl,pl,rfl,E,bA,ds,gq,po,sA,bI,bK,TA,bL⟩;have e3:es.length<=60:=by
  rw[Yf]at bA;split at bA<;>omega
 obtain⟨w0,h0⟩:∃w,W'[0]?=Ya w:=⟨_,Yk (by rw[E.wd.len];omega)⟩;have cS:∀{i:Nat} {w:PW},W'[i]?=Ya w->w.2.1.od.length<=60:=fun{i w} h=>by
  have:=Bg (E.wd.ok i w h).od (E.wd.ok i w h).oin;rw[Yf,Yf]at this;omega
 have cU:=E.wd.pg 0 w0 h0;obtain⟨C0,e4,d1,T0,e5⟩:=cU.ob;have eC:=d1;rw[aW]at eC;cases eC;have d2:a9 K A ap (W'.map λw=>V.ref w.1):=a9.of E.hp;have eq:uZ (W'.map λw=>V.ref w.1) 0=Ya (.ref w0.1):=cG (j:=0) (by rw[Yy,h0];rfl);cbv;refine⟨w0.1,rfl,w0.2.1,w0.2.2,cU,cS h0,λA1 lo xo cV e6 a7 cW=>?_⟩;cbv;refine⟨_,_,_,true,rfl,.lst a7,(by kernel_rfl),?_⟩;have b5:=E.same cV;have c0:a9 K A1 lo xo:=a9.of a7;cbv;intro Do d4;refine bh (K:=K) (a:=lo) (xs:=xo) (λi σ B=>∃v,σ=[Ya (.ref am),v]/\aJ A1 B/\B Do=Ya (.lst [])) ⟨Yb,rfl,aC d4,af⟩ ?_ ?_ ?_
 ·rintro i σ B _ ⟨_,_,z,_⟩;exact a9.of (z _ _ a7)
 ·rintro i y σ B Z ⟨v,rfl,M,gD⟩;obtain⟨n,hn,pa,rfl,gp⟩:=cR cW Z;obtain⟨c,hc,en,ok⟩:=(E.oi.po 0 w0 h0).2 n (Yw hn);obtain⟨e,he,rfl⟩:=YA.mp hc;have ve:=b5.md.val he;have d6:=M _ _ b5.md.dt;have d7:=M _ _ gp;obtain⟨tt,tc,xc,ee,d8,_⟩:=(b5.md.tl e he).up (de.same M);have cc:bJ K B tt [.int e.1.n,.int e.1.c,.int e.1.k,.str e.1.kd,.int e.1.w,.ref tc]:=bJ.of d8;have gk:B pa=Ya (.tup ((eD e.1).map kV)):=by
   rw[d7,←en];rfl
  rw[ee]at ve;cbv;refine⟨am,.ref tt,rfl,by rw[←ve];exact jc.t (k:=eD e.1) d6 gk,?_⟩;cbv;refine dP (λz=>?_) λ_=>⟨_,rfl,M,gD⟩;rw[ok]at z;exact absurd z (by decide)
 rintro σ B ⟨v,rfl,M,gD⟩;cbv;intro e2 B1 e7 G d9;refine Ir (a9.of (G _ _ gD)) .nil rfl (a9.of d9) ?_;rw[show(!decide (([]:List abo)=[]))=false from rfl];have b6:=cV.trans (M.trans G);have O:=E.same b6;have TB:QV B1 p g tl:=TA.up (λb _ o e=>b6 _ _ e) (de.same b6);have e8:a9 K B1 R (hs.map V.int):=a9.of O.ha;have lhs:((hs.map V.int).length:Int)<=4:=by rw[Yf];omega
 have c1:=(M.trans G) _ _ a7;have c2:=cW.up (.same (M.trans G));have c3:∀x∈es.map (·.1),0<x.k/\x.k<64:=λx hx=>by
  refine⟨E.oi.mu.ps x hx,?_⟩;obtain⟨j,hj⟩:=YJ (E.wd.mo.hs x hx);obtain⟨wj,b7⟩:∃w,W'[j]?=Ya w:=⟨_,Yk (by rw[E.wd.len];exact(Yh.mp hj).1)⟩;have e1:=(E.wd.st j wj b7).1;rw[hj]at e1;have:=E.wd.mx x hx j wj b7 (YF e1);have e2:=E.wd.ma j wj b7;have l1:=YQ (λc:bF=>decide (c.c=wj.2.1.me)) (es.map (·.1));rw[Yf]at l1;omega
 refine⟨_,rfl,?_⟩;cbv;refine⟨_,rfl,by omega,by omega,?_⟩;let c4:Nat->St->Hp->Prop:=λi σ C=>∃w9 c5 c6,σ=[Ya (.ref a),Ya (.ref R),Ya (.int nu),Ya (.ref ap),Ya (.ref Q),Ya (.ref p),Ya (.ref am),Ya (.ref N),v8,w9,aS,aT,aU,Ya (.ref lo),c5,c6]/\aJ B1 C;refine AR c4 ⟨v9,Yb,Yb,rfl,.refl _⟩ ?_ ?_
 ·rintro i σ C S ⟨w9,c5,c6,rfl,sC⟩;have S:i<hs.length:=by rw[YO,Yf]at S;exact S
  have DC:=O.same sC;have TC:QV C p g tl:=TB.up (λb _ o e=>sC _ _ e) (de.same sC);obtain⟨w,hw⟩:∃w,W'[i]?=Ya w:=⟨_,Yk (by rw[DC.wd.len];exact S)⟩;obtain⟨u,hu⟩:∃d,g[i]?=Ya d:=⟨_,Yk (by rw[al];exact S)⟩;obtain⟨t,ht⟩:∃d,tl[i]?=Ya d:=⟨_,Yk (by rw[DC.lt];exact S)⟩;obtain⟨us,gu,ao⟩:=TC.us i u t hu ht;have U:w.2.1.tk=t:=DC.tt i w t hw ht (by simp);have PO:=(E.oi.po i w hw).1;have cu:us.length=t.length:=by rw[Y2 ao,Yf]
  have b0:t.length<=60:=by
   have:=E.oi.tkl hw;rw[U,Yf]at this;omega
  rw[ae7];have dX:a9 K C p (g.map V.ref):=a9.of TC.hu;have cy:uZ (g.map V.ref) (i:Int)=Ya (.ref u):=cG (by rw[Yy,hu];rfl);have er:a9 K C u us:=a9.of gu;cbv;intro D1 c7;refine bh (K:=K) (a:=u) (xs:=us) (λn σ B=>∃v zs,σ=[v]/\aJ C B/\B D1=Ya (.lst zs)/\zs.length<=n/\nv B zs (AF (t.take n))) ⟨Yb,[],rfl,aC c7,af,Yl _,.nil⟩ ?_ ?_ ?_
  ·rintro n σ B _ ⟨_,_,_,z,_⟩;exact a9.of (z _ _ gu)
  ·rintro n y σ B Z ⟨v,zs,rfl,M,gE,lz,pz⟩;obtain⟨c,hc,tt,tc,xc,rfl,gt,dT,dV⟩:=cR ao Z;rw[Yy]at hc;obtain⟨q,Y,rfl⟩:=aa7.mp hc;have hn:=(Yh.mp Y).1;have st:bJ K B tt [.int q.2.n,.int q.2.c,.int q.2.k,.str q.2.kd,.int q.2.w,.ref tc]:=bJ.of (M _ _ gt);rw[aN Y,Iz];cbv;refine dP (λz=>?_) λz=>?_
   ·have z:q.2.kd="one":=of_decide_eq_true z;cbv;refine R1 (M _ _ gt) λr A2 hr L gr=>?_;have c9:=L _ _ gE;have kt:de A2 (upd A2 D1 (.lst (zs++[.ref r]))):=de.lst c9;refine⟨zs,c9,aF (by omega),_,zs++[.ref r],rfl,λb o e=>?_,af,by rw[Yq];exact aau lz,?_⟩
    ·rw[ak (ay e c7)];exact L _ _ (M b o e)
    ·obtain⟨qv,qx⟩:=q;rw[QN z];exact kj ((pz.up (.same L)).up kt) ⟨r,rfl,kt _ _ gr⟩
   ·have z:¬ q.2.kd="one":=λy=>z (decide_eq_true y);refine⟨_,zs,rfl,M,gE,by omega,?_⟩;obtain⟨qv,qx⟩:=q;rw[U1 z,Y1];exact pz
  rintro σ C1 ⟨v,zs,rfl,s1,g1,lz,pz⟩;rw[cu,YI]at pz;have PA:=(DC.same s1).wd.pg i w hw;obtain⟨Cw,e9,da,Tw,ea⟩:=PA.ob;rw[aW]at da;cases da;have d2:a9 K C1 ap (W'.map λw=>V.ref w.1):=a9.of (DC.same s1).hp;have et:uZ (W'.map λw=>V.ref w.1) (i:Int)=Ya (.ref w.1):=cG (by rw[Yy,hw];rfl);cbv;refine⟨w.1,rfl,w.2.1,w.2.2,PA,cS hw,λC2 lm xm L fa b8 eb=>?_⟩;have db:=L _ _ g1;have fe:a9 K C2 D1 zs:=a9.of db;have ff:a9 K C2 lm xm:=a9.of b8;have c0:a9 K C2 lo xo:=a9.of (L _ _ (s1 _ _ (sC _ _ c1)));have ec:=pz.up (.same L);have bj:=c2.up (.same (sC.trans (s1.trans L)));have dc:∀{Hx:Hp} {xs:List V} {l:List Nm},nv Hx xo w0.2.1.od->nv Hx xs l->l <+: w0.2.1.od->nv Hx (uY xo Yb (Ya ((xs.length:Nat):Int))) l:=fun{Hx xs l} n1 n2 pf=>by
   rw[Bi _ _ (ac1 _),YO,n2.len];have:=uS l.length n1;rw[←List.prefix_iff_eq_take.mp pf]at this;exact this
  have ed:AF t <+: w0.2.1.od:=by
   rw[←U];exact PO.on.trans (E.oi.px i w w0 hw h0)
  cbv;intro p1 C3 fi s3 ef;have dd:=ec.up (.same s3);refine vi (d:=.list ((AF t).map xD)) (.inr ⟨_,_,_,rfl,rfl,a9.of (s3 _ _ db),dd.dps⟩) (.inr ⟨_,_,_,rfl,rfl,a9.of ef,(dc (bj.up (.same s3)) dd ed).dps⟩) (Ex _) (DE _) ?_;have eu:a9 K C3 lm xm:=a9.of (s3 _ _ b8);have ev:=s3.seq c0;refine⟨_,rfl,?_⟩;cbv;intro p2 C4 fk s4 eg;have aA:=s3.trans s4;have bl:=eb.up (.same aA);refine vi (d:=.list (w.2.1.od.map xD)) (.inr ⟨_,_,_,rfl,rfl,a9.of (aA _ _ b8),bl.dps⟩) (.inr ⟨_,_,_,rfl,rfl,a9.of eg,(dc (bj.up (.same aA)) bl (E.oi.px i w w0 hw h0)).dps⟩) (Ex _) (DE _) ?_;refine⟨_,rfl,?_⟩;have ab:=s1.trans (L.trans aA);have eh:=DC.same ab;have ex:a9 K C4 ap (W'.map λw=>V.ref w.1):=a9.of eh.hp;have ey:=(L.trans aA) _ _ ea;have dh:∀q∈t,q.2∈es.map (·.1):=λq Y=>PO.tm q (by rw[U];exact Y);cbv;refine⟨w.1,rfl,w.2.1,w.2.2,PA.same (L.trans aA),by rw[U];exact b0,λq Y=>c3 _ (PO.tm q Y),PO.tn,λC5 l5 y5 r5 s5 fn g5 b9 p5=>?_⟩;rw[U]at b9 p5;have ba:=ab.trans s5;have ez:a9 K C5 p (g.map V.ref):=a9.of (ba _ _ TC.hu);cbv;refine⟨u,rfl,us,t.map (·.2),ba _ _ gu,YX.mapP ao λ_ _ z=>z.up (de.same ba),by rw[Yf];exact b0,λx hx=>?_,?_,λC6 l6 y6 r6 s6 fo g6 ej p6=>?_⟩
  ·obtain⟨q,Y,rfl⟩:=YA.mp hx;exact c3 _ (dh q Y)
  ·rw[rl];have:=PO.tn;rw[U]at this;exact this
  rw[ej.uniq b9]at p6;have ek:YX (M3 C6) y5 ((t.map (·.2)).filter Ak++r5):=YX.mapP p5 λ_ _ z=>z.same s6;refine vi (d:=.list (((t.map (·.2)).filter Ak++r5).map JI)) (.inr ⟨_,_,_,rfl,rfl,a9.of (s6 _ _ g5),K3 ek⟩) (.inr ⟨_,_,_,rfl,rfl,a9.of g6,K3 p6⟩) ?_ (QM _) ?_
  ·rw[adZ];refine Lc λx hx=>E.wd.mo.wf x ?_;have xt:x∈t.map (·.2):=by
    rcases YD.mp hx with z|z
    ·exact(YU.mp z).1
    ·exact(YU.mp (b9.1.mem_iff.mp z)).1
   obtain⟨q,Y,rfl⟩:=YA.mp xt;exact dh q Y
  refine⟨_,rfl,?_⟩;cbv;exact⟨_,_,_,rfl,sC.trans (ba.trans s6)⟩
 rintro σ C ⟨_,_,_,rfl,_⟩;cbv;exact kk C
end
end K44
namespace K44
open PySem L2
theorem UL{l:W.OpenLaw}{w:Y7}{K:W.Frag}{h:YV}{mg:Yp->Option Yd}{fa fp fr fv fw fx fz ah fB fC fD ap x aq Q ar as y z R au aI aS a3 a4 a5 a6 a7 ba bb bd be bi bl bm bn bt bv bz bA bU b0 b1 b2 A b3 b4 b5 b6 b7 B b8 b9 ca cc ce cf ch ci ck cl cm cn co cp cq cr cs cv cx cy sy bj c5 bL bK r o UH IM aK:Ye}{j2 j3 j4 j6 j7 j9 kb kc kd ke fI fJ fK fL fM fT fW fX fY fZ f0 f1 f2 f3 f4 f5 f8 f9 ga gb gc gd ge gg gj gk gl gn go gp gq gs gt gu gv gx gA gB gC gD gE gG gI gL gM gN gP gR gT gV gW gX gZ g0 g1 g2 g3 g4 g5 g6:YE}(X:K.In h)(G:h.Ns cw mg)(kf:mg "law"=Ya (.ref fa))
  {gK:acT} {PQ OU:Yp} {Px jZ Rp:List Yd} {B9 Qh:Bool} {OR:List Yp} {QA:Option Bool} {PD:Option Ye} {QH OY PM Q7 OV:Option Yd} {Hr:String} {nK:Nat} {kh ki kk:acT}
  (kl:nI K "count_of" fp)
  (km:nI K "hands_among" fr)
  (kn:nI K "covers" fv)
  (ko:nI K "unpacked" fw)
  (kp:nI K "joined" fx)
  (kq:nI K "covers_name" fz)
  (kr:nI K "is_whole" fC)
  (ks:nI K "is_word" fD)
  (g7:nI K "make_call" ap)
  (g8:nI K "first_open" ar)
  (g9:nI K "name_at" as)
  (ha:nI K "rank_of" aI)
  (hb:nI K "can_be_taken" aS)
  (hc:nI K "first_to_take" a3)
  (hd:nI K "callers_from" a4)
  (he:nI K "run" a5)
  (hf:nI K "least_asking" a6)
  (hg:nI K "placed" a7)
  (hh:nI K "least_count" ba)
  (hi:nI K "common" bb)
  (hj:nI K "packed" bd)
  (hk:nI K "bit_of" be)
  (hm:nI K "has" bi)
  (hn:nI K "hands_of" bl)
  (ho:nI K "call_of" b3)
  (hp:nI K "why_of" b4)
  (hq:nI K "by_rank" b5)
  (hr:nI K "least" b6)
  (hs:nI K "_law_cell_at" cm)
  (ht:nI K "_law_mixed" cn)
  (hu:nI K "_law_hands" co)
  (hv:nI K "_law_pages" cp)
  (hw:nI K "_law_call" cq)
  (hx:nI K "_law_deed" cr)
  (hy:nI K "_law_rows" cx)
  (hz:nI K "law" cy)
  (Ta:nI K "Call" sy)
  (FA:nI K "HeardCall" bj)
  (Ph:nI K "Known" c5)
  (Jb:nI K "OneCall" bL)
  (KG:nI K "OwnCall" bK)
  (S4:nI K "Page" r)
  (TU:W.nsIn K cw "Held"=Ya (Ya (.ref o)))
  (Jo:W.nsIn K cw "KINDS"=Ya (Ya (.ref aK)))
  (W9:W.nsIn K cw "abs"=Ya Yb)
  (Wr:W.nsIn K cw "all"=Ya Yb)
  (Sw:W.nsIn K cw "bool"=Ya Yb)
  (SW:W.nsIn K cw "dict"=Ya Yb)
  (Vw:W.nsIn K cw "int"=Ya Yb)
  (B0:W.nsIn K cw "isinstance"=Ya Yb)
  (Wa:W.nsIn K cw "len"=Ya Yb)
  (Sr:W.nsIn K cw "list"=Ya Yb)
  (WR:W.nsIn K cw "max"=Ya Yb)
  (VI:W.nsIn K cw "min"=Ya Yb)
  (Q3:W.nsIn K cw "range"=Ya Yb)
  (WT:W.nsIn K cw "set"=Ya Yb)
  (LH:W.nsIn K cw "sorted"=Ya Yb)
  (Wq:W.nsIn K cw "sum"=Ya Yb)
  (Pu:W.nsIn K cw "tuple"=Ya Yb)
  (aM:bE K bj "asks_place" R)
  (cu:bE K bj "free" Q)
  (dJ:bE K bj "in_turn" x)
  (eI:bE K bj "kind" b1)
  (aZ:bE K bj "name" y)
  (eE:bE K bj "rank" z)
  (bI:bE K bj "told" A)
  (dh:bE K c5 "floor" bU)
  (cN:bE K c5 "learn" bn)
  (d9:bE K c5 "listed" bt)
  (eT:bE K c5 "merge" bv)
  (gY:bE K c5 "reach" bz)
  (iH:bE K c5 "sure" bA)
  (aR:bE K bL "asks_place" au)
  (cU:bE K bL "free" Q)
  (d6:bE K bL "in_turn" x)
  (fQ:bE K bL "kind" b2)
  (bu:bE K bL "name" y)
  (fO:bE K bL "rank" z)
  (bQ:bE K bL "told" A)
  (aT:bE K bK "asks_place" R)
  (cV:bE K bK "free" aq)
  (dZ:bE K bK "in_turn" x)
  (fP:bE K bK "kind" b0)
  (bw:bE K bK "name" y)
  (fR:bE K bK "rank" z)
  (bP:bE K bK "told" A)
  (dX:bE K r "check_room" b8)
  (d4:bE K r "keep" b9)
  (fE:bE K r "keep_new" ck)
  (bY:bE K r "kept_calls" ca)
  (gU:bE K r "let_go" ce)
  (dq:bE K r "listen" cl)
  (dN:bE K r "piece" ci)
  (fb:bE K r "places" cs)
  (jm:bE K r "rows" cv)
  (d7:bE K r "step" cf)
  (jg:bE K r "take" cc)
  (iG:bE K r "utter" ch)
  (kF:Mk K bj ah)
  (uE:Mk K c5 bm)
  (qY:Mk K bL ah)
  (rh:Mk K bK fB)
  (Cr:Mk K r b7)
  (Ra:W.findIn K (.ref o) "__init__"=Ya (Ya (.ref B)))
  (fy:LG K sy "__init__" ah)
  (hA:bN K "count_of" "count_of" su fp j2)
  (hB:bN K "hands_among" "hands_among" lY fr j3)
  (hC:bN K "covers" "covers" yK fv j4)
  (hD:bN K "unpacked" "unpacked" sO fw j6)
  (hE:bN K "joined" "joined" yz fx j7)
  (hF:bN K "covers_name" "covers_name" kZ fz j9)
  (hH:bN K "__init__" "Call.__init__" iW ah kb)
  (hI:bN K "__init__" "OwnCall.__init__" fV fB kc)
  (hK:bN K "is_whole" "is_whole" sZ fC kd)
  (hL:bN K "is_word" "is_word" vQ fD ke)
  (cz:bN K "make_call" "make_call" pJ ap fI)
  (cA:bN K "in_turn" "Call.in_turn" jz x fJ)
  (cB:bN K "free" "Call.free" qO aq fK)
  (cE:bN K "free" "HeardCall.free" ic Q fL)
  (cI:bN K "first_open" "first_open" nG ar fM)
  (cO:bN K "name_at" "name_at" vn as fT)
  (cS:bN K "name" "Call.name" qM y fW)
  (cW:bN K "rank" "Call.rank" qJ z fX)
  (c0:bN K "asks_place" "Call.asks_place" gz R fY)
  (c1:bN K "asks_place" "OneCall.asks_place" eX au fZ)
  (c2:bN K "rank_of" "rank_of" vJ aI f0)
  (c3:bN K "can_be_taken" "can_be_taken" jP aS f1)
  (c4:bN K "first_to_take" "first_to_take" iV a3 f2)
  (c6:bN K "callers_from" "callers_from" jR a4 f3)
  (c7:bN K "run" "run" MG a5 f4)
  (c9:bN K "least_asking" "least_asking" jq a6 f5)
  (da:bN K "placed" "placed" y8 a7 f8)
  (db:bN K "least_count" "least_count" lG ba f9)
  (dd:bN K "common" "common" zf bb ga)
  (di:bN K "packed" "packed" zF bd gb)
  (dj:bN K "bit_of" "bit_of" yP be gc)
  (dk:bN K "has" "has" K2 bi gd)
  (dl:bN K "hands_of" "hands_of" sL bl ge)
  (dm:bN K "__init__" "Known.__init__" ij bm gg)
  (dn:bN K "learn" "Known.learn" lK bn gj)
  (dr:bN K "listed" "Known.listed" jt bt gk)
  (ds:bN K "merge" "Known.merge" lF bv gl)
  (dt:bN K "reach" "Known.reach" lL bz gn)
  (du:bN K "sure" "Known.sure" nO bA go)
  (dv:bN K "floor" "Known.floor" lZ bU gp)
  (dx:bN K "kind" "OwnCall.kind" jT b0 gq)
  (dy:bN K "kind" "HeardCall.kind" ie b1 gs)
  (dB:bN K "kind" "OneCall.kind" jL b2 gt)
  (dF:bN K "told" "Call.told" pL A gu)
  (dH:bN K "call_of" "call_of" vg b3 gv)
  (dK:bN K "why_of" "why_of" yH b4 gx)
  (dL:bN K "by_rank" "by_rank" vD b5 gA)
  (dR:bN K "least" "least" BK b6 gB)
  (dT:bN K "__init__" "Page.__init__" i7 b7 gC)
  (dV:bN K "__init__" "Held.__init__" i6 B gD)
  (dY:bN K "check_room" "Page.check_room" gO b8 gE)
  (d0:bN K "keep" "Page.keep" pZ b9 gG)
  (d1:bN K "kept_calls" "Page.kept_calls" gS ca gI)
  (d2:bN K "take" "Page.take" qc cc gL)
  (d8:bN K "let_go" "Page.let_go" lQ ce gM)
  (ea:bN K "step" "Page.step" pO cf gN)
  (eb:bN K "utter" "Page.utter" m6 ch gP)
  (S:FY K "piece" "Page.piece" mZ ci gR [.int 0 gK,.none])
  (ec:bN K "keep_new" "Page.keep_new" iS ck gT)
  (ed:bN K "listen" "Page.listen" lM cl gV)
  (ee:bN K "_law_cell_at" "_law_cell_at" jU cm gW)
  (ef:bN K "_law_mixed" "_law_mixed" nN cn gX)
  (eg:bN K "_law_hands" "_law_hands" nH co gZ)
  (eh:bN K "_law_pages" "_law_pages" mX cp g0)
  (ei:bN K "_law_call" "_law_call" qt cq g1)
  (ej:bN K "_law_deed" "_law_deed" qN cr g2)
  (ek:bN K "places" "Page.places" l8 cs g3)
  (el:bN K "rows" "Page.rows" pC cv g4)
  (em:bN K "_law_rows" "_law_rows" pN cx g5)
  (en:bN K "law" "law" Bf cy g6)
  (Iy:K.lookup o=Ya (aeg PQ OU o UH Px jZ B9 OR Rp Qh QA PD QH OY PM Q7 OV Hr))
  (Gk:i9 K sy)
  (c:i9 K bj)
  (O:Hm K c5)
  (d:i9 K bL)
  (f:i9 K bK)
  (p:AI K r)
  (QS:W.tailIn K [.type "ValueError",.type "Exception",.type "BaseException",.type "object"] jZ=true)
  (PF:Hr="ValueError.__new__")
  (QL:W.typeIn K (.ref B)=Ya (.type "function"))
  (Q8:W.mroIn K o (.ref o)=Ya true)
  (Ri:W.keepIn K (.ref o)=true)
  (Mc:W.findIn K (.ref o) "__setattr__"=Ya (Ya (.builtin "object.__setattr__")))
  (Oh:W.mroIn K o (.type "object")=Ya true)
  (Oa:B9=true)
  (Rj:jZ=[YH IM,.type "ValueError",.type "Exception",.type "BaseException",.type "object"])
  (MW:jZ.contains (aaG "BaseException")=true)
  (jk:W.findIn K (.ref o) "many"=Ya Yb)
  (jf:W.findIn K (.ref o) "room"=Ya Yb)
  (g:jZ.contains (aaG "BaseException")=true)
  (i:(YH o::jZ).contains (YH o)=true)
  (LA:K.lookup aK=Ya ⟨.type "tuple",Yb,.seq #[.str "own" kh,.str "heard" ki,.str "one" kk] nK,#[]⟩)
 :∃fd:YE,(∀(s:Yn) (v:Yd),afF s fd ⟨[v],[]⟩ [("_law_script",v)])/\∀base:YV,K.In base->base.Ns cw mg->aH l.prog w K mg base bx 12 fa fd xn (BE K):=by
 have e:=kf.symm.trans (W.mg_of X G hz);cases e;have b:eM K mg _ _ _ JX:=hA.cal X G kl;have T:eM K mg _ _ _ zH:=hB.cal X G km;have hM:eM K mg _ _ _ yB:=hC.cal X G kn;have C:eM K mg _ _ _ Gz:=hD.cal X G ko;have eo:eM K mg _ _ _ yB:=hE.cal X G kp;have D:eM K mg _ _ _ He:=hF.cal X G kq;have hN:Binds K _ yQ []:=hH.bq;have kt:Binds K _ yQ []:=hI.bq;have hO:eM K mg _ _ _ ["value"]:=hK.cal X G kr;have hP:eM K mg _ _ _ ["word"]:=hL.cal X G ks;have U:eM K mg _ _ _ J0:=cz.cal X G g7;have ep:Binds K _ sM []:=cA.bq;have eq:Binds K _ sM []:=cB.bq;have er:Binds K _ sM []:=cE.bq;have V:eM K mg _ _ _ JP:=cI.cal X G g8;have eW:eM K mg _ _ _ OF:=cO.cal X G g9;have E:Binds K _ aV []:=cS.bq;have hQ:Binds K _ aV []:=cW.bq;have F:Binds K _ aV []:=c0.bq;have I:Binds K _ aV []:=c1.bq;have t:eM K mg _ _ _ pS:=c2.cal X G ha;have eY:eM K mg _ _ _ ED:=c3.cal X G hb;have eZ:eM K mg _ _ _ EK:=c4.cal X G hc;have e0:eM K mg _ _ _ Fg:=c6.cal X G hd;have Y:eM K mg _ _ _ pK:=c7.cal X G he;have e1:eM K mg _ _ _ Fi:=c9.cal X G hf;have e2:eM K mg _ _ _ pK:=da.cal X G hg;have e3:eM K mg _ _ _ Fm:=db.cal X G hh;have e4:eM K mg _ _ _ zH:=dd.cal X G hi;have Z:eM K mg _ _ _ AL:=di.cal X G hj;have e5:eM K mg _ _ _ ["hand"]:=dj.cal X G hk;have e6:eM K mg _ _ _ FE:=dk.cal X G hm;have ab:eM K mg _ _ _ rT:=dl.cal X G hn;have hR:Binds K _ DL []:=dm.bq;have es:Binds K _ Bs []:=dn.bq;have hS:Binds K _ aV []:=dr.bq;have hT:Binds K _ Es []:=ds.bq;have hY:Binds K _ DN []:=dt.bq;have hZ:Binds K _ Fh []:=du.bq;have et:Binds K _ aV []:=dv.bq;have h0:Binds K _ aV []:=dx.bq;have h4:Binds K _ aV []:=dy.bq;have h5:Binds K _ aV []:=dB.bq;have ac:Binds K _ aV []:=dF.bq;have e7:eM K mg _ _ _ ["told"]:=dH.cal X G ho;have e8:eM K mg _ _ _ pS:=dK.cal X G hp;have ad:eM K mg _ _ _ ["calls"]:=dL.cal X G hq;have e9:eM K mg _ _ _ rT:=dR.cal X G hr;have h6:Binds K _ FF []:=dT.bq;have h7:Binds K _ DG []:=dV.bq;have h8:Binds K _ aV []:=dY.bq;have eu:Binds K _ qK []:=d0.bq;have ev:Binds K _ aV []:=d1.bq;have h9:Binds K _ qK []:=d2.bq;have ia:Binds K _ aV []:=d8.bq;have ew:Binds K _ aV []:=ea.bq;have ib:Binds K _ Dr []:=eb.bq;have ig:Binds K _ yr []:=S.binds λ_ _ _ _ _ _ _ us hl=>by obtain⟨a0,a1,a2,rfl⟩:=ln3 (us:=us) (by rw[Yq]at hl;exact agc (m:=0) hl);exact⟨_,rfl,rfl⟩
 have fH:Binds K _ yr [.int 0 gK,.none]:=S.binds λ_ _ _ _ _ _ _ us hl=>by obtain⟨a0,rfl⟩:=ln1 (us:=us) (by rw[Yq]at hl;exact agc (m:=2) hl);exact⟨_,rfl,rfl⟩
 have ih:Binds K _ EZ []:=ec.bq;have ii:Binds K _ Fn []:=ed.bq;have fc:eM K mg _ _ _ Ep:=ee.cal X G hs;have fe:eM K mg _ _ _ Ef:=ef.cal X G ht;have ff:eM K mg _ _ _ ER:=eg.cal X G hu;have fi:eM K mg _ _ _ xn:=eh.cal X G hv;have fk:eM K mg _ _ _ Ee:=ei.cal X G hw;have fl:eM K mg _ _ _ DK:=ej.cal X G hx;have ik:Binds K _ aV []:=ek.bq;have il:Binds K _ aV []:=el.bq;have fn:eM K mg _ _ _ Ei:=em.cal X G hy;have CI:=W.mg_of X G Ta;have j:=W.mg_of X G FA;have P:=W.mg_of X G Ph;have k:=W.mg_of X G Jb;have n:=W.mg_of X G KG;have q:=W.mg_of X G S4;have nM:=W.mg_of X G TU;have CF:=z9.mk Iy;have yl:Wi K o B [.type "ValueError",.type "Exception",.type "BaseException",.type "object"] "ValueError.__new__":=⟨⟨_,_,PF▸CF,QS⟩,Ra,QL,Q8,Ri⟩;have Qj:∃cd,W.clsIn K o=Ya cd/\cd.hasDict=B9/\cd.mro=.ref o::jZ:=by unfold W.clsIn;rw[Iy];exact⟨_,rfl,rfl,rfl⟩
 have yh:ON K o:=by obtain⟨cd,h1,h2,h3⟩:=Qj;exact⟨Mc,Oh,cd,jZ,h1,h2.trans Oa,h3,[IM],Rj⟩
 have yf:∃N up Zc,z9 K o N up Zc/\up.contains (.type "BaseException")=true:=⟨_,_,_,CF,MW⟩;have gh:Nd K o o:=⟨_,_,_,CF,g,i⟩;have tN:=W.mg_of X G Jo;have uN:RelV (.ref aK) (.ref aK):=rfl;have tP:EN K (.ref aK):=⟨aK,rfl,λH=>.inr ⟨_,_,_,LA,rfl,rfl,(by show 3<=YB;decide),.cons ⟨_,rfl⟩ (.cons ⟨_,rfl⟩ (.cons ⟨_,rfl⟩ .nil))⟩⟩;have Wk:mg "abs"=none:=W.mg_none_of X G W9;have VY:mg "all"=none:=W.mg_none_of X G Wr;have U3:mg "bool"=none:=W.mg_none_of X G Sw;have BI:mg "dict"=none:=W.mg_none_of X G SW;have VU:mg "int"=none:=W.mg_none_of X G Vw;have uw:mg "isinstance"=none:=W.mg_none_of X G B0;have uC:mg "len"=none:=W.mg_none_of X G Wa;have sE:mg "list"=none:=W.mg_none_of X G Sr;have Wx:mg "max"=none:=W.mg_none_of X G WR;have IH:mg "min"=none:=W.mg_none_of X G VI;have yj:mg "range"=none:=W.mg_none_of X G Q3;have RB:mg "set"=none:=W.mg_none_of X G WT;have ql:mg "sorted"=none:=W.mg_none_of X G LH;have VM:mg "sum"=none:=W.mg_none_of X G Wq;have yd:mg "tuple"=none:=W.mg_none_of X G Pu;obtain⟨_,_,kV,dc,pm,an,cd,ct,_,rfl,_⟩:=id en.ex;refine⟨W.fnOf "law" "law" (gQ Bf) (dW Bf) (av Bf) .none kV dc pm an cd ct,λs v=>.of_eq rfl,λbase _ _=>?_⟩;have a:Tg l.prog w mg base:=trivial;have u:=D6 a hA;have fo:=zi a sE RB ql hB;have ku:=Jp a (u.mono (by decide)) b (fo.mono (by decide)) T VY hC;have al:=ET a BI hD;have im:=JG a (u.mono (by decide)) b (fo.mono (by decide)) T (al.mono (by decide)) C Wx hE;have am:=z5 a (u.mono (by decide)) b hF;have io:=vw a hH;have kv:=rj a (io.mono (by decide)) hN Gk CI fy hI;have kw:=Dw a U3 VU uw hK;have kx:=GR a (kw.mono (by decide)) hO Wk hL;have ex:=BV a hN (io.mono (by decide)) (kv.mono (by decide)) kt (kx.mono (by decide)) hP c d f j k n kF qY rh tN uN tP cz;have ey:=xU a (u.mono (by decide)) b cA;have ez:=BA a f n (ey.mono (by decide)) ep dZ cB;have eA:=va a C c d j k (ey.mono (by decide)) ep (ku.mono (by decide)) hM (al.mono (by decide)) dJ d6 cE;have eB:=z8 a (am.mono (by decide)) D uC cI;have ip:=F0 a uC cO;have J:=Cp a cS;have iq:=CO a cW;have L:=tf a c0;have M:=oY a c1;have ae:=Gj a c d f j k n (iq.mono (by decide)) hQ eE fO fR c2;have it:=xW a c d f j k n (ez.mono (by decide)) eq (eA.mono (by decide)) er (J.mono (by decide)) E (L.mono (by decide)) F (M.mono (by decide)) I aM cu aZ aR cU bu aT cV bw c3;have iv:=wa a b c d f j k n (u.mono (by decide)) (it.mono (by decide)) eY c4;have iw:=xB a c6;have eC:=Tt a RB ql BI c d f j k n (im.mono (by decide)) eo (eB.mono (by decide)) V (ip.mono (by decide)) eW (ae.mono (by decide)) t (iv.mono (by decide)) eZ (iw.mono (by decide)) e0 c7;have ix:=xV a c d f j k n (ez.mono (by decide)) eq (eA.mono (by decide)) er (L.mono (by decide)) F (M.mono (by decide)) I aM cu aR cU aT cV t (ae.mono (by decide)) IH c9;have iz:=Ju a sE c d f j k n E aZ bu bw V (eB.mono (by decide)) (J.mono (by decide)) (eC.mono (by decide)) Y (ix.mono (by decide)) e1 da;have iA:=zv a (u.mono (by decide)) b IH db;have iC:=Ji a T C (al.mono (by decide)) (fo.mono (by decide)) (iA.mono (by decide)) e3 dd;have eG:=Kr a ql yd di;have iE:=Jt a dj;have iK:=SD a (iE.mono (by decide)) e5 dk;have eH:=En a (iK.mono (by decide)) e6 yj dl;have iM:=tM a BI (eH.mono (by decide)) ab dm;have eL:=ym a eo (im.mono (by decide)) O P dn;have iN:=xT a yd O P (eG.mono (by decide)) Z dr;have iR:=zA a C O P (al.mono (by decide)) (eL.mono (by decide)) es cN ds;have iU:=yC a (am.mono (by decide)) D uC O P dt;have iX:=An a uC O P (iU.mono (by decide)) hY gY du;have eN:=z7 a sE O P (iC.mono (by decide)) e4 dv;have i0:=xP a dx;have i1:=u4 a dy;have i2:=xA a dB;have ag:=BL a c d f j k n (i0.mono (by decide)) h0 (i1.mono (by decide)) h4 (i2.mono (by decide)) h5 eI fQ fP dF;have i3:=Gg a c d f j k n (ex.mono (by decide)) U dH;have i4:=JS a c d f j k n F I aM aR aT (L.mono (by decide)) (M.mono (by decide)) dK;have eO:=FZ a ql c d f j k n t (ae.mono (by decide)) dL;have i5:=K9 a IH (eH.mono (by decide)) ab dR;have ja:=vG a O P (iM.mono (by decide)) hR uE dT;have jd:=vE a dV;have je:=sP a b (u.mono (by decide)) O P (eN.mono (by decide)) et (jd.mono (by decide)) h7 p q dh nM yl yh yf jk jf dY;have eR:=BH a c d f j k n E aZ bu bw p q (J.mono (by decide)) d0;have eS:=sX a sE c d f j k n p q (eO.mono (by decide)) ad d1;have jh:=B8 a c d f j k n p q d2;have ji:=yo a BI c d f j k n D O P (eN.mono (by decide)) et p q dh (am.mono (by decide)) d8;have eU:=Cd a c d f j k n Y O P es cN p q (eC.mono (by decide)) (iz.mono (by decide)) e2 (eL.mono (by decide)) (iX.mono (by decide)) hZ (ag.mono (by decide)) ac (i4.mono (by decide)) e8 (i5.mono (by decide)) e9 (eS.mono (by decide)) ev (jh.mono (by decide)) h9 (ji.mono (by decide)) ia bI iH bQ bP bY gU jg ea;have jl:=Aj a c d f j k n Z U p q (ex.mono (by decide)) (eG.mono (by decide)) (je.mono (by decide)) h8 (eR.mono (by decide)) eu (eU.mono (by decide)) ew dX d4 d7 eb;have jp:=Am a (t0:=gK) c d f j k n yd O P p q ac ev bI bQ bP bY (iN.mono (by decide)) hS (ag.mono (by decide)) (eS.mono (by decide)) d9 S;have jv:=vt a c d f j k n D E aZ bu bw p q eu d4 (am.mono (by decide)) (J.mono (by decide)) (i3.mono (by decide)) e7 (eR.mono (by decide)) ec;have jA:=yX a sE uC O P p q (eU.mono (by decide)) ew d7 (iR.mono (by decide)) hT (jv.mono (by decide)) ih eT fE ed;have jD:=xx a uC ee;have jF:=Af a ef;have jG:=Ai a yj eg;have jI:=Ap a p q (ja.mono (by decide)) h6 (jD.mono (by decide)) fc (jG.mono (by decide)) ff VM Cr eh;have jK:=BY a uC yd p q nM (jl.mono (by decide)) ib iG gh ei;have jN:=BG a (pW:=gK) uC yj p q (jp.mono (by decide)) fH ig (jA.mono (by decide)) ii (jF.mono (by decide)) fe (jK.mono (by decide)) fk dq dN ej;have jO:=yx a sE p q ek;have jQ:=Cz a c d f j k n F I aM aR aT p q (eO.mono (by decide)) ad ac bI bQ bP (L.mono (by decide)) (M.mono (by decide)) (ag.mono (by decide)) el;have j1:=B3 a ql em;exact UE a sE uw uC IH yj p q (jI.mono (by decide)) fi (jN.mono (by decide)) fl (jO.mono (by decide)) ik (jQ.mono (by decide)) il (j1.mono (by decide)) fn fb jm en
theorem Xr{l:ahE}{q:Y0}{b:List Yp}{i:(Yp->Option Yd)->YV->Prop}{e:Y7->YV->Prop}{d:DefRec}{K:Params->Yc}(hn:l.most=Ya 63)(c:d.params.defaults=[])
  (j:∀(w:Y7) (h:YV),e w h->(K w.params).In h)
  (F:∀(w:Y7) (mg:Yp->Option Yd) (g:Ye) (h:YV),(K w.params).In h->h.Ns cw mg->mg d.name=Ya (.ref g)->
   ∃fd:YE,(∀(s:Yn) (u:Yd),afF s fd ⟨[u],[]⟩ [("_law_script",u)])/\∀base:YV,(K w.params).In base->base.Ns cw mg->aH l.prog w (K w.params) mg base bx 12 g fd ["_law_script"] (BE (K w.params))):
  aik q b i e l.row.toRowW d [] (λf vs=>PySem.call f vs):=
 L2.Rg (n:=63) (k:=12) (x:="_law_script") (CX:=λ_=>bx) (sp:=λw=>BE (K w.params)) hn (by decide) c ⟨rfl,by decide,by decide⟩ j F (λ_ _ a ns hl _ m=>⟨a,ns,rfl,m,hl,λ_=>rfl⟩) λ_ _ _ _ _ z=>z
end K44
end
section
open Lean in
local macro_rules | `(#synth $f $k*) => return mkNullNode (← k.mapM λi => `(def $(mkIdent (.mkSimple s!"tw{(`PySem.Challenge.cw_groupcall_k44_one_order_in_a_list_holds ++ .mkSimple s!"{f.raw.getId}_{i.raw.toNat}").hash}")) := Nat))
namespace PySem.W.Fast
#synth heap 39 46 791
#synth tree 47 108 135 150 205 207 286 315 344 394 460 533 661 741 790
#synth view 39
#synth sts 49 109 136 151 206 208 287 316 345 395 461 534 745
#synth o 43 45 46 49 51 53 54 55 56 57 58 60 61 62 63 64 65 67 68 69 70 71 72 74 75 76 77 79 80 81 82 84 85 86 87 89 90 91 92 94 95 96 97 99 100 101 102 104 105 106 107 108 109 111 112 113 114 116 117 118 119 120 121 122 123 124 125 126 127 129 130 131 132 133 134 135 136 138 139 140 141 142 144 145 146 147 148 149 150 151 153 154 155 156 157 159 160 161 163 164 165 166 167 168 169 170 171 172 173 175 176 177 178 179 180 182 183 184 185 186 187 189 190 191 192 193 194 196 197 198 199 201 202 203 204 205 206 207 208 210 211 212 213 215 216 217 219 220 221 222 223 224 226 227 228 229 230 231 233 234 235 236 237 238 240 241 242 243 244 245 247 248 249 250 251 252 254 255 256 257 258 259 261 262 263 264 265 266 268 269 270 271 272 273 275 276 277 278 279 280 281 282 283 284 285 286 287 289 290 291 292 293 295 296 297 299 300 301 302 303 304 306 307 308 309 310 311 312 313 314 315 316 318 319 320 321 322 324 325 326 328 329 330 331 332 333 335 336 337 338 339 340 341 342 343 344 345 347 348 349 350 351 353 354 355 357 358 359 360 361 362 364 365 366 367 368 369 370 371 372 373 374 376 377 378 379 380 381 383 384 385 386 387 388 390 391 392 393 394 395 397 398 399 400 402 403 404 406 407 408 409 411 412 413 414 415 416 418 419 420 421 422 423 425 426 427 428 429 430 432 433 434 435 437 438 439 440 441 442 444 445 446 447 449 450 451 452 453 454 455 456 457 458 459 460 461 463 465 466 467 468 469 470 472 473 474 475 476 477 479 480 481 482 483 484 486 487 488 489 490 491 493 494 495 496 497 498 500 501 502 503 504 505 507 508 509 510 512 513 514 515 517 518 519 520 522 523 524 525 526 527 529 530 531 532 533 534 536 537 538 539 541 542 543 545 546 547 548 549 550 552 553 554 555 556 557 559 560 561 562 563 564 566 567 568 569 570 571 573 574 575 576 577 578 580 581 582 583 585 586 587 588 589 590 592 593 594 595 596 598 599 600 601 603 604 605 606 607 608 610 611 612 613 614 615 617 618 619 620 621 622 624 625 626 627 628 629 631 632 633 634 636 637 638 639 640 641 643 644 645 646 647 648 650 651 652 653 654 655 656 657 658 659 660 661 663 664 665 666 668 669 670 672 673 674 675 676 677 679 680 681 682 683 684 686 687 688 689 690 691 693 694 695 696 697 698 700 701 702 703 704 705 707 708 709 710 712 713 714 715 716 717 719 720 721 722 723 725 726 727 728 730 731 732 733 734 735 737 738 739 740 741 745 747 749 750 751 752 753 754 756 757 758 759 760 761 763 764 765 766 768 769 770 771 773 774 775 776 778 779 780 781 783 784 785 786 788 789 790
#synth env 41
def tw16257292030519295403:=Nat
end PySem.W.Fast
end
open PySem PySem.W PyProof.Rows
set_option maxRecDepth 100000 in
set_option maxHeartbeats 0 in
theorem PySem.Challenge.cw_groupcall_k44_one_order_in_a_list_holds : PySem.Challenge.rw_groupcall_k44_one_order_in_a_list.Holds := by
 w_on;o_law;k_head;(case hw=>w_witness2)
 k_fill
 refine K44.Xr (l:=PySem.Challenge.rw_groupcall_k44_one_order_in_a_list) rfl rfl (λw h Y=>PySem.W.kIn_of Y) ?F
 case F=>
  intro w mg fa h KX G hmg;refine' K44.UL KX G hmg ?h0 ?h1 ?h2 ?h3 ?h4 ?h5 ?h6 ?h7 ?h8 ?h9 ?h10 ?h11 ?h12 ?h13 ?h14 ?h15 ?h16 ?h17 ?h18 ?h19 ?h20 ?h21 ?h22 ?h23 ?h24 ?h25 ?h26 ?h27 ?h28 ?h29 ?h30 ?h31 ?h32 ?h33 ?h34 ?h35 ?h36 ?h37 ?h38 ?h39 ?h40 ?h41 ?h42 ?h43 ?h44 ?h45 ?h46 ?h47 ?h48 ?h49 ?h50 ?h51 ?h52 ?h53 ?h54 ?h55 ?h56 ?h57 ?h58 ?h59 ?h60 ?h61 ?h62 ?h63 ?h64 ?h65 ?h66 ?h67 ?h68 ?h69 ?h70 ?h71 ?h72 ?h73 ?h74 ?h75 ?h76 ?h77 ?h78 ?h79 ?h80 ?h81 ?h82 ?h83 ?h84 ?h85 ?h86 ?h87 ?h88 ?h89 ?h90 ?h91 ?h92 ?h93 ?h94 ?h95 ?h96 ?h97 ?h98 ?h99 ?h100 ?h101 ?h102 ?h103 ?h104 ?h105 ?h106 ?h107 ?h108 ?h109 ?h110 ?h111 ?h112 ?h113 ?h114 ?h115 ?h116 ?h117 ?h118 ?h119 ?h120 ?h121 ?h122 ?h123 ?h124 ?h125 ?h126 ?h127 ?h128 ?h129 ?h130 ?h131 ?h132 ?h133 ?h134 ?h135 ?h136 ?h137 ?h138 ?h139 ?h140 ?h141 ?h142 ?h143 ?h144 ?h145 ?h146 ?h147 ?h148 ?h149 ?h150 ?h151 ?h152 ?h153 ?h154 ?h155 ?h156 ?h157 ?h158 ?h159 ?h160 ?h161 ?h162 ?h163 ?h164 ?h165 ?h166 ?h167 ?h168 ?h169 ?h170 ?h171 ?h172 ?h173 ?h174 ?h175 ?h176 ?h177 ?h178 ?h179 ?h180 ?h181 ?h182 ?h183 ?h184 ?h185 ?h186 ?h187 ?h188 ?h189 ?h190 ?h191 ?h192 ?h193 ?h194 ?h195 ?h196
  (case h0|h1|h2|h3|h4|h5|h6|h7|h8|h9|h10|h11|h12|h13|h14|h15|h16|h17|h18|h19|h20|h21|h22|h23|h24|h25|h26|h27|h28|h29|h30|h31|h32|h33|h34|h35|h36|h37|h38|h39|h40|h41|h42=>show _=_;k_is)
  (case h43|h44|h45|h46|h47|h48|h49|h50|h51|h52|h53|h54|h55|h56|h57|h58=>first|k_is|rfl|decide)
  (case h59|h60|h61|h62|h63|h64|h65|h66|h67|h68|h69|h70|h71|h72|h73|h74|h75|h76|h77|h78|h79|h80|h81|h82|h83|h84|h85|h86|h87|h88|h89|h90|h91|h92|h93|h94|h95|h96|h97|h98|h99|h100|h101|h102=>constructor<;>k_is)
  (case h103=>first|k_is|rfl|decide)
  (case h104=>constructor<;>first|k_is|rfl)
  (case h105|h106|h107|h108|h109|h110|h111|h112|h113|h114|h115|h116|h117|h118|h119|h120|h121|h122|h123|h124|h125|h126|h127|h128|h129|h130|h131|h132|h133|h134|h135|h136|h137|h138|h139|h140|h141|h142|h143|h144|h145|h146|h147|h148|h149|h150|h151|h152|h153|h154|h155|h156|h157|h158|h159|h160|h161=>exact L2.Mo (by k_is) (by k_is) (by k_is))
  (case h162=>exact L2.O9 (by k_is) (by k_is) (by k_is))
  (case h163|h164|h165|h166|h167|h168|h169|h170|h171|h172|h173|h174=>exact L2.Mo (by k_is) (by k_is) (by k_is))
  (case h175=>first|k_is|rfl|decide)
  (case h176|h177|h178|h179|h180|h181=>constructor;(constructor<;>k_is);all_goals(show _=_;k_is))
  (case h182=>first|k_is|rfl|decide|kernel_rfl)
  (case h183=>rfl)
  (case h184|h185|h186|h187|h188=>first|k_is|rfl|decide)
  (case h189|h190=>rfl)
  (case h191=>first|k_is|rfl|decide|kernel_rfl)
  (case h192|h193=>first|k_is|rfl|decide)
  (case h194|h195=>first|k_is|rfl|decide|kernel_rfl)
  (case h196=>first|k_is|rfl|decide)
