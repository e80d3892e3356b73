import PyProof.Rows.All
import Wide.All
import OpenK.AllK
import Wide.FinOn
import Lean
import PyProof.EqAt
import PyProof.EqKinds
import PyProof.TupleCall
import PyProof.AttrMissHeap
import KE.KSortTup
import KE.KDictList
import KE.KNest
import KE.KNestM
import OpenK.KRaise
import KE.KIsAll
import KE.KMatchCls
import PyProof.ExcAttrAll.ValueError
import PyProof.Rows.Range3
import PyProof.ZipIter
import PyProof.Rows.FactsT2
import PyProof.Rows.ZipGen
import KE.KItemsList
import PyProof.TupleKey
import PySem.Challenge.RW_groupcall_k45_let_go
set_option Elab.async false
set_option linter.all false
set_option compiler.extract_closed false
set_option bootstrap.genMatcherCode false
set_option maxRecDepth 100000
set_option maxHeartbeats 16000000
open PySem.W renaming Frag→Yc,findIn→jJ,kia_one→aaO,emptyDict→aaZ,fnOf→aa4,KasT→abi,methodCall_KW→abp,instObj→abt,kas_rev→abz,keepIn→abK,callWith_K→abP,codeIn→adk,plainGet→adG,kdl_call→adL,hideAll→adU,plainGet_of→ad8,looks_clsIn→ad9,lookIn→aef,methodObj→aeJ,hasDictIn→aeM,set_plain→aeN,handedIn→ae8,kas_sort→afm,kat_cons→afn,takerIn→afC,kat_nil→afI,kat_yes→afJ,cellsFrom_some→afN,kitOne→af2,KatLex→agf,kat_go→agg,kat_lt→agh,hideAll_none→agr,kas_descPart→agH,mroIn→agM,hideAll_get→agT,callWith_K0→agU,of_hideAll→agZ,isFn→ag3,plainOver→ahm,specialIn→ahn,kitx_list→aho,kitx_dict→ahp,kas_tail3→ahv,kas_count→ahw,kas_place→ahx,InitBack→ahJ,kdl_dict→ahN,kcp_self→ahO,kas_desc→ahT,kat_kind→ahX,kas_item→ahY,kat_snds→ahZ,makesIn→aid,OpenLaw→aij,kas_asc→ais,kas_bin→ait,KatTups→aiu,kat_run→aiv,kas_ask→aiw,typeIn→aiD,KdlSrc→aiN,kat_no→aiO,WalkO→ai1,clsIn→ai5
open PySem renaming Value→Yd,Addr→Ye,wpAny_bind→Yf,Shared→Ym,Str→Yo,wpAny_pure→Yp,wpAny→Yq,model→Yt,sizeLine→YB,FuncData→YD,Heap→YT,starEach→YW,Program→YZ,Stmt→Y4,World→Y6,Expr→cT,Paired→fm,mainGlobals→ir,eval→pk,Obj→uc,wpAny_mono→xi,DictEntry→xl,Around→xw,codeAny→Rk,Builtin→aaa,IsTupleKey→aad,wpAny_setState_of→aaf,sysModules→aah,backTo→aal,cLine→aap,compareOp→aaq,boot_len→aat,wpAny_holding→aau,pyNext→aaL,sizeLine_eq→aaM,keywordEach→aaN,codeAny_call_builtin→aaS,wpAny_pyIter_list→aaY,mem_of_lookup→aa0,wpAny_Call_Name_kw→aa3,rawInt→aa9,intKind→abf,bootBuiltins→abh,attributeBase→abk,tupleKind→abo,backToKw→abv,wpAny_truthy_bool→abA,Pos→abE,plainId_quiet→abF,scanBound→abG,PyData→abJ,wpAny_call_entry→abL,tupleKind_room_in1→abQ,wpAny_setField_rec→abS,wpAny_passesOwn→abT,wpAny_newObj_type→abX,argsOk→ab4,SetTable→ab5,wpAny_askSetting→ab6,wpAny_setEntries_of→acb,wpAny_Call_method0_late→acf,wpAny_callSpecial?_slot→acg,Scope→aci,Result→ack,entryFor→acq,Env→acw,Meets→acz,wpAny_pyIter_slot→acC,wpAny_loadPart_at→acE,holding→acF,storedH→acG,call_meetsIn→acH,wpAny_seqItems→acI,isSubtype_type→acJ,wpAny_setField→acK,assignEach→acQ,binaryOp→acR,call_meets→acS,sliceBounds→acY,KeyKind→acZ,evalArgs_none→ac0,Tok→ac2,wpAny_execs_nil→ac3,wpAny_updateSeq→ac4,getMethod→ac6,pyIter→adt,wpAny_isOneOf_itemiter→adx,behindInMarks→adz,wpAny_standAt→adA,wpAny_attempt→adD,NameKind→adH,wpAny_forIn_list→adI,swapsWith→adM,standAt→adN,Keyword→adO,pickOrder→adP,plainObj_wpAny_Assign_Attribute→adT,letOwnedTupleGo→adV,wpAny_call→adX,wpAny_typeNameOfWhole_itemiter→ad5,Fin→aea,wpAny_isSubtype_exc→aed,callWith→aeg,recursionLimit→aeh,wpAny_tryCatch→aej,setNext→aek,wpAny_fieldsOf→ael,carriedByValue→aen,table→aep,excClassObj→aer,Within→aes,wpAny_letOwnedTupleGo_items→aew,Sem→aeI,foldedSetIterable→aeK,fits_of_scanBound→aeT,ofAClassStatement→aeV,atKey→aeW,Walks→aeY,valueAt→ae4,callerA→ae5,wpAny_eqBool_int→ae6,assign→ae7,merged→afa,wpAny_comprehension_free→aff,setAddHashed→afi,wpAny_isInstance→afj,wpAny_specialOf→afD,codeAny_builtin→afE,wpAny_ite_split→afG,subscripted→afO,richCompare→afP,wpAny_isTrue_Compare1→afZ,setAttr→af0,wpAny_loadPart→af1,BindsTo→af3,getItem→af5,plainId→af8,builtinLookup_eq_fast→aga,wpAny_newTuple→agd,wpAny_eqIsQuiet_tuple→agl,wpAny_isSame_ref_self→agm,entryOfKey→agq,bindArgs→agu,bindL→agv,bindC→agw,typeLookup→agx,wpAny_rule→agA,setEntries→agC,setField→agD,wpAny_pyIter_valiter→agF,wpAny_pyIter_keyiter→agJ,wpAny_newList→agP,wpAny_raiseNew_none→agW,wpAny_pyIter_tuple→ag2,seqItems?→ag5,wpAny_typeOf→ag8,ExcBaseFacts→ahc,wpAny_eqBool_tuple→ahe,newList→ahh,numAt→ahi,wpAny_assign_Name→ahl,wpAny_Call_method→ahq,slot_list_getitem→ahr,meets_dict_values→ahu,searchCouldBeSeen→ahy,wpAny_of_eq→ahC,wpAny_field→ahE,hashByValue→ahF,wpAny_execs_cons→ahG,wpAny_lookBehind→ahH,pastItsLine_dict→ahI,wpAny_Dict_empty→ahK,getAttr?→ahL,entryFor_of_tree→ahM,relayAll→ahQ,check_set_init_1→ahR,raiseNew→ahS,setRelay→ah1,Drawn→ah8,CmpOp→ah9,builtinsNs→aia,isTrue→aib,wpAny_Name→aic,wpAny_loadPart'→aih,typeOf→aii,closureFor→aik,setAdd→aio,codeAny_of_tree→aip,typeLookup_type→aiq,MeetsIn→aiF,wpAny_ite_true→aiG,setAddHashedIn→aiJ,entryFor_alias→aiK,firstArgMember→aiL,isSubtype_stop→aiM,refuseLoop_ref→aiP,cellsFrom→aiS,drawOrder→aiT,isSubtype→aiW,intBits_le_64→aiY,evalPart_none→aiZ,call_list_seq→ai0,setSearchFrom→ai7,Model→ai8,wants→ai9,GenState→aja,wpAny_nsSet1→ajb,seqIndex_neg→ajc,Slot→ajd,storeSet→aje,setNextDrawn→ajf,getAttr→ajA,operate→ajB,collect→ajC,ElemsOf→ajD,Spec→ajK
open List renaming length_map→Yg,mem_singleton→Yi,getElem?_eq_some_iff→Yj,getElem?_eq_getElem→Yk,mem_cons→Yn,mem_cons_of_mem→Yr,mem_cons_self→Ys,length_append→Yu,map_append→Yx,getElem?_map→Yy,size_toArray→Yz,mem_of_getElem?→YA,mem_map→YC,map_cons→YF,mem_append_right→YH,getD_eq_getElem?_getD→YJ,mem_append→YM,range→YR,getElem?_of_mem→YS,mem_append_left→YU,mem_map_of_mem→YV,take_length→YY,length_filter_le→Y0,length_singleton→Y1,filter_append→Y3,length_cons→Y5,mem_filter→cw,map_map→gf,length_range→oh,append_nil→sq,pairwise_iff_getElem→tq,length_take→xj,mem_range→xu,nodup_cons→BD,nodup_append→KW,not_mem_nil→aac,filter_cons→aak,toArray→aan,map_congr_left→aax,getElem?_set→aaB,length_eq_zero_iff→aaC,eq_nil_of_length_eq_zero→aaH,getElem?_append_right→aaT,getElem?_append_left→aa1,getElem_mem→aa5,pairwise_map→abb,append_assoc→abc,length_nil→abd,foldl_cons→abe,filterMap_cons→abg,getElem?_eq_none→abr,range_succ→abw,any_eq_true→abM,find?_cons→abV,lookup→abZ,length_drop→ab3,getElem_map→ab9,getElem_of_mem→aca,length_take_le→acd,map_eq_nil_iff→ace,any_cons→ach,mem_filterMap→acj,of_mem_zip→acm,pairwise_lt_range→acr,take_of_length_le→acv,take_append_of_le_length→acx,take_sublist→acy,mem_erase_of_ne→acU,mem_of_mem_take→acV,mem_of_mem_drop→acW,map_nil→ac9,pairwise_cons→adb,map_id'→adj,ext_getElem?→ads,length→adu,map_id→adv,getElem?_toArray→adQ,findSome?_append→adS,pairwise_append→ad1,toList_toArray→aeb,filter_sublist→aec,findSome?_cons→aee,dropLast_concat_getLast→aeo,zip_cons_cons→aev,find?_eq_none→aez,length_eraseIdx_of_lt→aeD,sum_cons→aeE,any_eq_false→aeL,foldl_append→aeU,getElem?_zip_eq_some→aeX,drop_eq_getElem_cons→ae1,mem_or_eq_of_mem_set→ae2,lookup_cons→afc,ext_getElem→afg,all_eq_true→afl,length_erase_of_mem→afo,nodup_range→afp,filter_cons_of_pos→afz,filter_cons_of_neg→afA,sum_append→afH,take_left'→afL,getElem?_set_self→afM,length_pos_of_mem→afW,find?_cons_of_pos→afX,drop_of_length_le→afY,length_replicate→af4,nodup_nil→af6,take_succ→age,filterMap_append→agj,perm_append_comm→agk,pairwise_and_iff→ago,getElem?_set_ne→agt,perm_cons_erase→agE,Nodup→agK,zip_map'→agS,map_filterMap→ag7,contains_cons→aha,getElem?_take→ahf,mem_replicate→ahg,reverse_cons→aht,find?_append→ahz,map_snd_zip→ahW,map→ah3,mem_reverse→ah5,find?_some→aiy,length_zip→aiA,length_set→aiC,replicate→aiE,drop_zero→aiR,sum_nil→aji,Perm→ajN
open PySem.Heap renaming get?_push_of_some→Yh,get?_push_size→Yv,lt_size→Yw,get?_update_other→Gr,SameBut→aab,get?_update_self→aaz,size_push→aaU,ExtBut→adw,get?_none_of_le→ags,get?_update_ne→agX,FlyingW→ag9,get?_push_at→ahs
open Nat renaming le_refl→Yl,ne_of_lt→YL,lt_of_lt_of_le→Y2,lt_irrefl→Y8,zero_le→Y9,le_of_lt→rl,le_trans→xy,le_succ→aaP,lt_succ_self→aa2,lt_succ_of_lt→aba,succ_le_succ→abm,ne_of_gt→abu,lt_or_ge→abx,succ_pos→ab7,lt_of_le_of_lt→aco,le_succ_of_le→acD,add_le_add_left→ac1,mod_lt→adn,le_of_eq→adW,zero_add→ad0,not_lt_zero→ad3,sub_self→ad4,lt_or_gt_of_ne→aey,lt_trichotomy→aeR,not_lt→aeZ,lt_trans→ae9,lt_succ_iff_lt_or_eq→afd,zero_testBit→afe,lt_of_succ_lt_succ→afV,pow_le_pow_right→agy,add_right_cancel→agL,testBit_two_pow→agV,succ_lt_succ→ah4,min_eq_right→ah6,testBit_and→ail,strongRecOn→aix,min_eq_left→aiB,pow_succ→ajh,add_zero→ajj,sub_zero→ajn,le_total→ajo
open Array renaming getD_eq_getD_getElem?→YE,getElem?_eq_getElem→YI,length_toList→YO,getElem?_toList→vc,getElem?_eq_none→aaG,mem_toList_iff→abY,toList_push→acB,getElem_toList→acT,perm_iff_toList_perm→aeH,replicate→afK,append_assoc→ag0,toList→ag1,append_empty→ahb,forIn_toList→ahd,toList_inj→ahV,size_map→aiQ,getD→ajM
open PySem.Value renaming ref→YG,none→aao,type→aaD,int→abn,bool→acP,str→afB,isInt_shape→ahk,float→ahB,isStrOf→aiX,isInt→ajs,bytes→ajt
open Option.some renaming inj→YK
open Sum renaming inl→YN,inr→ae3
open Int renaming toNat_natCast→YQ,emod_nonneg→aae,emod_lt_of_pos→aag,eq_ofNat_of_zero_le→aaR,le_refl→aaW,toNat→abR,le_trans→ab8,mul_le_mul_of_nonneg_right→ad6,natCast_nonneg→aet,zero_add→afq,ne_of_gt→afr,ne_of_lt→afs,one_mul→ahD,lt_irrefl→ai4,le_of_lt→ajg
open Bool renaming false_ne_true→YX,false_eq_true→nh,eq_false_iff→abD,eq_iff_iff→abU,false_and→ab0,true_and→adB,not_true→adF,and_eq_true→adJ,and_false→aei,false_or→aeB,not_false→agn,or_eq_false_iff→agz,or_false→agO,or_eq_true→aim,or_true→ajl
open PySem.Paired renaming length→Y7,snoc→ajv
open PySem.SetTable renaming below→cb,bits→xp,sizeAbove→aar,turns→aas,runEnd→aav,Probe→ab1,insertAt→acA,grown→adm,insertAt_perm→ady,leap→adE,advance→adK,layClean→aeS,relaid→afF,laid→agQ,sameMemory→agY,slot→ai2,fits→ai3,fill→ai6,has→ajm
open List.cons renaming inj→mr
open PySem.Shared renaming TypeIs→GV
open PyProof.Rows renaming IntsAre→RW,boot_list→aaX,boot_sorted→aa7,boot_tuple→abI,envOfC→acn,firstMet→acs,boot_dict→acu,boot_min→acL,boot_isinstance→acM,callWith_type1→acN,AllBare→acX,kws_cons→adR,callWith_kw→ad7,listUpdate_at→aeG,subscriptTail_builtinR→afQ,kws_nil→agG,tuples'→agI,subscriptTail→agN,firstMet_succ→agR,args_sorted1→ag6,failedOf→ahU,lt_int→ah7,callWith_builtin1→aie,Subscript_→aif,entry_list_sort→ain,get?_update_seq→air,slot_list_sort→aiH,args_list_sort→aiI,listItems_at→ajk,intBits_le→ajr,bitAnd_pp→ajx,boot_bool→ajz,boot_all→ajF,boot_max→ajG,boot_int→ajH,boot_abs→ajI,boot_sum→ajJ
open PySem.PassesOwn renaming never→aai
open PySem.NameKind renaming free→aaj,cell→abl
open PySem.Str renaming ofString→aam
open False renaming elim→aaw
open PySem.Heap.SameBut renaming update→aay
open Sum.inl renaming inj→aaA
open PyProof.Rows.F renaming plain_set_update_loop→aaE,entry_set_update_loop→aa6
open Option renaming map_eq_some_iff→aaF,map_some→abW,isSome_iff_exists→ac8,none_or→adp,isSome_map→aeP,getD_none→afb,getD_some→afh,map_map→af9,none→ajw,some→Ya,none→Yb
open PySem.Builtin.Int renaming intBits→aaI
open PySem.Obj renaming mapSeq→aaJ,mapFields→adC
open PySem.PyData renaming canLayAll0→aaK,depthAll→ad2,list→aeq,canLay0→agp
open PySem.F renaming plainAttrs_dict→aaQ,slot_dict_get→abq,slot_dict_values→aby,plainAttrs_list→abH,entry_dict_get→acp,called_set→adf,type_dict_values→adg,slot_list_append→adh,type_list_append→adi,slot_dict_items→adq,sub_list_frozenset→aeC,args_dict_values_1→aeF,entry_dict_values→ae0,args_dict_get_2→aft,args_dict_get_3→afu,type_dict_items→afv,plain_list_iadd→afw,slot_list_clear→afy,entry_min_loop→afR,plain_min_loop→afS,typeCall_set_1→afT,entry_set_init→afU,type_dict_get→af7,slot_set_iter→agc,sub_list_set→agB
open PySem.Calls renaming callWith_builtin→aaV,spliced_cons→ac7,evalArgs_plain→adY,Name_function_global→aeA,spliced_nil→aeO
open PySem.Builtin.Dict_items renaming ownsTuple→aa8,ownedTupleIsFree→ahj,pairFromOwner→ah0
open True renaming intro→abj
open PySem.SetTable.below renaming go→abB
open PySem.SetTable.probe renaming go→abC
open PySem.PyData.canLayAll0 renaming eq_2→abN
open PySem.SetTable.layClean renaming free→abO
open PySem.Builtin.Builtins renaming bindParams→acO
open Classical renaming byContradiction→ac5
open PySem.Builtin.List renaming listTooLong→ada,listSameRef→afk,listUpdate→afx,listLengthHint→aiU,listExtendWith→aiV,listItems→ajy
open Nat.succ renaming inj→ade
open PySem.Walks renaming list→adl
open List.Perm renaming refl→ado,swap→agb,of_eq→aiz,eq_of_pairwise→ajp,append_left→ajE,trans→ajP,cons→ajQ
open ForInStep renaming yield→adZ
open Prod renaming ext→aem,fst→ahP
open PySem.W.Looks renaming here→aeu,of_pure→agi
open PySem.Code renaming quiet_builtin→aex,isFrame→ag4,frames→aju
open List.Pairwise renaming nil→aeQ,map→ahA,filterMap→ajq,filter→ajL,imp→ajO
section
local macro_rules|`(tactic|omega)=>`(tactic|first|lia|omega +splitNatSub)
namespace L2
open PySem PySem.Spec PyProof.Rows
variable{us:List Yd}{a b it dx C:Ye}{u:Yd}{h h':YT}{items:Array Yd}{P:YZ}{x name m Zb:Yo}{e c tg l Zf:cT}{Za:List (Ye×uc)}{s s':Ym}{g':Array aja}{t' i j k n:Nat}{d':ah8}{ch fp:List Ye}{M:ai8}{E Q:Yd->Ym->Prop}{pos Zq p tpos Ze:abE}{op:ah9}{es:List cT}{Zr:List Y4}{f:Yd->Yd->aeI Yd}{mA:Yo->Option Yd}{pl:aeI Bool}{kw:List (Yo×Yd)}{fd:YD}{ps:List Yo}{scope:aci}{T:String}
abbrev bJ:=Sum Int Yo
variable{xs:List (List bJ×Ye×Yd)}
noncomputable def wF:bJ->Yd->Bool
 | .inl k,v=>ajs k v
 | .inr x,v=>aiX x v
noncomputable def XR(w:Y6):bJ->Int
 | .inl k=>hashInt k
 | .inr x=>hashStr w x
theorem cH:∀{k:bJ} {v:Yd},wF k v=true->(∃i t,k=YN i/\v=abn i t)∨(∃x t,k=ae3 x/\v=afB x t)
 | .inl i,v,h=>by
  obtain⟨t,e⟩:=ahk (k:=i) (v:=v) h;exact .inl ⟨i,t,rfl,e⟩
 | .inr x,v,h=>by
  obtain⟨t,e⟩:=Value.isStrOf_shape (x:=x) (v:=v) h;exact .inr ⟨x,t,rfl,e⟩
theorem Kh(i:Int)(t:ac2):wF (.inl i) (.int i t)=true:=by simp[wF,ajs]
theorem KO(x:Yo)(t:ac2):wF (.inr x) (.str x t)=true:=by simp[wF,aiX]
theorem Sk(a b:Int):decide ((YN a:bJ)=YN b)=(a==b):=by
 by_cases e:a=b
 ·subst e;simp
 ·have h:¬ (YN a:bJ)=YN b:=λq=>e (aaA q);rw[decide_eq_false h];exact(beq_eq_false_iff_ne.mpr e).symm
theorem U9(a b:Yo):decide ((ae3 a:bJ)=ae3 b)=decide (a=b):=by
 by_cases e:a=b
 ·subst e;simp
 ·have h:¬ (ae3 a:bJ)=ae3 b:=λq=>e (Sum.inr.inj q);rw[decide_eq_false h,decide_eq_false e]
theorem Tr(a:Int)(b:Yo):decide ((YN a:bJ)=ae3 b)=false:=decide_eq_false (λq=>nomatch q)
theorem UK(a:Yo)(b:Int):decide ((ae3 a:bJ)=YN b)=false:=decide_eq_false (λq=>nomatch q)
noncomputable def aY(prog:YZ)(w:Y6):acZ prog w bJ where
 is:=wF
 hash:=XR w
 inj:=λv a b ha d=>by
  rcases cH ha with⟨i,t,rfl,rfl⟩|⟨x,t,rfl,rfl⟩
  ·rcases cH d with⟨j,u,rfl,e⟩|⟨y,u,rfl,e⟩
   ·injection e with e1 _;rw[e1]
   ·exact nomatch e
  ·rcases cH d with⟨j,u,rfl,e⟩|⟨y,u,rfl,e⟩
   ·exact nomatch e
   ·injection e with e1 _;rw[e1]
 byValue:=λk v h=>by
  rcases cH h with⟨i,t,rfl,rfl⟩|⟨x,t,rfl,rfl⟩<;>rfl
 pyHash:=λc h=>by
  rcases cH c with⟨i,t,rfl,rfl⟩|⟨x,t,rfl,rfl⟩
  ·exact wpAny_pyHash_int h
  ·exact wpAny_pyHash_str h
 eqBool:=λf c h=>by
  rcases cH f with⟨i,t,rfl,rfl⟩|⟨x,t,rfl,rfl⟩
  ·rcases cH c with⟨j,u,rfl,rfl⟩|⟨y,u,rfl,rfl⟩
   ·rw[Sk]at h;exact ae6 h
   ·rw[Tr]at h;exact SeqAt.EqAt.int_str i t y u _ _ _ _ h
  ·rcases cH c with⟨j,u,rfl,rfl⟩|⟨y,u,rfl,rfl⟩
   ·rw[UK]at h;exact SeqAt.EqAt.str_int x t j u _ _ _ _ h
   ·rw[U9]at h;exact wpAny_eqBool_str h
 «strs»:=λk x t v h=>by
  rcases cH h with⟨i,u,rfl,e⟩|⟨y,u,rfl,e⟩
  ·exact nomatch e
  ·injection e with e1 _;subst e1;cases v<;>rfl
theorem p7(prog:YZ)(w:Y6)(i:Int)(t:ac2):(aY prog w).is (.inl i) (.int i t)=true:=Kh i t
theorem EG(prog:YZ)(w:Y6)(x:Yo)(t:ac2):(aY prog w).is (.inr x) (.str x t)=true:=KO x t
inductive V where
 |non|bl (b:Bool)|int (i:Int)|str (x:Yo)|byt (b:Array UInt8)|flt (b:UInt64)|ref (a:Ye)|ty (n:String)
 deriving DecidableEq
variable{v y d:V}{vs:List V}{kvs:List (List bJ×V)}
def RelV:V->Yd->Prop
 | .non,u=>u=aao
 | .bl b,u=>u=acP b
 | .int i,u=>∃t,u=abn i t
 | .str x,u=>∃t,u=afB x t
 | .byt b,u=>∃t,u=ajt b t
 | .flt b,u=>∃t,u=ahB b t
 | .ref a,u=>u=YG a
 | .ty n,u=>u=aaD n
abbrev Vals:List V->List Yd->Prop:=fm RelV
theorem Vals.length{xs:List V}(r:Vals xs us):xs.length=us.length:=Y7 r
theorem Vals.get:∀{xs:List V} {us:List Yd} {i:Nat} {x:V},Vals xs us->xs[i]?=Ya x->∃u,us[i]?=Ya u/\RelV x u:=by
 intro a b i x w
 induction w generalizing i with
 |nil=>exact λe=>by simp at e
 |cons r _ ih=>
  intro e;cases i with
  |zero=>simp at e;subst e;exact⟨_,rfl,r⟩
  |succ i=>
   obtain⟨p,h1,h2⟩:=ih (i:=i) (by simpa using e);exact⟨p,by simpa using h1,h2⟩
theorem Vals.append:∀{xs ys:List V} {us e:List Yd},Vals xs us->Vals ys e->Vals (xs++ys) (us++e):=by
 intro a b c d w h
 induction w with
 |nil=>exact h
 |cons r _ ih=>exact .cons r ih
theorem Vals.take:∀{xs:List V} {us:List Yd} (n:Nat),Vals xs us->Vals (xs.take n) (us.take n)
 |_,_,0,_=>.nil
 |_,_,_+ 1,.nil=>.nil
 |_,_,n+ 1,.cons r t=>.cons r (Vals.take n t)
theorem Vals.drop:∀{xs:List V} {us:List Yd} (n:Nat),Vals xs us->Vals (xs.drop n) (us.drop n)
 |_,_,0,r=>r
 |_,_,_+ 1,.nil=>.nil
 |_,_,n+ 1,.cons _ t=>Vals.drop n t
def kP:Option V->Option Yd->Prop
 |some v,Ya u=>RelV v u
 |none,Yb=>True
 |_,_=>False
def KV{κ:Type}:List (κ×V)->List (κ×Yd)->Prop:=fm fun(p:κ×V) (q:κ×Yd)=>p.1=q.1/\RelV p.2 q.2
noncomputable def kV:bJ->V
 | .inl i=>.int i
 | .inr x=>.str x
inductive HO where
 |lst (xs:List V)
 |tup (xs:List V)
 |dK (kvs:List (bJ×V))|dT (kvs:List (List bJ×V))
 |set (S:Int->Bool) (n:Nat)
 |ins (C dx:Ye) (fs:List (Yo×V))
 |own (x:Ye)
 |xd (fs:List (Yo×V))
 |met (f x:Ye)
 |rng (lo hi:Int)
 |frz (o:uc) (u:HO)
 |tbl (ps:Array Yd)
 |ext (φ:YT->Prop)
variable{o:HO}
abbrev Hp:=Ye->Option HO
variable{H H':Hp}{R:V->V->Hp->Prop}
noncomputable def upd(H:Hp)(a:Ye)(o:HO):Hp:=λb=>if b=a then Ya o else H b
theorem ai:upd H a o a=Ya o:=by unfold upd;rw[if_pos rfl]
theorem ak(h:b≠a):upd H a o b=H b:=by unfold upd;rw[if_neg h]
theorem Ru{u:HO}:upd (upd H a o) a u=upd H a u:=by
 funext b;unfold upd;split<;>rfl
theorem bU{u:HO}(h:H a=Ya o)(h':H b=Ya u)(d:o≠u):a≠b:=by
 intro e;subst e;rw[h]at h';exact d (YK h')
theorem ax(h:H a=Ya o)(h':H b=Yb):a≠b:=by
 intro e;subst e;rw[h]at h';cases h'
def ox(h:YT)(a:Ye)(items:Array Yd):Prop:=∃o,h.get? a=Ya o/\o.cls=.type "tuple"/\∃n,o.data=.seq items n/\o.dict=Yb/\o.slots=#[]
theorem ox.tup(x:ox h a items):IsTup h a items:=let ⟨o,e,c,n,d,_⟩:=x;⟨o,e,c,n,d⟩
theorem ox.lt(x:ox h a items):a<h.objs.size:=x.tup.lt
theorem ox.new(h:YT)(items:Array Yd):ox (h.push {cls:=.type "tuple",data:=.seq items}) h.objs.size items:=⟨_,Yv _ rfl,rfl,_,rfl,rfl,rfl⟩
section
variable(P:YZ)(w:Y6)
def cg(H:Hp)(h:YT)(a:Ye):HO->Prop
 | .lst xs=>xs.length<=YB/\∃(b:List Yd) (n:Nat),Vals xs b/\h.get? a=Ya {cls:=.type "list",data:=.seq b.toArray n}
 | .tup xs=>xs.length<=YB/\∃b:List Yd,Vals xs b/\ox h a b.toArray
 | .dK kvs=>kvs.length<=YB/\(a==aah)=false/\∃d,KV kvs d/\h.DictOf (aY P w) a d
 | .dT kvs=>kvs.length<=YB/\(a==aah)=false/\∃xs:List (List bJ×Ye×Yd),
   fm (fun(p:List bJ×V) (q:List bJ×Ye×Yd)=>p.1=q.1/\H q.2.1=Ya (.tup (p.1.map kV))/\RelV p.2 q.2.2) kvs xs/\
   ∃o e g,h.get? a=Ya o/\o.ExactDict/\o.data=.dict e g/\e.toList=xs.map (agq (abo (aY P w)))/\(xs.map (·.1)).Nodup
 | .set S n=>h.SetOf (abf P w) a S n
 | .ins C dx fs=>H dx=Ya (.own a)/\fs.length<=1000/\dx≠a/\h.get? a=Ya (abt C dx)/\
   ∃c,h.Ns1 dx c/\(∀f,kP (fs.lookup f) (c f))/\aes c (fs.map (·.1))
 | .own _=>∃o,h.get? a=Ya o
 | .xd fs=>∃c,h.Ns1 a c/\∀f,kP (fs.lookup f) (c f)
 | .rng lo hi=>∃t u v,h.get? a=Ya {cls:=.type "range",data:=.fields #[.int lo t,.int hi u,.int 1 v]}
 | .frz o u=>h.get? a=Ya o/\cg H h a u
 | .tbl ps=>h.get? a=Ya {cls:=.none,data:=.fields ps}
 | .met f x=>h.get? a=Ya (aeJ (.ref f) (.ref x))
 | .ext φ=>φ h/\(∃o,h.get? a=Ya o)/\∀h1 h2:YT,φ h1->(∀o,h1.get? a=Ya o->h2.get? a=Ya o)->φ h2
def mE(H:Hp)(h:YT):Prop:=∀a o,H a=Ya o->cg P w H h a o
end
section
variable{w:Y6}
theorem cg.lt(x:cg P w H h a o):a<h.objs.size:=by
 cases o with
 |lst xs=>obtain⟨_,_,_,_,e⟩:=x;exact Yw e
 |tup xs=>obtain⟨_,_,_,p⟩:=x;exact p.lt
 |dK kvs=>obtain⟨_,_,_,_,o,_,_,e,_⟩:=x;exact Yw e
 |dT kvs=>obtain⟨_,_,_,_,o,_,_,e,_⟩:=x;exact Yw e
 |set S n=>obtain⟨o,_,_,_,e,_⟩:=x;exact Yw e
 |ins C dx fs=>obtain⟨_,_,_,e,_⟩:=x;exact Yw e
 |own y=>obtain⟨_,e⟩:=x;exact Yw e
 |xd fs=>obtain⟨_,⟨_,_,_,e,_⟩,_⟩:=x;exact Yw e
 |rng lo hi=>obtain⟨_,_,_,e⟩:=x;exact Yw e
 |frz ob u=>obtain⟨e,_⟩:=x;exact Yw e
 |tbl ps=>exact Yw (show h.get? a=Ya _ from x)
 |met f y=>exact Yw (show h.get? a=Ya _ from x)
 |ext φ=>obtain⟨_,⟨_,e⟩,_⟩:=x;exact Yw e
theorem fm.mapP{α β:Type}{F G:α->β->Prop}:∀{l₁:List α} {c:List β},fm F l₁ c->(∀a b,F a b->G a b)->fm G l₁ c:=by
 intro a b w f
 induction w with
 |nil=>exact .nil
 |cons r _ ih=>exact .cons (f _ _ r) ih
theorem cg.stay(x:cg P w H h a o)(k:∀b u,(b=a∨H b=Ya (.own a))->h.get? b=Ya u->h'.get? b=Ya u)
  (ho:∀b,H b=Ya (.own a)->H' b=Ya (.own a)) (m:∀b xs,H b=Ya (.tup xs)->H' b=Ya (.tup xs)):cg P w H' h' a o:=by
 induction o with
 |lst xs=>obtain⟨z,j,n,r,e⟩:=x;exact⟨z,j,n,r,k _ _ (.inl rfl) e⟩
 |tup xs=>obtain⟨z,j,r,ob,e,c⟩:=x;exact⟨z,j,r,ob,k _ _ (.inl rfl) e,c⟩
 |dK kvs=>obtain⟨z,y,s,r,ob,g,i,e,c⟩:=x;exact⟨z,y,s,r,ob,g,i,k _ _ (.inl rfl) e,c⟩
 |dT kvs=>
  obtain⟨z,y,xs,r,ob,g,i,e,c⟩:=x;exact⟨z,y,xs,fm.mapP r λp q z=>⟨z.1,m _ _ z.2.1,z.2.2⟩,ob,g,i,k _ _ (.inl rfl) e,c⟩
 |set S n=>obtain⟨ob,g,i,t,e,c⟩:=x;exact⟨ob,g,i,t,k _ _ (.inl rfl) e,c⟩
 |ins C dx fs=>
  obtain⟨d,z,ne,e,l,⟨od,g,i,A,c⟩,r⟩:=x;exact⟨ho _ d,z,ne,k _ _ (.inl rfl) e,l,⟨od,g,i,k _ _ (.inr d) A,c⟩,r⟩
 |own y=>obtain⟨ob,e⟩:=x;exact⟨ob,k _ _ (.inl rfl) e⟩
 |xd fs=>obtain⟨l,⟨od,g,i,e,c⟩,r⟩:=x;exact⟨l,⟨od,g,i,k _ _ (.inl rfl) e,c⟩,r⟩
 |rng lo hi=>obtain⟨t,u,v,e⟩:=x;exact⟨t,u,v,k _ _ (.inl rfl) e⟩
 |frz ob u ih=>obtain⟨e,q⟩:=x;exact⟨k _ _ (.inl rfl) e,ih q⟩
 |tbl ps=>
  have e:h.get? a=Ya {cls:=.none,data:=.fields ps}:=x;show h'.get? a=Ya {cls:=.none,data:=.fields ps};exact k a _ (.inl rfl) e
 |met f y=>
  have e:h.get? a=Ya (aeJ (.ref f) (.ref y)):=x;show h'.get? a=Ya (aeJ (.ref f) (.ref y));exact k a _ (.inl rfl) e
 |ext φ=>obtain⟨p,⟨o,e⟩,st⟩:=x;exact⟨st _ _ p λo q=>k _ _ (.inl rfl) q,⟨o,k _ _ (.inl rfl) e⟩,st⟩
theorem mE.lt(x:mE P w H h)(e:H a=Ya o):a<h.objs.size:=(x a o e).lt
theorem mE.fresh(x:mE P w H h)(e:h.objs.size<=a):H a=none:=by
 cases q:H a with
 |none=>rfl
 |some u=>exact absurd (Y2 (x.lt q) e) (Y8 _)
theorem mE.kept(x:mE P w H h)(k:∀b u,h.get? b=Ya u->h'.get? b=Ya u):mE P w H h':=λa o e=>
 (x a o e).stay (λb u _ q=>k b u q) (λ_ q=>q) λ_ _ q=>q
theorem mE.laid(x:mE P w H h)(k:∀b u,h.get? b=Ya u->h'.get? b=Ya u)(hp:h.objs.size<=a)(new:cg P w (upd H a o) h' a o):mE P w (upd H a o) h':=λb u e=>by
 have hn:=x.fresh hp;by_cases d:b=a
 ·subst d;rw[ai]at e;cases e;exact new
 ·rw[ak d]at e;exact(x b u e).stay (λc v _ q=>k c v q) (λc q=>by rw[ak (ax q hn)];exact q) λc f q=>by rw[ak (ax q hn)];exact q
end
def Rd(H:Hp)(a:Ye)(u:HO):Prop:=H a=Ya u∨∃o,H a=Ya (.frz o u)
theorem Rd.ok{w:Y6}{u:HO}(r:Rd H a u)(x:mE P w H h):cg P w H h a u:=by
 rcases r with r|⟨o,r⟩
 ·exact x a u r
 ·obtain⟨_,q⟩:=x a _ r;exact q
def VW:Option HO->Prop
 |some (.lst _)=>True
 |some (.dK _)=>True
 |some (.dT _)=>True
 |some (.set _ _)=>True
 |some (.ins _ _ _)=>True
 |some (.ext _)=>True
 |_=>False
section
variable{w:Y6}{x e:Ye}{o':HO}
theorem mE.write(ok:mE P w H h)(mu:VW (H x))(m:e=x∨H e=Ya (.own x))(k:∀b u,b≠e->h.get? b=Ya u->h'.get? b=Ya u)(l:∃u,h'.get? e=Ya u)
  (new:cg P w (upd H x o') h' x o'):mE P w (upd H x o') h':=λb u q=>by
 have d:∀c y,H c=Ya (.own y)->c≠x:=λc y r z=>by subst z;rw[r]at mu;exact mu
 have f:∀c g,H c=Ya (.tup g)->c≠x:=λc g r z=>by subst z;rw[r]at mu;exact mu
 by_cases i:b=x
 ·subst i;rw[ai]at q;cases q;exact new
 ·rw[ak i]at q;by_cases a:b=e
  ·have n:H b=Ya (.own x):=by
    rcases m with z|z
    ·exact absurd (a.trans z) i
    ·rw[a];exact z
   rw[q]at n;cases n;obtain⟨v,o⟩:=l;exact⟨v,by rw[a];exact o⟩
  ·refine(ok b u q).stay (λc v j r=>k c v ?_ r) (λc r=>by rw[ak (d c b r)];exact r) λc g r=>by rw[ak (f c g r)];exact r
   rcases j with rfl|j
   ·exact a
   ·rintro rfl;rcases m with z|z
    ·exact d c b j z
    ·rw[j]at z;cases z;exact i rfl
end
structure Un(fs ex:List Ye)(H H':Hp)(h h':YT):Prop where
 keep:∀b o,h.get? b=Ya o->H b=Yb->b∉fs->b∉ex->h'.get? b=Ya o
 slot:∀b o,h.get? b=Ya o->H b=Yb->b∈fs->b∉ex->∃sl,h'.get? b=Ya {o with slots:=sl}
 free:∀b o,h.get? b=Ya o->H b=Yb->b∉ex->H' b=Yb
 there:∀b o,h.get? b=Ya o->b∉ex->∃o',h'.get? b=Ya o'
 tups:∀b xs,H b=Ya (.tup xs)->H' b=Ya (.tup xs)
 frzs:∀b o u,H b=Ya (.frz o u)->H' b=Ya (.frz o u)
 tbls:∀b ps,H b=Ya (.tbl ps)->∃more,H' b=Ya (.tbl (ps++more))
section
variable{fs fs' ex ex':List Ye}{H1 H2:Hp}{h1 h2:YT}{x e:Ye}
theorem Un.any(u:Un fs ex H H1 h h1){ob:uc}(q:h.get? b=Ya ob)(n:H b=Yb)(a:b∉ex):∃d,h1.get? b=Ya {ob with slots:=d}:=by
 by_cases c:b∈fs
 ·exact u.slot b ob q n c a
 ·exact⟨ob.slots,u.keep b ob q n c a⟩
theorem Un.kept(k:∀b u,h.get? b=Ya u->h'.get? b=Ya u):Un fs ex H H h h':=
 ⟨λb ob q _ _ _=>k b ob q,λb ob q _ _ _=>⟨ob.slots,k b ob q⟩,λ_ _ _ n _=>n,λb ob q _=>⟨ob,k b ob q⟩,λ_ _ q=>q,λ_ _ _ q=>q,λ_ ps q=>⟨#[],by rw[q];simp⟩⟩
theorem Un.refl:Un fs ex H H h h:=Un.kept λ_ _ q=>q
theorem Un.laid(k:∀b u,h.get? b=Ya u->h'.get? b=Ya u)(hp:h.objs.size<=a)(hn:H a=Yb):Un fs ex H (upd H a o) h h' where
 keep:=λb u q _ _ _=>k b u q
 slot:=λb u q _ _ _=>⟨u.slots,k b u q⟩
 free:=λb u q n _=>by rw[ak (YL (Y2 (Yw q) hp))];exact n
 there:=λb u q _=>⟨u,k b u q⟩
 tups:=λb c q=>by rw[ak (ax q hn)];exact q
 frzs:=λb u c q=>by rw[ak (ax q hn)];exact q
 tbls:=λb ps q=>⟨#[],by rw[ak (ax q hn),q];simp⟩
theorem Un.write(mu:VW (H x))(g:e=x∨H e=Ya (.own x))(k:∀b u,b≠e->h.get? b=Ya u->h'.get? b=Ya u)(c:∃u,h'.get? e=Ya u):Un fs ex H (upd H x o) h h':=by
 have d:∀b,H b=Yb->b≠x:=λb n z=>by subst z;rw[n]at mu;exact mu
 have f:∀b,H b=Yb->b≠e:=λb n z=>by
  subst z;rcases g with r|r
  ·exact d b n r
  ·rw[n]at r;cases r
 have hm:∀b u,H b=Ya u->¬ VW (Ya u)->b≠x:=λb u q i z=>by subst z;rw[q]at mu;exact i mu
 refine⟨λb u q n _ _=>k b u (f b n) q,λb u q n _ _=>⟨u.slots,k b u (f b n) q⟩,λb u q n _=>by rw[ak (d b n)];exact n,λb u q _=>?_,
  λb j q=>by rw[ak (hm b _ q λz=>z)];exact q,λb u j q=>by rw[ak (hm b _ q λz=>z)];exact q,λb ps q=>⟨#[],by rw[ak (hm b _ q λz=>z),q];simp⟩⟩
 by_cases a:b=e
 ·subst a;exact c
 ·exact⟨u,k b u a q⟩
end
noncomputable def Xn(h:YT)(H:Hp):List Ye:=(YR h.objs.size).filter λa=>(H a).isSome
noncomputable def Cv(h:YT)(H:Hp):YT:=adU h (Xn h H)
theorem KH(h:YT)(H:Hp):(Cv h H).objs.size=h.objs.size:=PySem.W.hideAll_size _ _
theorem Ms{o:uc}(e:h.get? b=Ya o)(n:H b=Yb):(Cv h H).get? b=Ya o:=
 agT _ e λhm=>by
  have q:(H b).isSome=true:=(cw.mp hm).2;rw[n]at q;simp at q
theorem Qq{o:uc}(e:(Cv h H).get? b=Ya o):h.get? b=Ya o/\H b=none:=by
 have a:h.get? b=Ya o:=agZ (Xn h H) e;refine⟨a,?_⟩;cases q:H b with
 |none=>rfl
 |some x=>
  have hm:b∈Xn h H:=cw.mpr ⟨xu.mpr (Yw a),by simp[q]⟩;have z:(Cv h H).get? b=none:=agr (Xn h H) hm;rw[z]at e;cases e
structure Mod(K:Yc)(mg:Yo->Option Yd)(base:YT):Prop where
 kin:K.In base
 glob:base.Ns ir mg
 blt:∃mb,base.Ns aia mb/\∀x:Yo,x≠"__name__"->mb x=abh x
 nolimit:base.NoLimit
structure Cx where
 prog:YZ
 w:Y6
 K:Yc
 mg:Yo->Option Yd
 base:YT
 A:xw
 N:List Yo
 s₀:Ym
 H₀:Hp
 env:acw
 outer:List acw
 stack:List acw
 ex:List Ye
 fn:Yo->Bool
 calm:Bool
 pn:List (Ye×uc)
 xe:Yd->Ym->Prop
variable{w:Y6}{X:Cx}{N:List Yo}{A:xw}{prog:YZ}{env:acw}{mg:Yo->Option Yd}{outer:List acw}
noncomputable def mF(l:List acw):List Ye:=l.filterMap (·.frame)
noncomputable abbrev Cx.fs(X:Cx):List Ye:=mF X.outer
variable{fs:List (Yo×V)}
def XC(sc:aci)(x:Yo):Prop:=sc.names.lookup x=Ya .local∨sc.names.lookup x=Ya .cell∨sc.names.lookup x=Ya .free
def Vu(sc:aci)(x:Yo):Prop:=sc.names.lookup x=Ya .local∨sc.names.lookup x=Ya .cell
def X3(env:acw)(h:YT)(m:Yo->Option Yd)(x:Yo)(u:Yd):Prop:=
 (env.kindOf x=Ya .local/\m x=Ya u)∨((env.kindOf x=Ya .cell∨env.kindOf x=Ya .free)/\∃c,env.cells.lookup x=Ya c/\h.IsCell c (Ya u))
structure Cx.Ok(X:Cx):Prop where
 mod:Mod X.K X.mg X.base
 kind:X.env.scope.kind=.function
 glob:X.env.globals=ir
 blt:X.env.builtins=aia
 above:X.s₀.heap.objs.size<=X.env.locals
 inj:∀x y c,X.env.cells.lookup x=Ya c->X.env.cells.lookup y=Ya c->x=y
 has:∀x,(X.env.kindOf x=Ya .cell∨X.env.kindOf x=Ya .free)->∃c,X.env.cells.lookup x=Ya c
 cab:∀x c,X.fn x=true->X.env.cells.lookup x=Ya c->X.s₀.heap.objs.size<=c
 hd:X.calm=true->X.A.handled=Yb
 frames:X.A.frames=Ya X.stack
 stk:X.stack=X.outer∨(X.stack=X.env::X.outer/\X.env.frame=Ya X.env.locals)
 exf:∀b∈X.ex,b≠X.env.locals/\∀x c,X.env.cells.lookup x=Ya c->c≠b
 bs:∀b o,X.base.get? b=Ya o->X.s₀.heap.get? b=Ya o/\X.H₀ b=Yb
 bsz:X.base.objs.size<=X.s₀.heap.objs.size
 noex:∀b o,X.base.get? b=Ya o->b∉X.ex
 exfs:∀b∈X.ex,b∉X.fs
 funs:X.s₀.heap.FunFrames X.base X.outer
 frf:∀b∈X.fs,X.H₀ b=Yb
structure aM(X:Cx)(Za:List (Ye×uc))(σ:List (Option V))(H:Hp)(s:Ym):Prop where
 ok:X.Ok
 os:s.os=X.s₀.os
 bare:acX s.gens
 base:Un X.fs X.ex X.H₀ H X.s₀.heap s.heap
 loc:∃m,s.heap.Ns X.env.locals m/\∀(i:Nat) (x:Yo) (v:V),X.N[i]?=Ya x->σ[i]?=Ya (Ya v)->XC X.env.scope x->∃u,RelV v u/\X3 X.env s.heap m x u
 cell:∀x c,X.env.cells.lookup x=Ya c->∃v,s.heap.IsCell c v
 free:H X.env.locals=Yb
 freeC:∀x c,X.env.cells.lookup x=Ya c->H c=Yb
 pin:∀p∈X.pn++Za,s.heap.get? p.1=Ya p.2/\H p.1=Yb/\p.1≠X.env.locals/\p.1∉X.fs/\∀v,p.2.data≠.cell v
 hok:mE X.prog X.w H s.heap
 len:σ.length=X.N.length
section
variable{σ:List (Option V)}
theorem Cx.Ok.nofr(ok:X.Ok){o:uc}(e:X.base.get? b=Ya o):b∉X.fs:=λa=>by
 have:=(ok.funs.mem a).1;rw[e]at this;cases this
theorem aM.bs(I:aM X Za σ H s):∀b o,X.base.get? b=Ya o->s.heap.get? b=Ya o/\H b=none:=λb o e=>
 ⟨I.base.keep b o (I.ok.bs b o e).1 (I.ok.bs b o e).2 (I.ok.nofr e) (I.ok.noex b o e),I.base.free b o (I.ok.bs b o e).1 (I.ok.bs b o e).2 (I.ok.noex b o e)⟩
theorem aM.bk(I:aM X Za σ H s):∀b o,X.base.get? b=Ya o->s.heap.get? b=Ya o:=λb o e=>(I.bs b o e).1
theorem aM.mod(I:aM X Za σ H s):Mod X.K X.mg X.base:=I.ok.mod
theorem aM.kIn(I:aM X Za σ H s):X.K.In s.heap:=I.ok.mod.kin.keeps I.bk
theorem aM.lt(I:aM X Za σ H s):X.env.locals<s.heap.objs.size:=let ⟨_,hn,_⟩:=I.loc;hn.lt
theorem aM.sz(I:aM X Za σ H s):X.s₀.heap.objs.size<=s.heap.objs.size:=xy I.ok.above (rl I.lt)
theorem aM.nofs(I:aM X Za σ H s)(h:s.heap.objs.size<=a):a∉X.fs:=λb=>by
 obtain⟨_,o,ho,_⟩:=I.ok.funs.mem b;exact absurd (Y2 (Yw ho) (xy I.sz h)) (Y8 _)
theorem aM.cne(I:aM X Za σ H s):∀x c,X.env.cells.lookup x=Ya c->c≠X.env.locals:=λx c e z=>by
 obtain⟨v,o,ho,hd⟩:=I.cell x c e;obtain⟨m,⟨d,f,g,a,b,_⟩,_⟩:=I.loc;rw[z,a]at ho;cases ho;rw[b]at hd;cases hd
theorem aM.funs(I:aM X Za σ H s):s.heap.FunFrames X.base X.outer:=by
 have all:∀(l:List acw),(∀b∈mF l,b∈X.fs)->X.s₀.heap.FunFrames X.base l->s.heap.FunFrames X.base l:=by
  intro l
  induction l with
  |nil=>intro _ _;trivial
  |cons env r ih=>
   intro hs hl;obtain⟨f,⟨L,o,a,hn,ho,hd⟩,g⟩:=hl;have c:L∈X.fs:=hs L (by unfold mF;rw[abg,a];exact Ys);obtain⟨h,e⟩:=I.base.slot L o ho (I.ok.frf L c) c λz=>I.ok.exfs L z c;exact⟨f,⟨L,_,a,hn,e,hd⟩,ih (λb d=>hs b (by unfold mF;rw[abg,a];exact Yr _ d)) g⟩
 exact all X.outer (λ_ d=>d) I.ok.funs
theorem aM.stack(I:aM X Za σ H s):s.heap.FunFrames X.base X.stack:=by
 rcases I.ok.stk with e|⟨e,a⟩
 ·rw[e];exact I.funs
 ·rw[e];obtain⟨m,hn,_⟩:=I.loc;refine .cons (by rw[I.ok.kind];decide) a hn ?_ I.funs;exact ags (xy I.ok.bsz I.ok.above)
theorem aM.stkSub(I:aM X Za σ H s):∀b∈mF X.stack,b∈X.env.locals::X.fs:=λb a=>by
 rcases I.ok.stk with e|⟨e,c⟩
 ·rw[e]at a;exact Yr _ a
 ·rw[e]at a;unfold mF at a;rw[abg,c]at a;exact a
theorem aM.stkFree(I:aM X Za σ H s):∀b∈mF X.stack,H b=none:=λb a=>by
 rcases Yn.mp (I.stkSub b a)with e|a
 ·rw[e];exact I.free
 ·obtain⟨_,o,ho,_⟩:=I.ok.funs.mem a;exact I.base.free b o ho (I.ok.frf b a) λz=>I.ok.exfs b z a
theorem aM.step(I:aM X Za σ H s)(f:∀b∈ch,(b∈X.ex∨X.s₀.heap.objs.size<=b)/\b≠X.env.locals/\(∀x c,X.env.cells.lookup x=Ya c->c≠b)/\∀p∈X.pn++Za,p.1≠b)(keep:∀b o,b≠X.env.locals->b∉X.fs->b∉ch->s.heap.get? b=Ya o->H b=Yb->h'.get? b=Ya o)(slot:∀b o,b≠X.env.locals->b∈X.fs->b∉ch->s.heap.get? b=Ya o->H b=Yb->∃B,h'.get? b=Ya {o with slots:=B})(free:∀b o,b∉ch->s.heap.get? b=Ya o->H b=Yb->H' b=Yb)(there:∀b o,b∉ch->s.heap.get? b=Ya o->∃o',h'.get? b=Ya o')(tups:∀b xs,H b=Ya (.tup xs)->H' b=Ya (.tup xs))(frzs:∀b o u,H b=Ya (.frz o u)->H' b=Ya (.frz o u))(tbls:∀b ps,H b=Ya (.tbl ps)->∃more,H' b=Ya (.tbl (ps++more)))(ns:∀m,s.heap.Ns X.env.locals m->h'.Ns X.env.locals m)(hok:mE X.prog X.w H' h')(F:acX g'):
  aM X Za σ H' {s with heap:=h',gens:=g',drawn:=d',toks:=t'}:=by
 have y:∀b o,X.s₀.heap.get? b=Ya o->b≠X.env.locals:=λb o e=>YL (Y2 (Yw e) I.ok.above);have j:∀b o,X.s₀.heap.get? b=Ya o->b∉X.ex->b∉ch:=λb o e a w=>by
  rcases(f b w).1 with z|z
  ·exact a z
  ·exact absurd (Y2 (Yw e) z) (Y8 _)
 have g:∀x c,X.env.cells.lookup x=Ya c->∀v,s.heap.IsCell c v->h'.IsCell c v:=λx c e v ⟨o,ho,hd⟩=>by
  have h:c∉ch:=λz=>(f c z).2.2.1 x c e rfl;by_cases D:c∈X.fs
  ·obtain⟨B,q⟩:=slot c o (I.cne x c e) D h ho (I.freeC x c e);exact⟨_,q,hd⟩
  ·exact⟨o,keep c o (I.cne x c e) D h ho (I.freeC x c e),hd⟩
 refine⟨I.ok,I.os,F,⟨λb o e n w a=>?_,λb o e n w a=>?_,λb o e n a=>?_,λb o e a=>?_,λb xs e=>tups b xs (I.base.tups b xs e),λb o xs e=>frzs b o xs (I.base.frzs b o xs e),λb ps e=>?_⟩,?_,λx c e=>?_,?_,λx c e=>?_,λp hp=>?_,hok,I.len⟩
 ·exact keep b o (y b o e) w (j b o e a) (I.base.keep b o e n w a) (I.base.free b o e n a)
 ·obtain⟨B,t⟩:=I.base.slot b o e n w a;obtain⟨C,A⟩:=slot b _ (y b o e) w (j b o e a) t (I.base.free b o e n a);exact⟨C,A⟩
 ·obtain⟨o',t⟩:=I.base.there b o e a;exact free b o' (j b o e a) t (I.base.free b o e n a)
 ·obtain⟨o',t⟩:=I.base.there b o e a;exact there b o' (j b o e a) t
 ·obtain⟨G,t⟩:=I.base.tbls b ps e;obtain⟨J,A⟩:=tbls b _ t;exact⟨G++J,by rw[A,ag0]⟩
 ·obtain⟨m,hn,hl⟩:=I.loc;refine⟨m,ns m hn,λi x v t A K=>?_⟩;obtain⟨u,r,l⟩:=hl i x v t A K;refine⟨u,r,?_⟩;rcases l with l|⟨k,c,e,z⟩
  ·exact .inl l
  ·exact .inr ⟨k,c,e,g x c e _ z⟩
 ·obtain⟨v,z⟩:=I.cell x c e;exact⟨v,g x c e v z⟩
 ·obtain⟨m,⟨o,_,_,ho,_⟩,_⟩:=I.loc;exact free _ o (λz=>(f _ z).2.1 rfl) ho I.free
 ·obtain⟨v,o,ho,hd⟩:=I.cell x c e;exact free c o (λz=>(f c z).2.2.1 x c e rfl) ho (I.freeC x c e)
 ·obtain⟨e,n,ne,E,d⟩:=I.pin p hp;have h:p.1∉ch:=λz=>(f p.1 z).2.2.2 p hp rfl;exact⟨keep p.1 p.2 ne E h e n,free p.1 p.2 h e n,ne,E,d⟩
theorem aM.un(I:aM X Za σ H s)(u:Un X.fs [] H H' s.heap h')(hok:mE X.prog X.w H' h'):aM X Za σ H' {s with heap:=h',toks:=t'}:=by
 obtain⟨m,⟨o,i,j,ho,r⟩,_⟩:=id I.loc;obtain⟨k,f⟩:=u.any ho I.free (by simp);exact I.step (g':=s.gens) (d':=s.drawn) (ch:=[]) (λ_ z=>nomatch z) (λb o _ c _ e n=>u.keep b o e n c (by simp)) (λb o _ c _ e n=>u.slot b o e n c (by simp)) (λb o _ e n=>u.free b o e n (by simp)) (λb o _ e=>u.there b o e (by simp)) u.tups u.frzs u.tbls (λl hm=>by
  obtain⟨p,g,d,a,h⟩:=hm;rw[ho]at a;cases a;exact⟨_,g,d,f,h⟩) hok I.bare
theorem aM.call(I:aM X Za σ H s)(u:Un (mF X.stack) ch H H' s.heap h')(hok:mE X.prog X.w H' h')(i:acX g')(d:∀b∈ch,(b∈X.ex∨X.s₀.heap.objs.size<=b)/\b≠X.env.locals/\(∀x c,X.env.cells.lookup x=Ya c->c≠b)/\∀p∈X.pn++Za,p.1≠b):
  aM X Za σ H' {s with heap:=h',gens:=g',drawn:=d',toks:=t'}:=by
 obtain⟨m,⟨o,q,t,ho,r⟩,_⟩:=id I.loc;obtain⟨v,g⟩:=u.any ho I.free λz=>(d _ z).2.1 rfl;exact I.step (ch:=ch) d (λb o g j a e n=>u.keep b o e n (λz=>(Yn.mp (I.stkSub b z)).elim g j) a) (λb o _ _ a e n=>u.any e n a) (λb o a e n=>u.free b o e n a) (λb o a e=>u.there b o e a) u.tups u.frzs u.tbls (λw hm=>by
  obtain⟨y,k,h,f,l⟩:=hm;rw[ho]at f;cases f;exact⟨_,k,h,g,l⟩) hok i
theorem aM.turned(I:aM X Za σ H s)(k:∀b o,b≠it->s.heap.get? b=Ya o->h'.get? b=Ya o)(hn:H it=Yb)(f:it≠X.env.locals)(h1:it∈X.ex∨X.s₀.heap.objs.size<=it)(h2:∀x c,X.env.cells.lookup x=Ya c->c≠it)(h3:∀p∈X.pn++Za,p.1≠it):aM X Za σ H {s with heap:=h',toks:=t'}:=by
 have d:∀b u,H b=Ya u->b≠it:=λb u e z=>by rw[z,hn]at e;cases e
 refine I.step (g':=s.gens) (d':=s.drawn) (ch:=[it]) (λb g=>?_) (λb o _ _ a e _=>k b o (λz=>a (by simp[z])) e) (λb o _ _ a e _=>⟨o.slots,k b o (λz=>a (by simp[z])) e⟩) (λ_ _ _ _ n=>n)
  (λb o a e=>⟨o,k b o (λz=>a (by simp[z])) e⟩) (λ_ _ e=>e) (λ_ _ _ e=>e) (λb ps e=>⟨#[],by rw[e];simp⟩) (λm hm=>?_) (λb u e=>?_) I.bare
 ·have e:b=it:=by simpa using g
  subst e;exact⟨h1,f,h2,h3⟩
 ·obtain⟨o,h,i,ho,r⟩:=hm;exact⟨o,h,i,k _ o (Ne.symm f) ho,r⟩
 ·refine(I.hok b u e).stay (λc v a q=>k c v ?_ q) (λ_ q=>q) λ_ _ q=>q;rcases a with z|z
  ·rw[z];exact d b u e
  ·exact d c _ z
theorem aM.tok(I:aM X Za σ H s)(t:Nat):aM X Za σ H {s with toks:=t}:=I.un (h':=s.heap) (t':=t) Un.refl I.hok
theorem aM.kept(I:aM X Za σ H s)(k:∀b u,s.heap.get? b=Ya u->h'.get? b=Ya u):aM X Za σ H {s with heap:=h',toks:=t'}:=I.un (Un.kept k) (I.hok.kept k)
theorem aM.laid(I:aM X Za σ H s)(k:∀b u,s.heap.get? b=Ya u->h'.get? b=Ya u)(hp:s.heap.objs.size<=a)(new:cg X.prog X.w (upd H a o) h' a o):
  aM X Za σ (upd H a o) {s with heap:=h',toks:=t'}:=I.un (Un.laid k hp (I.hok.fresh hp)) (I.hok.laid k hp new)
theorem aM.write{x e:Ye}{o:HO}{t':Nat}(I:aM X Za σ H s)(mu:VW (H x))(c:e=x∨H e=Ya (.own x))(k:∀b u,b≠e->s.heap.get? b=Ya u->h'.get? b=Ya u)(a:∃u,h'.get? e=Ya u)
  (new:cg X.prog X.w (upd H x o) h' x o):aM X Za σ (upd H x o) {s with heap:=h',toks:=t'}:=I.un (Un.write mu c k a) (I.hok.write mu c k a new)
theorem aM.pins_of{a:List (Ye×uc)}(I:aM X Za σ H s)(h:∀p∈a,s.heap.get? p.1=Ya p.2/\H p.1=Yb/\p.1≠X.env.locals/\p.1∉X.fs/\∀v,p.2.data≠.cell v):aM X a σ H s:=
 ⟨I.ok,I.os,I.bare,I.base,I.loc,I.cell,I.free,I.freeC,λp hp=>(YM.mp hp).elim (λz=>I.pin p (YU _ z)) (h p),I.hok,I.len⟩
theorem Eo(c:N.Nodup)(a:N[i]?=Ya x)(b:N[j]?=Ya x):i=j:=by
 obtain⟨h1,d⟩:=Yj.mp a;obtain⟨h2,e⟩:=Yj.mp b;exact(List.getElem_inj c).mp (d.trans e.symm)
theorem AR{Q:Unit->Ym->Prop}(I:aM X Za σ H s)(hN:X.N.Nodup)(K:X.N[i]?=Ya x)(t:Vu X.env.scope x)(r:RelV v u)(h:∀s',aM X Za (σ.set i (Ya v)) H s'->(∃a,aab a s.heap s'.heap/\(a=X.env.locals∨X.env.cells.lookup x=Ya a))->Q () s')(hf:X.fn x=true∨X.env.scope.names.lookup x=Ya .local:=by first|exact .inl rfl|exact .inr rfl|assumption):Yq M A (storeName X.env x u) Q E s:=by
 obtain⟨m,hn,hl⟩:=id I.loc;have L:(X.env.scope.kind==.class||(X.env.scope.kind==.module&&X.env.locals !=X.env.globals))=false:=by rw[I.ok.kind];rfl
 have N:i<σ.length:=by rw[I.len];exact(Yj.mp K).1
 have cne:=I.cne;have f:∀{a:Ye} {J:YT},(∃o,s.heap.get? a=Ya o/\H a=Yb)->aab a s.heap J->mE X.prog X.w H J:=fun{a J} ha hs b ob e=>by
  obtain⟨_,_,w⟩:=ha;refine(I.hok b ob e).stay (λc T l q=>(hs.2 c ?_).trans q) (λ_ q=>q) λ_ _ q=>q;rintro rfl;rcases l with rfl|l
  ·rw[w]at e;cases e
  ·rw[w]at l;cases l
 rcases t with C|C
 ·refine wpAny_storeName_local C hn (λJ V hs=>?_) L;obtain⟨oL,_,_,W,_⟩:=id hn;refine h _ ⟨I.ok,I.os,I.bare,⟨λb o e n D t=>?_,λb o e n D t=>?_,I.base.free,λb o e t=>?_,I.base.tups,I.base.frzs,I.base.tbls⟩,⟨_,V,λj y Y g B Z=>?_⟩,λy c e=>?_,I.free,I.freeC,λp hp=>?_,f ⟨oL,W,I.free⟩ hs,by simpa using I.len⟩ ⟨_,hs,.inl rfl⟩
  ·exact(hs.2 b (YL (Y2 (Yw e) I.ok.above))).trans (I.base.keep b o e n D t)
  ·obtain⟨sl,g⟩:=I.base.slot b o e n D t;exact⟨sl,(hs.2 b (YL (Y2 (Yw e) I.ok.above))).trans g⟩
  ·obtain⟨o',g⟩:=I.base.there b o e t;exact⟨o',(hs.2 b (YL (Y2 (Yw e) I.ok.above))).trans g⟩
  ·by_cases F:j=i
   ·subst F;rw[K]at g;cases g;rw[afM N]at B;cases B;exact⟨u,r,.inl ⟨C,by simp⟩⟩
   ·rw[agt (Ne.symm F)]at B;obtain⟨u',r',q⟩:=hl j y Y g B Z;refine⟨u',r',?_⟩;rcases q with⟨k,e⟩|⟨k,c,e,z⟩
    ·refine .inl ⟨k,?_⟩;have:y≠x:=λe=>F (Eo hN g (e▸K));simp[this,e]
    ·exact .inr ⟨k,c,e,z.sameBut hs (cne y c e)⟩
  ·obtain⟨T,z⟩:=I.cell y c e;exact⟨T,z.sameBut hs (cne y c e)⟩
  ·obtain⟨e,n,ne,nf,d⟩:=I.pin p hp;exact⟨(hs.2 p.1 ne).trans e,n,ne,nf,d⟩
 ·have G:X.fn x=true:=by
   rcases hf with z|z
   ·exact z
   ·rw[z]at C;cases C
  obtain⟨c,l⟩:=I.ok.has x (.inl C);obtain⟨T,z⟩:=I.cell x c l;refine wpAny_storeName_cell I.ok.kind C l z (λJ O hs=>?_);obtain⟨oc,P,R⟩:=id z;refine h {s with heap:=J} ⟨I.ok,I.os,I.bare,⟨λb o e n D t=>?_,λb o e n D t=>?_,I.base.free,λb o e t=>?_,I.base.tups,I.base.frzs,I.base.tbls⟩,⟨m,hn.sameBut hs (Ne.symm (cne x c l)),λj y Y g B Z=>?_⟩,λy U e=>?_,I.free,I.freeC,λp hp=>?_,f ⟨oc,P,I.freeC x c l⟩ hs,by simpa using I.len⟩ ⟨c,hs,.inr l⟩
  ·exact(hs.2 b (YL (Y2 (Yw e) (I.ok.cab x c G l)))).trans (I.base.keep b o e n D t)
  ·obtain⟨sl,g⟩:=I.base.slot b o e n D t;exact⟨sl,(hs.2 b (YL (Y2 (Yw e) (I.ok.cab x c G l)))).trans g⟩
  ·obtain⟨o',g⟩:=I.base.there b o e t;exact⟨o',(hs.2 b (YL (Y2 (Yw e) (I.ok.cab x c G l)))).trans g⟩
  ·by_cases F:j=i
   ·subst F;rw[K]at g;cases g;rw[afM N]at B;cases B;exact⟨u,r,.inr ⟨.inl C,c,l,O⟩⟩
   ·rw[agt (Ne.symm F)]at B;obtain⟨u',r',q⟩:=hl j y Y g B Z;refine⟨u',r',?_⟩;rcases q with q|⟨k,U,e,z'⟩
    ·exact .inl q
    ·refine .inr ⟨k,U,e,z'.sameBut hs ?_⟩;rintro rfl;exact F (Eo hN g (I.ok.inj _ _ _ e l▸K))
  ·by_cases S:U=c
   ·subst S;exact⟨_,O⟩
   ·obtain⟨w2,z2⟩:=I.cell y U e;exact⟨w2,z2.sameBut hs S⟩
  ·obtain⟨e,n,ne,nf,d⟩:=I.pin p hp;refine⟨(hs.2 p.1 ?_).trans e,n,ne,nf,d⟩;intro q;rw[q,P]at e;have q':oc=p.2:=YK e;exact d T (by rw[←q'];exact R)
theorem DV{Q:Unit->Ym->Prop}(I:aM X Za σ H s)(a:X.N.Nodup)(b:X.N[i]?=Ya x)(c:Vu X.env.scope x)(r:RelV v u)(h:∀s',aM X Za (σ.set i (Ya v)) H s'->Q () s')(d:X.fn x=true∨X.env.scope.names.lookup x=Ya .local:=by first|exact .inl rfl|exact .inr rfl|assumption):Yq M A (storeName X.env x u) Q E s:=
 AR I a b c r (λs' e _=>h s' e) d
theorem aM.call'(I:aM X Za σ H s)(ho:s'.os=s.os)(u:Un (mF X.stack) ch H H' s.heap s'.heap)(hok:mE X.prog X.w H' s'.heap)(d:acX s'.gens)(a:∀b∈ch,(b∈X.ex∨X.s₀.heap.objs.size<=b)/\b≠X.env.locals/\(∀x c,X.env.cells.lookup x=Ya c->c≠b)/\∀p∈X.pn++Za,p.1≠b):aM X Za σ H' s':=by
 obtain⟨j,f,g,h,i⟩:=s';have e:i=s.os:=ho;subst e;exact I.call (g':=f) (t':=h) (d':=g) u hok d a
end
abbrev XK:=Yd->Option Ye->Hp->Prop
abbrev St:=List (Option V)
variable{σ:St}
abbrev VK:=V->Hp->Prop
abbrev TE:=St->Hp->VK->Prop
variable{ta te tl tv td ty:TE}
abbrev TT:=St->Hp->(Bool->Hp->Prop)->Prop
variable{tc:TT}
abbrev TA:=St->Hp->(List V->Hp->Prop)->Prop
structure oU where
 nx:St->Hp->Prop
 rt:VK
 bk:St->Hp->Prop:=λ_ _=>False
 ct:St->Hp->Prop:=λ_ _=>False
variable{D:oU}
abbrev TS:=oU->St->Hp->Prop
variable{tb:TS}
def EP(X:Cx)(b:List (Ye×uc))(σ:St)(Q:VK)(u:Yd)(s':Ym):Prop:=∃v a,aM X b σ a s'/\RelV v u/\Q v a
def TP(X:Cx)(c:List (Ye×uc))(σ:St)(Q:Bool->Hp->Prop)(b:Bool)(s':Ym):Prop:=∃a,aM X c σ a s'/\Q b a
def AP(X:Cx)(c:List (Ye×uc))(σ:St)(Q:List V->Hp->Prop)(us:List Yd)(s':Ym):Prop:=∃a b,aM X c σ b s'/\Vals a us/\Q a b
def SP(X:Cx)(c:List (Ye×uc))(D:oU)(f:Flow)(s':Ym):Prop:=
 match f with
 | .next=>∃b a,aM X c b a s'/\D.nx b a
 | .brk=>∃b a,aM X c b a s'/\D.bk b a
 | .cont=>∃b a,aM X c b a s'/\D.ct b a
 | .ret u=>∃v b a,aM X c b a s'/\RelV v u/\D.rt v a
def PE(X:Cx)(e:cT)(t:TE):Prop:=
 ∀(a:List (Ye×uc)) (s:Ym) (σ:St) (H:Hp) (Q:VK),aM X a σ H s->t σ H Q->Yq (Yt X.prog X.w) X.A (pk e X.env) (EP X a σ Q) X.xe s
def PT(X:Cx)(e:cT)(t:TT):Prop:=
 ∀(a:List (Ye×uc)) (s:Ym) (σ:St) (H:Hp) (Q:Bool->Hp->Prop),aM X a σ H s->t σ H Q->Yq (Yt X.prog X.w) X.A (aib e X.env (pk e X.env)) (TP X a σ Q) X.xe s
def PW(X:Cx)(e:cT)(t:TT):Prop:=
 ∀(a:aeI Yd) (b:List (Ye×uc)) (s:Ym) (σ:St) (H:Hp) (Q:Bool->Hp->Prop),aM X b σ H s->t σ H Q->Yq (Yt X.prog X.w) X.A (aib e X.env a) (TP X b σ Q) X.xe s
theorem PW.pt{t:TT}(h:PW X e t):PT X e t:=h _
def PA(X:Cx)(es:List cT)(t:TA):Prop:=
 ∀(pos:abE) (a:List (Ye×uc)) (s:Ym) (σ:St) (H:Hp) (Q:List V->Hp->Prop),aM X a σ H s->t σ H Q->Yq (Yt X.prog X.w) X.A (spliced (aal pos (YW es X.env))) (AP X a σ Q) X.xe s
def PS(X:Cx)(st:Y4)(t:TS):Prop:=
 ∀(a:List (Ye×uc)) (s:Ym) (σ:St) (H:Hp) (D:oU),aM X a σ H s->t D σ H->Yq (Yt X.prog X.w) X.A (exec st X.env) (SP X a D) X.xe s
def CM(X:Cx)(st:List Y4)(t:TS):Prop:=
 ∀(a:List (Ye×uc)) (s:Ym) (σ:St) (H:Hp) (D:oU),aM X a σ H s->t D σ H->Yq (Yt X.prog X.w) X.A (execs st X.env) (SP X a D) X.xe s
theorem cu{α:Type}{t:aeI α}{Q b:α->Ym->Prop}(h:Yq M A t Q E s)(c:∀a s,Q a s->b a s):Yq M A t b E s:=xi h c λ_ _ x=>x
section
theorem bin{a b:cT}{tb:TE}(ha:PE X a ta)(i:PE X b tb)(I:aM X Za σ H s)(h:ta σ H λx e=>tb σ e λy c=>R x y c){α:Type}{Q:α->Ym->Prop}{f:Yd->Yd->aeI α}(j:∀v u d x y c,aM X Za σ c d->RelV x v->RelV y u->R x y c->Yq (Yt X.prog X.w) X.A (f v u) Q X.xe d):
  Yq (Yt X.prog X.w) X.A (pk a X.env) (λv k=>Yq (Yt X.prog X.w) X.A (pk b X.env) (λu l=>Yq (Yt X.prog X.w) X.A (f v u) Q X.xe l) X.xe k) X.xe s:=by
 refine cu (ha Za s σ H _ I h) λv m g=>?_;obtain⟨x,e,n,o,p⟩:=g;refine cu (i Za m σ e _ n p) λu d g=>?_;obtain⟨y,c,q,r,t⟩:=g;exact j v u d x y c q o r t
def Jv(i:Nat):TE:=λσ H Q=>∃v,σ[i]?=Ya (Ya v)/\Q v H
def tC(v:V):TE:=λ_ H Q=>Q v H
theorem SV(g:X.N[i]?=Ya x)(j:XC X.env.scope x)(hd:(x==("__debug__":Yo))=false:=by decide)(d:(x==("__classdict__":Yo))=false:=by decide):PE X (.Name x pos) (Jv i):=by
 intro k s σ H Q I h;obtain⟨v,e,h⟩:=h;obtain⟨m,hn,hl⟩:=I.loc;obtain⟨u,r,l⟩:=hl i x v g e j;have fin:EP X k σ Q u s:=⟨v,H,I,r,h⟩;rcases l with⟨b,hm⟩|⟨b,c,f,a⟩
 ·exact aic (wpAny_loadName_local I.ok.kind b hn hm fin) hd
 ·rcases b with b|b
  ·exact aic (wpAny_loadName_cell I.ok.kind b f a fin) hd
  ·exact aic (wpAny_loadName_free I.ok.kind b f a fin d) hd
theorem ay{i j pos}:PE X (.Constant (.int i) j pos) (tC (.int i)):=λ_ _ _ H _ I h=>wpAny_Constant_int ⟨.int i,H,I.tok _,⟨_,rfl⟩,h⟩
theorem q5{b j pos}:PE X (.Constant (.bool b) j pos) (tC (.bl b)):=λ_ _ _ H _ I h=>Constant_bool ⟨.bl b,H,I,rfl,h⟩
theorem qH{j pos}:PE X (.Constant .none j pos) (tC .non):=λ_ _ _ H _ I h=>Constant_none ⟨.non,H,I,rfl,h⟩
theorem jH{x j pos}:PE X (.Constant (.str x) j pos) (tC (.str x)):=λ_ _ _ H _ I h=>Calls.Constant_str ⟨.str x,H,I.tok _,⟨_,rfl⟩,h⟩
def Gl(X:Cx)(x:Yo):Prop:=X.env.kindOf x=Ya .globalImplicit
theorem mJ(I:aM X Za σ H s)(a:Gl X x)(hm:X.mg x=Ya u)(h:Q u s)(hd:(x==("__debug__":Yo))=false:=by decide):Yq (Yt X.prog X.w) X.A (pk (.Name x pos) X.env) Q E s:=
 aeA I.ok.kind a (Calls.loadGlobal_global (by rw[I.ok.glob];exact I.mod.glob.keeps I.bk) hm h) hd
theorem qc(I:aM X Za σ H s)(a:Gl X x)(hm:X.mg x=Yb)(b:abh x=Ya u)(h:Q u s)(hn:x≠"__name__":=by decide)(hd:(x==("__debug__":Yo))=false:=by decide):Yq (Yt X.prog X.w) X.A (pk (.Name x pos) X.env) Q E s:=by
 obtain⟨c,h1,h2⟩:=I.mod.blt;exact aeA I.ok.kind a (Calls.loadGlobal_builtin (by rw[I.ok.glob];exact I.mod.glob.keeps I.bk) hm (by rw[I.ok.blt];exact h1.keeps I.bk) ((h2 x hn).trans b) h) hd
theorem Im(a:Gl X x)(hm:X.mg x=Ya u)(r:RelV v u)(hd:(x==("__debug__":Yo))=false:=by decide):PE X (.Name x pos) (tC v):=
 λ_ _ _ H _ I h=>mJ I a hm ⟨v,H,I,r,h⟩ hd
theorem Qb(a:Gl X x)(hm:X.mg x=Yb)(b:abh x=Ya u)(r:RelV v u)(hn:x≠"__name__":=by decide)(hd:(x==("__debug__":Yo))=false:=by decide):PE X (.Name x pos) (tC v):=
 λ_ _ _ H _ I h=>qc I a hm b ⟨v,H,I,r,h⟩ hn hd
variable{a b:cT}{tb:TE}
def PC(X:Cx)(op:ah9)(a b:cT)(t:TE):Prop:=
 ∀(c:List (Ye×uc)) (s:Ym) (σ:St) (H:Hp) (Q:VK),aM X c σ H s->t σ H Q->
  Yq (Yt X.prog X.w) X.A (pk a X.env) (λv d=>Yq (Yt X.prog X.w) X.A (pk b X.env) (λu e=>Yq (Yt X.prog X.w) X.A (aaq op v u) (EP X c σ Q) X.xe e) X.xe d) X.xe s
def tB(t:TE):TT:=λσ H Q=>t σ H λx a=>∃c,x=.bl c/\Q c a
theorem BG{t:TE}(h:PC X op a b t)(h1:adz op b=false:=by first|exact nobehind _ (by decide) (by decide)|rfl):PT X (.Compare a [op] [b] pos) (tB t):=by
 intro e s σ H Q I hw;refine afZ (cu (h e s σ H _ I hw) λv l h1=>cu h1 λu m h2=>cu h2 λc n f=>?_) h1;obtain⟨x,g,i,j,k⟩:=f;obtain⟨d,rfl,q⟩:=k;cases j;exact abA ⟨g,i,q⟩
variable{tA tB':TT}{Zc:List cT}
def Wb(t u:TT):TT:=λσ H Q=>t σ H λc a=>if c=true then u σ a Q else Q false a
def X5(t u:TT):TT:=λσ H Q=>t σ H λc a=>if c=true then Q true a else u σ a Q
def V9(t:TT):TT:=λσ H Q=>t σ H λc a=>Q (!c) a
theorem qN(ha:PT X a tA):PW X (.BoolOp .And [a] pos) tA:=by
 intro d b s σ H Q I h;refine isTrue_and (cu (ha b s σ H Q I h) λc f e=>?_);cases c with
 |true=>exact isTrue_and_nil e
 |false=>exact e
theorem Sf(ha:PT X a tA):PW X (.BoolOp .Or [a] pos) tA:=by
 intro d b s σ H Q I h;refine isTrue_or (cu (ha b s σ H Q I h) λc f e=>?_);cases c with
 |false=>exact isTrue_or_nil e
 |true=>exact e
theorem sY(ha:PT X a tA)(i:PW X (.BoolOp .And (b::Zc) pos) tB'):PW X (.BoolOp .And (a::b::Zc) pos) (Wb tA tB'):=by
 intro j d s σ H Q I h;refine isTrue_and (cu (ha d s σ H _ I h) λc k l=>?_);obtain⟨e,f,g⟩:=l;cases c with
 |true=>exact i j d k σ e Q f g
 |false=>exact⟨e,f,g⟩
theorem RC(ha:PT X a tA)(i:PW X (.BoolOp .Or (b::Zc) pos) tB'):PW X (.BoolOp .Or (a::b::Zc) pos) (X5 tA tB'):=by
 intro j d s σ H Q I h;refine isTrue_or (cu (ha d s σ H _ I h) λc k l=>?_);obtain⟨e,f,g⟩:=l;cases c with
 |true=>exact⟨e,f,g⟩
 |false=>exact i j d k σ e Q f g
theorem tf(ha:PT X a tA):PT X (.UnaryOp .Not a pos) (V9 tA):=by
 intro b s σ H Q I h;exact isTrue_not (ha b s σ H (λc d=>Q (!c) d) I h)
def Sd(ta tb:TE):TE:=λσ H Q=>ta σ H λx a=>∃c,x=.bl c/\if c=true then tb σ a Q else Q (.bl false) a
def VX(ta tb:TE):TE:=λσ H Q=>ta σ H λx a=>∃c,x=.bl c/\if c=true then Q (.bl true) a else tb σ a Q
def R1(ta:TE):TE:=λσ H Q=>ta σ H λx a=>∃c,x=.bl c/\Q (.bl (!c)) a
theorem vn{op}{t:TE}(h:PE X a t):PE X (.BoolOp op [a] pos) t:=λb s σ H Q I hw=>BoolOp_one (h b s σ H Q I hw)
theorem CG(ha:PE X a ta)(i:PE X (.BoolOp .And (b::Zc) pos) tb):PE X (.BoolOp .And (a::b::Zc) pos) (Sd ta tb):=by
 intro e s σ H Q I h;refine BoolOp_and (cu (ha e s σ H _ I h) λv j k=>?_);obtain⟨x,f,g,l,d⟩:=k;obtain⟨c,rfl,d⟩:=d;cases l;refine abA ?_;cases c with
 |true=>exact i e j σ f Q g d
 |false=>exact⟨.bl false,f,g,rfl,d⟩
theorem RY(ha:PE X a ta)(i:PE X (.BoolOp .Or (b::Zc) pos) tb):PE X (.BoolOp .Or (a::b::Zc) pos) (VX ta tb):=by
 intro e s σ H Q I h;refine BoolOp_or (cu (ha e s σ H _ I h) λv j k=>?_);obtain⟨x,f,g,l,d⟩:=k;obtain⟨c,rfl,d⟩:=d;cases l;refine abA ?_;cases c with
 |false=>exact i e j σ f Q g d
 |true=>exact⟨.bl true,f,g,rfl,d⟩
theorem La(ha:PE X a ta):PE X (.UnaryOp .Not a pos) (R1 ta):=by
 intro d s σ H Q I h;refine UnaryOp_ (cu (ha d s σ H _ I h) λv j e=>?_);obtain⟨x,f,g,i,b⟩:=e;obtain⟨c,rfl,b⟩:=b;cases i;exact not_of (abA ⟨.bl (!c),f,g,rfl,b⟩)
def X9(t:TT)(ta tb:TE):TE:=λσ H Q=>t σ H λc a=>if c=true then ta σ a Q else tb σ a Q
theorem yF(k:PT X c tA)(ha:PE X a ta)(l:PE X b tb):PE X (.IfExp c a b pos) (X9 tA ta tb):=by
 intro e s σ H Q I h;refine wpAny_IfExp (cu (k e s σ H _ I h) λd f m=>?_);obtain⟨g,i,j⟩:=m;cases d with
 |true=>exact ha e f σ g Q i j
 |false=>exact l e f σ g Q i j
end
def bc(K:Yc)(H:Hp)(a:Ye)(xs:List V):Prop:=
 Rd H a (.lst xs)∨
  ∃(o:uc) (b:Array Yd) (n:Nat),K.lookup a=Ya o/\o.cls=.type "list"/\o.dict=Yb/\o.data=.seq b n/\b.size<=YB/\Vals xs b.toList
def bI(K:Yc)(H:Hp)(a:Ye)(xs:List V):Prop:=
 Rd H a (.tup xs)∨
  ∃(o:uc) (b:Array Yd) (n:Nat),K.lookup a=Ya o/\o.cls=.type "tuple"/\o.data=.seq b n/\b.size<=YB/\Vals xs b.toList
noncomputable def XQ:Yd->Option V
 | .none=>Ya .non
 | .bool b=>Ya (.bl b)
 | .int i _=>Ya (.int i)
 | .str x _=>Ya (.str x)
 | .bytes b _=>Ya (.byt b)
 | .float b _=>Ya (.flt b)
 | .ref a=>Ya (.ref a)
 | .type n=>Ya (.ty n)
 |_=>Yb
theorem RelV.abs{x:V}(r:RelV x u):XQ u=Ya x:=by
 cases x with
 |non=>cases r;rfl
 |bl _=>cases r;rfl
 |int _=>obtain⟨t,rfl⟩:=r;rfl
 |str _=>obtain⟨t,rfl⟩:=r;rfl
 |byt _=>obtain⟨t,rfl⟩:=r;rfl
 |flt _=>obtain⟨t,rfl⟩:=r;rfl
 |ref _=>cases r;rfl
 |ty _=>cases r;rfl
theorem RelV.inj{x:V}(r:RelV x u)(q:RelV y u):x=y:=YK (r.abs.symm.trans q.abs)
theorem Vals.inj:∀{xs ys:List V} {us:List Yd},Vals xs us->Vals ys us->xs=ys:=by
 intro xs ys us h
 induction h generalizing ys with
 |nil=>
  intro h;cases h;rfl
 |cons r t ih=>
  intro h;cases h with|cons r' t'=>
  rw[r.inj r',ih t']
section
variable{xs ys:List V}
theorem bc.of{K:Yc}(h:H a=Ya (.lst xs)):bc K H a xs:=.inl (.inl h)
theorem bI.of{K:Yc}(h:H a=Ya (.tup xs)):bI K H a xs:=.inl (.inl h)
theorem aM.list(I:aM X Za σ H s)(h:bc X.K H a xs):∃its:List Yd,Vals xs its/\PlainL s.heap a its.toArray/\xs.length<=YB:=by
 rcases h with h|⟨o,its,n,b,c,hd,hs,d,r⟩
 ·obtain⟨z,its,n,r,e⟩:=h.ok I.hok;exact⟨its,r,⟨_,n,e,rfl,rfl,rfl⟩,z⟩
 ·refine⟨its.toList,r,⟨o,n,I.kIn a o b,c,hd,by simpa using hs⟩,?_⟩;have e:=r.length;simp only[YO]at e;omega
theorem aM.tuple(I:aM X Za σ H s)(h:bI X.K H a xs):∃its:List Yd,Vals xs its/\IsTup s.heap a its.toArray/\xs.length<=YB:=by
 rcases h with h|⟨o,its,n,b,c,hs,d,r⟩
 ·obtain⟨z,its,r,p⟩:=h.ok I.hok;exact⟨its,r,p.tup,z⟩
 ·refine⟨its.toList,r,⟨o,I.kIn a o b,c,n,by simpa using hs⟩,?_⟩;have e:=r.length;simp only[YO]at e;omega
theorem aM.list_inj(I:aM X Za σ H s)(h:bc X.K H a xs)(h':bc X.K H a ys):xs=ys:=by
 obtain⟨c,r,⟨o,n,e,_,_,d⟩,_⟩:=I.list h;obtain⟨b,i,⟨j,k,f,_,_,g⟩,_⟩:=I.list h';rw[e]at f;cases f;rw[d]at g;injection g with d1 _;have:c=b:=by simpa using congrArg ag1 d1
 subst this;exact r.inj i
theorem aM.tuple_inj(I:aM X Za σ H s)(h:bI X.K H a xs)(h':bI X.K H a ys):xs=ys:=by
 obtain⟨c,r,⟨o,e,_,n,d⟩,_⟩:=I.tuple h;obtain⟨b,i,⟨j,f,_,k,g⟩,_⟩:=I.tuple h';rw[e]at f;cases f;rw[d]at g;injection g with d1 _;have:c=b:=by simpa using congrArg ag1 d1
 subst this;exact r.inj i
end
noncomputable abbrev Cx.wish(X:Cx)(E:Yd->Ym->Prop):Cx:={X with xe:=E}
noncomputable abbrev Cx.nox(X:Cx):Cx:=X.wish λ_ _=>False
theorem Cx.Ok.wish(ok:X.Ok)(E:Yd->Ym->Prop):(X.wish E).Ok:=
 ⟨ok.mod,ok.kind,ok.glob,ok.blt,ok.above,ok.inj,ok.has,ok.cab,ok.hd,ok.frames,ok.stk,ok.exf,ok.bs,ok.bsz,ok.noex,ok.exfs,ok.funs,ok.frf⟩
theorem Cx.Ok.unwish(ok:(X.wish E).Ok):X.Ok:=
 ⟨ok.mod,ok.kind,ok.glob,ok.blt,ok.above,ok.inj,ok.has,ok.cab,ok.hd,ok.frames,ok.stk,ok.exf,ok.bs,ok.bsz,ok.noex,ok.exfs,ok.funs,ok.frf⟩
section
theorem aM.wish(I:aM X Za σ H s)(E:Yd->Ym->Prop):aM (X.wish E) Za σ H s:=⟨I.ok.wish E,I.os,I.bare,I.base,I.loc,I.cell,I.free,I.freeC,I.pin,I.hok,I.len⟩
theorem aM.unwish(I:aM (X.wish E) Za σ H s):aM X Za σ H s:=⟨I.ok.unwish,I.os,I.bare,I.base,I.loc,I.cell,I.free,I.freeC,I.pin,I.hok,I.len⟩
theorem SP.unwish{f:Flow}(h:SP (X.wish E) Za D f s'):SP X Za D f s':=by
 cases f with
 |next=>obtain⟨a,b,I,q⟩:=h;exact⟨a,b,I.unwish,q⟩
 |brk=>obtain⟨a,b,I,q⟩:=h;exact⟨a,b,I.unwish,q⟩
 |cont=>obtain⟨a,b,I,q⟩:=h;exact⟨a,b,I.unwish,q⟩
 |ret u=>obtain⟨v,a,b,I,r,q⟩:=h;exact⟨v,a,b,I.unwish,r,q⟩
theorem CM.nox{st:List Y4}{t:TS}(h:CM X.nox st t):CM X st t:=λa s σ H D I hw=>
 xi (h a s σ H D (I.wish _) hw) (λ_ _ q=>q.unwish) λ_ _ z=>aaw z
end
section
variable{st:Y4}{Zc:List Y4}{t u:TS}
def Hg:TS:=λD σ H=>D.nx σ H
def qf(t u:TS):TS:=λD σ H=>t {D with nx:=u D} σ H
theorem bP:CM X [] Hg:=λ_ _ σ H _ I h=>ac3 ⟨σ,H,I,h⟩
theorem aj(h1:PS X st t)(h2:CM X Zc u):CM X (st::Zc) (qf t u):=by
 intro a s σ H D I h;refine ahG (cu (h1 a s σ H {D with nx:=u D} I h) λf b q=>?_);cases f with
 |next=>
  obtain⟨c,d,e,q⟩:=q;exact h2 a b c d D e q
 |ret v=>exact q
 |brk=>exact q
 |cont=>exact q
theorem au(h1:PS X st t):CM X [st] t:=by
 intro a s σ H D I h;refine ahG (cu (h1 a s σ H D I h) λf b q=>?_);cases f with
 |next=>exact ac3 q
 |ret v=>exact q
 |brk=>exact q
 |cont=>exact q
def LD:TS:=λD σ H=>D.bk σ H
theorem Od:PS X (.Break pos) LD:=λ_ _ σ H _ I h=>wpAny_Break ⟨σ,H,I,h⟩
theorem aM.quiet(I:aM X Za σ H s):interactive X.env=false:=by simp[interactive,I.ok.kind]
def Ml(a:TE):TS:=λD σ H=>a σ H λ_ b=>D.nx σ b
theorem dw(a:PE X e te)(hs:adM e Yb pos.line X.env=pure false:=by rfl):PS X (.Expr e pos) (Ml te):=by
 intro b s σ H D I h;exact wpAny_Expr_any (cu (a b s σ H _ I h) λv g ⟨x,c,d,i,f⟩=>⟨σ,c,d,f⟩) I.quiet hs
def UO(a:TE):TS:=λD σ H=>a σ H D.rt
theorem aL(a:PE X e te):PS X (.Return (Ya e) pos) (UO te):=by
 intro b s σ H D I h;exact wpAny_Return_some (cu (a b s σ H _ I h) λv i ⟨x,c,d,f,g⟩=>⟨x,σ,c,d,f,g⟩)
def QB(c:TT)(t u:TS):TS:=λD σ H=>c σ H λb a=>if b=true then t D σ a else u D σ a
theorem dS{a b:List Y4}(k:PT X c tc)(ha:CM X a t)(l:CM X b u):PS X (.If c a b pos) (QB tc t u):=by
 intro e s σ H D I h;refine wpAny_If (cu (k e s σ H _ I h) λd f m=>?_);obtain⟨g,i,j⟩:=m;cases d with
 |true=>exact ha e f σ g D i j
 |false=>exact l e f σ g D i j
def MW:TS:=λ_ _ _=>False
theorem D4:PS X st MW:=λ_ _ _ _ _ _ h=>h.elim
end
abbrev TG:=V->St->Hp->(St->Hp->Prop)->Prop
variable{g:TG}
abbrev OM:=List V->St->Hp->(St->Hp->Prop)->Prop
def PG(X:Cx)(a:cT)(t:TG):Prop:=
 ∀(b:List (Ye×uc)) (s:Ym) (σ:St) (H:Hp) (v:V) (u:Yd) (Q:St->Hp->Prop),aM X b σ H s->RelV v u->t v σ H Q->
  Yq (Yt X.prog X.w) X.A (ae7 a X.env u) (λ_ s'=>∃c d,aM X b c d s'/\Q c d) X.xe s
def We(X:Cx)(f:List cT)(t:OM):Prop:=
 ∀(a:List (Ye×uc)) (s:Ym) (σ:St) (H:Hp) (b:List V) (c:List Yd) (Q:St->Hp->Prop),aM X a σ H s->Vals b c->t b σ H Q->
  Yq (Yt X.prog X.w) X.A (assignInOrder ((acQ f X.env).map (·.2)) c) (λ_ s'=>∃d e,aM X a d e s'/\Q d e) X.xe s
section
def zb(i:Nat):TG:=λv σ H Q=>Q (σ.set i (Ya v)) H
theorem aP(a:X.N.Nodup)(b:X.N[i]?=Ya x)(c:Vu X.env.scope x)(d:X.fn x=true∨X.env.scope.names.lookup x=Ya .local:=by first|exact .inl rfl|exact .inr rfl|assumption):PG X (.Name x pos) (zb i):=by
 intro f s σ H v u Q I r h;exact ahl (DV I a b c r (λs' e=>⟨_,H,e,h⟩) d)
def Sv:OM:=λa σ H Q=>a=[]/\Q σ H
def HF(t:TG)(u:OM):OM:=λa σ H Q=>∃v r,a=v::r/\t v σ H λb c=>u r b c Q
theorem mU:We X [] Sv:=by
 intro a s σ H b c Q I r h;obtain⟨e,h⟩:=h;subst e;cases r;exact assignInOrder_nil ⟨σ,H,I,h⟩
theorem c7{t:TG}{u:OM}(h1:PG X e t)(h2:We X es u)(hs:(acQ (e::es) X.env).map (·.2)=ae7 e X.env::(acQ es X.env).map (·.2):=by rfl):We X (e::es) (HF t u):=by
 intro a s σ H k l Q I r h;obtain⟨v,m,b,h⟩:=h;subst b;cases r with
 |cons r rr=>
  rw[hs];refine assignInOrder_cons (cu (h1 a s σ H _ _ _ I r h) λ_ c d=>?_);obtain⟨f,g,i,j⟩:=d;exact h2 a c f g _ _ Q i rr j
def OR(K:Yc)(n:Nat)(t:OM):TG:=λv σ H Q=>∃a b,v=.ref a/\bI K H a b/\b.length=n/\t b σ H Q
theorem Uz{t:OM}(g:X.calm=true)(h:We X es t)(hn:(acQ es X.env).length=n:=by rfl)(c:(acQ es X.env).findIdx? (·.1)=none:=by rfl):PG X (.Tuple es k pos) (OR X.K n t):=by
 intro d s σ H v u Q I r hw;obtain⟨a,i,j,l,hl,hw⟩:=hw;subst j;cases r;obtain⟨m,f,p,y⟩:=I.tuple l;refine assign_Tuple_tuple (I.ok.hd g) p (by simp[hn,←hl,f.length]) c λq w=>?_;have x:aM X d σ H {s with heap:=q}:=I.kept (t':=s.toks) λb o e=>w b o (YL (Yw e)) e;exact h d _ σ H i _ Q x (by simpa using f) hw
def Ov(a:TE)(g:TG):TS:=λD σ H=>a σ H λx b=>g x σ b D.nx
theorem UC(b:PE X e te)(c:PG X tg g)(hs:swapsWithSole [tg] e pos.line X.env=pure false:=by rfl)(hw:swappedStores [tg] e X.env=pure none:=by rfl)(h1:(acQ [tg] X.env).map (·.2)=[ae7 tg X.env]:=by rfl):PS X (.Assign [tg] e pos) (Ov te g):=by
 intro a s σ H D I h;refine wpAny_Assign_stores (cu (b a s σ H _ I h) λv d f=>?_) hs hw;obtain⟨x,i,j,k,l⟩:=f;rw[h1];exact cu (c a d σ i x v _ j k l) λ_ m q=>q
theorem aW(a:X.N.Nodup)(b:X.N[i]?=Ya x)(c:Vu X.env.scope x)(d:PE X e te)(hs:adM e (Ya (.Name x Zq)) pos.line X.env=pure false:=by rfl)(f:X.fn x=true∨X.env.scope.names.lookup x=Ya .local:=by first|exact .inl rfl|exact .inr rfl|assumption):
  PS X (.Assign [.Name x Zq] e pos) (Ov te (zb i)):=by
 intro g s σ H D I h;refine wpAny_Assign_Name (cu (d g s σ H _ I h) λv p j=>?_) hs;obtain⟨y,k,l,m,n⟩:=j;exact DV l a b c m (λq o=>⟨_,k,o,n⟩) f
end
section
def Gz(c:TT)(tb:TS):TS:=λD σ H=>∃W:Nat->St->Hp->Prop,(∃m,W m σ H)/\∀m σ H,W m σ H->
 c σ H λb a=>if b=true then∃N:St->Hp->Prop,(∀d e,N d e->∃f,f<m/\W f d e)/\tb {D with nx:=N,ct:=N,bk:=D.nx} σ a else D.nx σ a
theorem zK(hp:PassesOwn (Yt X.prog X.w) X.A X.env X.xe)(w:PT X c tc)(x:CM X Zr tb):PS X (.While c Zr [] pos) (Gz tc tb):=by
 intro j s σ H D I h;obtain⟨W,⟨y,z⟩,turn⟩:=h;refine wpAny_While (codeAny_whileLoop (λn s'=>∃o p,aM X j o p s'/\W n o p) ?_ y ⟨σ,H,I,z⟩);rintro n A ⟨e,q,B,C⟩;refine abT hp (cu (w j A e q _ B (turn n e q C)) λb E F=>?_);obtain⟨r,t,g⟩:=F;cases b with
 |true=>
  obtain⟨N,u,g⟩:=g;rw[if_pos rfl];refine abT hp (cu (x j E e r _ t g) λf G i=>?_);cases f with
  |next=>
   obtain⟨a,d,k,n3⟩:=i;obtain⟨l,hm,m⟩:=u a d n3;exact⟨l,hm,a,d,k,m⟩
  |cont=>
   obtain⟨a,d,k,n3⟩:=i;obtain⟨l,hm,m⟩:=u a d n3;exact⟨l,hm,a,d,k,m⟩
  |brk=>exact i
  |ret v=>exact i
 |false=>
  rw[if_neg YX];exact ac3 ⟨e,r,t,g⟩
end
structure It where
 go:Nat->Hp->Prop
 yld:Nat->Hp->V->Hp->Prop
 stop:Nat->Hp->Prop
def uw(X:Cx)(a:List (Ye×uc))(H:Hp)(b:Ye):Prop:=
 H b=Yb/\b≠X.env.locals/\b∉X.fs/\(b∈X.ex∨X.s₀.heap.objs.size<=b)/\(∀x c,X.env.cells.lookup x=Ya c->c≠b)/\∀p∈X.pn++a,p.1≠b
theorem aM.fpOk(I:aM X Za σ H s)(a:s.heap.objs.size<=b)(hn:H' b=Yb):uw X Za H' b:=by
 refine⟨hn,abu (Y2 I.lt a),I.nofs a,.inr (xy I.sz a),λx c e z=>?_,λp hp z=>?_⟩
 ·obtain⟨v,q⟩:=I.cell x c e;exact absurd (Y2 q.lt (by rw[z];exact a)) (Y8 _)
 ·exact absurd (Y2 (Yw (I.pin p hp).1) (by rw[z];exact a)) (Y8 _)
structure Turn(P:YZ)(w:Y6)(K:Yc)(tg:cT)(J:It)(fp:List Ye)(it:Ye)(tn:Nat->YT->Prop):Prop where
 mem:it∈fp
 obj:∀i h,tn i h->∀b∈fp,∃o,h.get? b=Ya o/\∀v,o.data≠.cell v
 keep:∀i h h',tn i h->(∀b∈fp,∀o,h.get? b=Ya o->h'.get? b=Ya o)->tn i h'
 item:∀(X:Cx),X.prog=P->X.w=w->X.K=K->X.calm=true->∀(i:Nat) (Za:List (Ye×uc)) (s:Ym) (σ:St) (H:Hp) (E:Yd->Ym->Prop),aM X Za σ H s->(∀b∈fp,uw X Za H b)->tn i s.heap->J.go i H->
  Yq (Yt P w) X.A (aaL (.ref it)) (λr s1=>∃u,r=Ya u/\
   Yq (Yt P w) X.A (adV tg (.ref it) u) (λ_ s2=>∃x H',aM X Za σ H' s2/\RelV x u/\J.yld i H x H'/\tn (i+ 1) s2.heap/\∀b∈fp,H' b=Yb) E s1) E s
 done:∀(X:Cx),X.prog=P->X.w=w->X.K=K->X.calm=true->∀(i:Nat) (Za:List (Ye×uc)) (s:Ym) (σ:St) (H:Hp) (E:Yd->Ym->Prop),aM X Za σ H s->(∀b∈fp,uw X Za H b)->tn i s.heap->J.stop i H->
  Yq (Yt P w) X.A (aaL (.ref it)) (λr s1=>r=Yb/\aM X Za σ H s1) E s
 self:∀(A:xw) (i:Nat) (s:Ym) (Q:Yd->Ym->Prop) (E:Yd->Ym->Prop),tn i s.heap->Q (.ref it) s->Yq (Yt P w) A (adt (.ref it)) Q E s
abbrev TI:=St->Hp->(It->Hp->Prop)->Prop
def PIE(X:Cx)(d:List (Ye×uc))(σ:St)(h:cT)(R:It->Hp->Prop)(a:Yd)(e:Ym):Prop:=
 ∃(f:Ye) (g:List Ye) (tn:Nat->YT->Prop) (J:It) (c:Hp),a=.ref f/\aM X d σ c e/\Turn X.prog X.w X.K h J g f tn/\tn 0 e.heap/\(∀b∈g,uw X d c b)/\R J c
def PI(X:Cx)(b iter:cT)(c:TI):Prop:=
 ∀(a:List (Ye×uc)) (s:Ym) (σ:St) (H:Hp) (R:It->Hp->Prop),aM X a σ H s->c σ H R->
  Yq (Yt X.prog X.w) X.A (pk iter X.env) (λv d=>Yq (Yt X.prog X.w) X.A (adt v) (PIE X a σ b R) X.xe d) X.xe s
theorem Fz{o:uc}{n:String}{vs:Array Yd}{Q:Unit->Ym->Prop}(ho:s.heap.get? it=Ya o)(b:o.cls=.type n)(hd:o.data=.fields vs)(hn:["enumerate","zip","dict_itemiterator","dict_reverseitemiterator","odict_iterator","itertools.zip_longest","itertools.pairwise"].contains n=false)(a:Q () s):Yq M A (adV tg (.ref it) u) Q E s:=by
 unfold adV;cases tg<;>first
  |exact Yp a
  |(cases u<;>first
    |exact Yp a
    |(refine Yf (wpAny_load ho ?_)
      rw[b,hd];show Yq M A (if(["enumerate","zip","dict_itemiterator","dict_reverseitemiterator","odict_iterator","itertools.zip_longest","itertools.pairwise"].contains n&&vs[0]?==Ya (aa9 _))=true then _ else _) Q E s;rw[if_neg (by intro h;rw[hn,ab0]at h;cases h)];exact Yp a))
noncomputable def Lp(K:Yc)(a:Ye):It:=
 ⟨λi H=>∃b x,bc K H a b/\b[i]?=Ya x,λi H x c=>c=H/\∀b,bc K H a b->b[i]?=Ya x,λi H=>∃b,bc K H a b/\b.length<=i⟩
noncomputable def MJ(K:Yc)(a:Ye):It:=
 ⟨λi H=>∃b x,bI K H a b/\b[i]?=Ya x,λi H x c=>c=H/\∀b,bI K H a b->b[i]?=Ya x,λi H=>∃b,bI K H a b/\b.length<=i⟩
noncomputable def K3(lo:Int)(n:Nat):It:=⟨λi _=>i<n,λi H x a=>a=H/\x=.int (lo+ i),λi _=>n<=i⟩
theorem AN{K:Yc}(a it:Ye):Turn P w K tg (Lp K a) [it] it (λi h=>h.IsListIter it a i) where
 mem:=by simp
 obj:=λi h st b f=>by
  have e:b=it:=by simpa using f
  subst e;obtain⟨o,e,c,d⟩:=st;exact⟨o,e,λv z=>by rw[d]at z;cases z⟩
 keep:=λi h j st k=>st.at λo e=>k it (by simp) o e
 item:=by
  intro X n hw q J i L s σ H E I l st r;subst n hw q;obtain⟨M,x,m,t⟩:=r;obtain⟨y,A,p,N⟩:=I.list m;obtain⟨u,O,Q⟩:=A.get t;obtain⟨B,C,R,D,F,G⟩:=l it (by simp);refine wpAny_pyNext_list_item st p.isList (x:=u) (by simpa using O) λj g S=>?_;have T:aM X L σ H {s with heap:=j}:=I.turned (t':=s.toks) (λb o f e=>(S.2 b f).trans e) B C D F G;obtain⟨o,e,c,d⟩:=id g;exact⟨u,rfl,Fz (s:={s with heap:=j}) e c d (by decide) ⟨x,H,T,Q,⟨rfl,λW U=>by rw[I.list_inj U m];exact t⟩,g,λb f=>(l b f).1⟩⟩
 done:=by
  intro X n hw q J i L s σ H E I l st r;subst n hw q;obtain⟨M,m,t⟩:=r;obtain⟨y,A,p,N⟩:=I.list m;obtain⟨B,C,R,D,F,G⟩:=l it (by simp);have hl:=A.length;exact wpAny_pyNext_list_end (I.ok.hd J) st p.isList (by simp;omega) λj V=>⟨rfl,I.turned (t':=s.toks) (λb o f e=>V b o f e) B C D F G⟩
 self:=λ_ _ _ _ _ st h=>wpAny_pyIter_listiter st h
theorem zg{K:Yc}(a it:Ye):Turn P w K tg (MJ K a) [it] it (λi h=>h.IsTupleIter it a i) where
 mem:=by simp
 obj:=λi h st b f=>by
  have e:b=it:=by simpa using f
  subst e;obtain⟨o,e,c,d⟩:=st;exact⟨o,e,λv z=>by rw[d]at z;cases z⟩
 keep:=λi h l st k=>st.at λo e=>k it (by simp) o e
 item:=by
  intro X q hw r J i L s σ H E I m st t;subst q hw r;obtain⟨M,x,n,y⟩:=t;obtain⟨g,A,p,N⟩:=I.tuple n;obtain⟨u,O,Q⟩:=A.get y;obtain⟨B,C,R,D,F,G⟩:=m it (by simp);refine wpAny_pyNext_tuple_item st (show s.heap.IsTuple a g.toArray from p) (x:=u) (by simpa using O) λl j S=>?_;have T:aM X L σ H {s with heap:=l}:=I.turned (t':=s.toks) (λb o f e=>(S.2 b f).trans e) B C D F G;obtain⟨o,e,c,d⟩:=id j;exact⟨u,rfl,Fz (s:={s with heap:=l}) e c d (by decide) ⟨x,H,T,Q,⟨rfl,λW U=>by rw[I.tuple_inj U n];exact y⟩,j,λb f=>(m b f).1⟩⟩
 done:=by
  intro X q hw r J i L s σ H E I m st t;subst q hw r;obtain⟨M,n,y⟩:=t;obtain⟨g,A,p,N⟩:=I.tuple n;obtain⟨B,C,R,D,F,G⟩:=m it (by simp);have hl:=A.length;exact wpAny_pyNext_tuple_end (I.ok.hd J) st (show s.heap.IsTuple a g.toArray from p) (by simp;omega) λl V=>⟨rfl,I.turned (t':=s.toks) (λb o f e=>V b o f e) B C D F G⟩
 self:=λ_ _ _ _ _ st h=>wpAny_pyIter_tupleiter st h
theorem Ha{K:Yc}(it:Ye)(lo:Int)(n:Nat):Turn P w K tg (K3 lo n) [it] it (λi h=>IsRangeIter h it (lo+ (i:Nat)*1) ((n:Int)-(i:Nat)) 1) where
 mem:=by simp
 obj:=λi h st b a=>by
  have e:b=it:=by simpa using a
  subst e;exact⟨_,st,λv z=>by
   have A:Data.fields _=Data.cell v:=z;cases A⟩
 keep:=λi h d st k=>k it (by simp) _ st
 item:=by
  intro X g hw j l i y s σ H E I f st m;subst g hw j;obtain⟨p,q,B,r,u,x⟩:=f it (by simp);have W:=Walks.range (prog:=X.prog) (w:=X.w) (I.ok.hd l) it lo 1 n;refine W.item i s _ _ m st λv d tk C c D=>?_;obtain⟨t,rfl⟩:=C;have F:aM X y σ H {s with heap:=d,toks:=tk}:=I.turned (λb o a e=>D b o (by simpa using a) e) p q r u x;refine⟨_,rfl,Fz (s:={s with heap:=d,toks:=tk}) (n:="range_iterator") c rfl rfl (by decide) ⟨.int (lo+ i),H,F,⟨t,?_⟩,⟨rfl,rfl⟩,c,λb a=>(f b a).1⟩⟩;rw[Int.mul_one]
 done:=by
  intro X g hw j l i y s σ H E I f st m;subst g hw j;obtain⟨p,q,B,r,u,x⟩:=f it (by simp);exact wpAny_pyNext_range_end (I.ok.hd l) st (by have:n<=i:=m;omega) λd G=>⟨rfl,I.turned (t':=s.toks) (λb o a e=>G b o a e) p q r u x⟩
 self:=λ_ _ _ _ _ st h=>wpAny_pyIter_rangeiter st h
section
def NA(K:Yc)(tl:TE):TI:=λσ H R=>tl σ H λx b=>∃a,x=.ref a/\(∃c,bc K b a c)/\R (Lp K a) b
def Ur(K:Yc)(tl:TE):TI:=λσ H R=>tl σ H λx b=>∃a,x=.ref a/\(∃c,bI K b a c)/\R (MJ K a) b
theorem Pq(hl:PE X l tl):PI X tg l (NA X.K tl):=by
 intro f s σ H R I h;refine cu (hl f s σ H _ I h) λv c g=>?_;obtain⟨x,i,d,j,k⟩:=g;obtain⟨a,e,⟨t,m⟩,q⟩:=k;subst e;cases j;obtain⟨n,u,p,w⟩:=d.list m;refine aaY p.isList ?_;refine⟨c.heap.objs.size,[c.heap.objs.size],_,_,i,rfl,d.kept (t':=c.toks) λb o e=>Yh _ e,AN a _,⟨_,Yv _ rfl,rfl,rfl⟩,λb r=>?_,q⟩;have e:b=c.heap.objs.size:=by simpa using r
 subst e;exact d.fpOk (Yl _) (d.hok.fresh (Yl _))
theorem TZ(hl:PE X l tl):PI X tg l (Ur X.K tl):=by
 intro g s σ H R I h;refine cu (hl g s σ H _ I h) λv c i=>?_;obtain⟨x,j,d,k,m⟩:=i;obtain⟨a,e,⟨t,n⟩,q⟩:=m;subst e;cases k;obtain⟨f,u,p,w⟩:=d.tuple n;refine ag2 (show c.heap.IsTuple a f.toArray from p) ?_;refine⟨c.heap.objs.size,[c.heap.objs.size],_,_,j,rfl,d.kept (t':=c.toks) λb o e=>Yh _ e,zg a _,⟨_,Yv _ rfl,rfl,rfl⟩,λb r=>?_,q⟩;have e:b=c.heap.objs.size:=by simpa using r
 subst e;exact d.fpOk (Yl _) (d.hok.fresh (Yl _))
theorem CQ{R:It->Hp->Prop}{lo a:Int}{t u v:ac2}{tk:Nat}(I:aM X Za σ H s)(h1:-(2^62)<=lo)(h2:lo<2^62)(h3:-(2^62)<=a)(h4:a<2^62)(q:R (K3 lo (a-lo).toNat) H):Yq (Yt X.prog X.w) X.A (adt (.ref s.heap.objs.size)) (PIE X Za σ tg R) E {s with heap:=s.heap.push {cls:=.type "range",data:=.fields #[.int lo t,.int a u,.int 1 v]},toks:=tk}:=by
 refine wpAny_pyIter_range (IsRange.new ..) (small_one h1 h2 h3 h4) ?_;have c:aM X Za σ H {s with heap:=s.heap.push {cls:=.type "range",data:=.fields #[.int lo t,.int a u,.int 1 v]},toks:=tk}:=I.kept λb o e=>Yh _ e;refine⟨(s.heap.push {cls:=.type "range",data:=.fields #[.int lo t,.int a u,.int 1 v]}).objs.size,[(s.heap.push {cls:=.type "range",data:=.fields #[.int lo t,.int a u,.int 1 v]}).objs.size],_,_,H,rfl,
  c.kept (t':=tk) λb o e=>Yh _ e,Ha _ lo (a-lo).toNat,?_,λb d=>?_,q⟩
 ·have f:lo+ ((0:Nat):Int)*1=lo:=by simp
  have g:(((a-lo).toNat:Nat):Int)-((0:Nat):Int)=Builtin.Range.rangeSize lo a 1:=by rw[rangeSize_one];split<;>omega
  show IsRangeIter _ _ (lo+ ((0:Nat):Int)*1) ((((a-lo).toNat:Nat):Int)-((0:Nat):Int)) 1;rw[f,g];exact Yv _ rfl
 ·have e:b=(s.heap.push {cls:=.type "range",data:=.fields #[.int lo t,.int a u,.int 1 v]}).objs.size:=by simpa using d
  subst e;exact c.fpOk (Yl _) (c.hok.fresh (Yl _))
def Rw(ta:TA):TI:=λσ H R=>ta σ H λa b=>∃j:Int,a=[.int j]/\-(2^62)<=j/\j<2^62/\R (K3 0 j.toNat) b
def R9(ta:TA):TI:=λσ H R=>ta σ H λa b=>∃i j:Int,a=[.int i,.int j]/\(-(2^62)<=i/\i<2^62/\-(2^62)<=j/\j<2^62)/\R (K3 i (j-i).toNat) b
theorem qL{a:cT}{ta:TA}(c:Gl X "range")(hm:X.mg "range"=Yb)(ha:PA X [a] ta)(hs:YW [a] X.env=[(false,pk a X.env)]:=by rfl):PI X tg (.Call (.Name "range" p) [a] [] pos) (Rw ta):=by
 intro d s σ H R I h;refine Call_ (qc I c hm boot_range (acN (cu (ha pos d s σ H _ I h) λl m f=>?_) hs rfl));obtain⟨n,o,g,i,b⟩:=f;obtain⟨j,e,b,k,q⟩:=b;subst e;cases i with
 |cons r rr=>
  cases rr;obtain⟨t,rfl⟩:=r;exact call_range_1 (CQ g (by omega) (by omega) b k (by simpa using q))
theorem Jc{a b:cT}{ta:TA}(f:Gl X "range")(hm:X.mg "range"=Yb)(ha:PA X [a,b] ta)(hs:YW [a,b] X.env=[(false,pk a X.env),(false,pk b X.env)]:=by rfl)(c:YW [b] X.env=[(false,pk b X.env)]:=by rfl):
  PI X tg (.Call (.Name "range" p) [a,b] [] pos) (R9 ta):=by
 intro g s σ H R I h;refine Call_ (qc I f hm boot_range (acN (cu (ha pos g s σ H _ I h) λu v ⟨w,x,k,l,d⟩=>?_) (by rw[hs,c]) (by rw[c];rfl)));obtain⟨i,j,e,⟨d,m,n,o⟩,q⟩:=d;subst e;cases l with
 |cons r rr=>
  cases rr with
  |cons r' rr=>
   cases rr;obtain⟨t,rfl⟩:=r;obtain⟨y,rfl⟩:=r';exact call_range_2 (CQ k d m n o q)
def PX(d:TI)(g:TG)(tb:TS):TS:=λD σ H=>d σ H λJ e=>∃W:Nat->Nat->St->Hp->Prop,(∃m,W 0 m σ e)/\∀i m σ H,W i m σ H->
 (J.stop i H/\D.nx σ H)∨(J.go i H/\∃N:St->Hp->Prop,(∀b a,N b a->∃c,c<m/\W (i+ 1) c b a)/\∀x a,J.yld i H x a->g x σ a λf h=>tb {D with nx:=N,ct:=N,bk:=D.nx} f h)
noncomputable def vF(fp:List Ye)(h:YT):List (Ye×uc):=fp.filterMap λb=>(h.get? b).map λo=>(b,o)
theorem hG{o:uc}(a:b∈fp)(e:h.get? b=Ya o):(b,o)∈vF fp h:=acj.mpr ⟨b,a,by rw[e];rfl⟩
theorem JR{p:Ye×uc}(hp:p∈vF fp h):p.1∈fp/\h.get? p.1=Ya p.2:=by
 obtain⟨b,a,e⟩:=acj.mp hp;cases q:h.get? b with
 |none=>rw[q]at e;cases e
 |some o=>
  rw[q]at e;have c:(b,o)=p:=YK e;subst c;exact⟨a,q⟩
theorem aM.pinned(I:aM X Za σ H s)(f:∀b∈fp,uw X Za H b)(ho:∀b∈fp,∃o,s.heap.get? b=Ya o/\∀v,o.data≠.cell v):aM X (Za++vF fp s.heap) σ H s:=
 I.pins_of λp hp=>(YM.mp hp).elim (λz=>I.pin p (YH _ z)) λz=>by
  obtain⟨a,e⟩:=JR z;obtain⟨g,h,i,_⟩:=f p.1 a;obtain⟨o,c,d⟩:=ho p.1 a;rw[e]at c;cases c;exact⟨e,g,h,i,d⟩
theorem aM.unpinned{pl:List (Ye×uc)}(I:aM X (Za++pl) σ H s):aM X Za σ H s:=I.pins_of λp hp=>I.pin p (YH _ (YU _ hp))
theorem jC{iter:cT}{P:TI}(hp:PassesOwn (Yt X.prog X.w) X.A X.env X.xe)(Q:X.calm=true)(Z:PI X tg iter P)(hg:PG X tg g)(a:CM X Zr tb)(hs:∀x,aeK iter X.env x=pure x:=by intro _;rfl):PS X (.For tg iter Zr [] pos) (PX P g tb):=by
 intro t s σ H D I h;refine wpAny_For (cu (Z t s σ H _ I h) λv s1 h1=>cu h1 λab s2 h2=>?_) hs;obtain⟨it,z,tn,J,H2,e,I2,T,G,R,W,⟨m0,w0⟩,turn⟩:=h2;subst e
 -- what stays true of the iterator's objects through the loop
 have c:∀{p:Hp},(∀b∈z,p b=Yb)->∀b∈z,uw X t p b:=λhn b a=>⟨hn b a,(R b a).2⟩;refine codeAny_forLoop_any (λn s'=>∃i A p,aM X t A p s'/\tn i s'.heap/\(∀b∈z,p b=Yb)/\W i n A p) ?_ m0 ⟨0,σ,H2,I2,G,λb a=>(R b a).1,w0⟩;rintro n S ⟨i,B,F,U,C,E,w3⟩;rcases turn i n B F w3 with⟨stop,qn⟩|⟨go,N,hN,step⟩
 ·refine abT hp (cu (T.done X rfl rfl rfl Q i t S B F X.xe U (c E) C stop) λr s4 w=>?_);obtain⟨K,I4⟩:=w;subst K;exact ac3 ⟨B,F,I4,qn⟩
 ·refine abT hp (cu (T.item X rfl rfl rfl Q i t S B F X.xe U (c E) C go) λr s4 w=>?_);obtain⟨u,K,h4⟩:=w;subst K;refine abT hp (cu h4 λ_ V w=>?_);obtain⟨x,Y,I5,r5,y5,y,L⟩:=w;have M:=I5.pinned (c L) (T.obj _ _ y);refine abT hp (cu (hg _ V B Y x u _ M r5 (step x Y y5)) λ_ s6 w=>?_);obtain⟨σ6,H6,I6,q6⟩:=w;refine abT hp (cu (a _ s6 σ6 H6 _ I6 q6) λf O q=>?_);have again:∀{j:St} {k:Hp},aM X (t++vF z V.heap) j k O->N j k->∃m,m<n/\∃i A p,aM X t A p O/\tn i O.heap/\(∀b∈z,p b=Yb)/\W i m A p:=fun{j k} l n7=>by
   obtain⟨m',hm,w7⟩:=hN j k n7;refine⟨m',hm,i+ 1,j,k,l.unpinned,T.keep _ _ _ y λb a o e=>(l.pin (b,o) (YH _ (YH _ (hG a e)))).1,λb a=>?_,w7⟩;obtain⟨o,e,d⟩:=T.obj _ _ y b a;exact(l.pin (b,o) (YH _ (YH _ (hG a e)))).2.1
  cases f with
  |next=>obtain⟨j,k,l,n7⟩:=q;exact again l n7
  |cont=>obtain⟨j,k,l,n7⟩:=q;exact again l n7
  |brk=>obtain⟨j,k,l,q⟩:=q;exact⟨j,k,l.unpinned,q⟩
  |ret v=>obtain⟨x7,j,k,l,r7,q⟩:=q;exact⟨x7,j,k,l.unpinned,r7,q⟩
end
theorem l9{K:Yc}{xs:List V}(b:Nat->St->Hp->Prop)(h0:b 0 σ H)(hl:∀i σ H,i<=xs.length->b i σ H->bc K H a xs)(hs:∀i x σ H,xs[i]?=Ya x->b i σ H->g x σ H λd f=>tb {D with nx:=b (i+ 1),ct:=b (i+ 1),bk:=D.nx} d f)(hd:∀σ H,b xs.length σ H->D.nx σ H):
  ∃W:Nat->Nat->St->Hp->Prop,(∃m,W 0 m σ H)/\∀i m σ H,W i m σ H->
   ((Lp K a).stop i H/\D.nx σ H)∨((Lp K a).go i H/\∃N:St->Hp->Prop,(∀h H',N h H'->∃j,j<m/\W (i+ 1) j h H')/\∀x H',(Lp K a).yld i H x H'->g x σ H' λd f=>tb {D with nx:=N,ct:=N,bk:=D.nx} d f):=by
 refine⟨λi m σ H=>m=xs.length-i/\i<=xs.length/\b i σ H,⟨xs.length,by simp,Y9 _,h0⟩,?_⟩;rintro i m σ H ⟨rfl,k,p⟩;have q:=hl i σ H k p;by_cases c:i<xs.length
 ·refine .inr ⟨⟨xs,xs[i],q,by simp[c]⟩,b (i+ 1),λh H' l=>⟨xs.length-(i+ 1),by omega,rfl,c,l⟩,λx H' y=>?_⟩;obtain⟨e,y⟩:=y;subst e;exact hs i x σ _ (y xs q) p
 ·have e:i=xs.length:=by omega
  subst e;exact .inl ⟨⟨xs,q,Yl _⟩,hd σ H p⟩
theorem CD{K:Yc}{xs:List V}(b:Nat->St->Hp->Prop)(h0:b 0 σ H)(hl:∀i σ H,i<=xs.length->b i σ H->bI K H a xs)(hs:∀i x σ H,xs[i]?=Ya x->b i σ H->g x σ H λd f=>tb {D with nx:=b (i+ 1),ct:=b (i+ 1),bk:=D.nx} d f)(hd:∀σ H,b xs.length σ H->D.nx σ H):
  ∃W:Nat->Nat->St->Hp->Prop,(∃m,W 0 m σ H)/\∀i m σ H,W i m σ H->
   ((MJ K a).stop i H/\D.nx σ H)∨((MJ K a).go i H/\∃N:St->Hp->Prop,(∀h H',N h H'->∃j,j<m/\W (i+ 1) j h H')/\∀x H',(MJ K a).yld i H x H'->g x σ H' λd f=>tb {D with nx:=N,ct:=N,bk:=D.nx} d f):=by
 refine⟨λi m σ H=>m=xs.length-i/\i<=xs.length/\b i σ H,⟨xs.length,by simp,Y9 _,h0⟩,?_⟩;rintro i m σ H ⟨rfl,k,p⟩;have q:=hl i σ H k p;by_cases c:i<xs.length
 ·refine .inr ⟨⟨xs,xs[i],q,by simp[c]⟩,b (i+ 1),λh H' l=>⟨xs.length-(i+ 1),by omega,rfl,c,l⟩,λx H' y=>?_⟩;obtain⟨e,y⟩:=y;subst e;exact hs i x σ _ (y xs q) p
 ·have e:i=xs.length:=by omega
  subst e;exact .inl ⟨⟨xs,q,Yl _⟩,hd σ H p⟩
theorem Bg{lo:Int}(a:Nat->St->Hp->Prop)(h0:a 0 σ H)(hs:∀i σ H,i<n->a i σ H->g (.int (lo+ i)) σ H λc d=>tb {D with nx:=a (i+ 1),ct:=a (i+ 1),bk:=D.nx} c d)(hd:∀σ H,a n σ H->D.nx σ H):
  ∃W:Nat->Nat->St->Hp->Prop,(∃m,W 0 m σ H)/\∀i m σ H,W i m σ H->
   ((K3 lo n).stop i H/\D.nx σ H)∨((K3 lo n).go i H/\∃N:St->Hp->Prop,(∀f H',N f H'->∃h,h<m/\W (i+ 1) h f H')/\∀x H',(K3 lo n).yld i H x H'->g x σ H' λc d=>tb {D with nx:=N,ct:=N,bk:=D.nx} c d):=by
 refine⟨λi m σ H=>m=n-i/\i<=n/\a i σ H,⟨n,by simp,Y9 _,h0⟩,?_⟩;rintro i m σ H ⟨rfl,k,p⟩;by_cases b:i<n
 ·refine .inr ⟨b,a (i+ 1),λf H' j=>⟨n-(i+ 1),by omega,rfl,b,j⟩,λx H' y=>?_⟩;obtain⟨e,y⟩:=y;subst e y;exact hs i σ _ b p
 ·have e:i=n:=by omega
  subst e;exact .inl ⟨Yl _,hd σ H p⟩
abbrev R2:=V->V->Hp->VK->Prop
variable{r:R2}
def tE(X:Cx)(f:Yd->Yd->aeI Yd)(r:R2):Prop:=
 ∀(a:List (Ye×uc)) (s:Ym) (σ:St) (H:Hp) (x y:V) (v u:Yd) (Q:VK),aM X a σ H s->RelV x v->RelV y u->r x y H Q->
  Yq (Yt X.prog X.w) X.A (f v u) (EP X a σ Q) X.xe s
def c6(X:Cx)(f:Yd)(r:List V->Hp->VK->Prop):Prop:=
 ∀(a:List (Ye×uc)) (s:Ym) (σ:St) (H:Hp) (b:List V) (c:List Yd) (Q:VK),aM X a σ H s->Vals b c->r b H Q->
  Yq (Yt X.prog X.w) X.A (call f c) (EP X a σ Q) X.xe s
def XD(X:Cx)(r:V->Hp->(Bool->Hp->Prop)->Prop):Prop:=
 ∀(a:List (Ye×uc)) (s:Ym) (σ:St) (H:Hp) (x:V) (v:Yd) (Q:Bool->Hp->Prop),aM X a σ H s->RelV x v->r x H Q->
  Yq (Yt X.prog X.w) X.A (truthy v) (TP X a σ Q) X.xe s
def Vl(r:R2)(ta tb:TE):TE:=λσ H Q=>ta σ H λx a=>tb σ a λy b=>r x y b Q
def rI(C:Int->Int->Prop)(g:Int->Int->V):R2:=λx y H Q=>∃i j,x=.int i/\y=.int j/\C i j/\Q (g i j) H
def N6(g:Int->Int->V):R2:=λx y H Q=>∃i j,x=.int i/\y=.int j/\Q (g i j) H
section
variable{a b:cT}{tb tc:TE}
theorem Um(ha:PE X a ta)(i:PE X b tb)(I:aM X Za σ H s)(h:ta σ H λx e=>tb σ e λy c=>R x y c)(j:∀v u d x y c,aM X Za σ c d->RelV x v->RelV y u->R x y c->Yq (Yt X.prog X.w) X.A (f v u) Q X.xe d):
  Yq (Yt X.prog X.w) X.A (pk a X.env) (λv k=>Yq (Yt X.prog X.w) X.A (pk b X.env) (λu l=>Yq (Yt X.prog X.w) X.A (f v u) Q X.xe l) X.xe k) X.xe s:=by
 refine cu (ha Za s σ H _ I h) λv m g=>?_;obtain⟨x,e,n,o,p⟩:=g;refine cu (i Za m σ e _ n p) λu d g=>?_;obtain⟨y,c,q,r,t⟩:=g;exact j v u d x y c q o r t
theorem aX{op:Operator}(ho:tE X (acR op) r)(ha:PE X a ta)(c:PE X b tb):PE X (.BinOp a op b pos) (Vl r ta tb):=by
 intro d s σ H Q I h;exact wpAny_BinOp (Um ha c I h λv u e x y f g i j q=>ho d e σ f x y v u Q g i j q)
theorem Wc{C:Int->Int->Prop}{g:Int->Int->Int}(rule:∀(i j:Int) (t u:ac2) (s:Ym) (Q:Yd->Ym->Prop) (E:Yd->Ym->Prop),C i j->Q (.int (g i j) s.toks) {s with toks:=s.toks+ 1}->Yq (Yt X.prog X.w) X.A (f (.int i t) (.int j u)) Q E s):
  tE X f (rI C λi j=>.int (g i j)):=by
 intro e s σ H x y v u Q I a b h;obtain⟨i,j,rfl,rfl,c,q⟩:=h;obtain⟨t,rfl⟩:=a;obtain⟨d,rfl⟩:=b;exact rule i j t d s _ _ c ⟨.int (g i j),H,I.tok _,⟨_,rfl⟩,q⟩
theorem Tc{g:Int->Int->Int}(rule:∀(i j:Int) (t u:ac2) (s:Ym) (Q:Yd->Ym->Prop) (E:Yd->Ym->Prop),Q (.int (g i j) s.toks) {s with toks:=s.toks+ 1}->Yq (Yt X.prog X.w) X.A (f (.int i t) (.int j u)) Q E s):
  tE X f (N6 λi j=>.int (g i j)):=by
 intro d s σ H x y v u Q I a b h;obtain⟨i,j,rfl,rfl,q⟩:=h;obtain⟨t,rfl⟩:=a;obtain⟨c,rfl⟩:=b;exact rule i j t c s _ _ ⟨.int (g i j),H,I.tok _,⟨_,rfl⟩,q⟩
theorem QY{g:Int->Int->Bool}(rule:∀(i j:Int) (t u:ac2) (s:Ym) (Q:Yd->Ym->Prop) (E:Yd->Ym->Prop),Q (.bool (g i j)) s->Yq (Yt X.prog X.w) X.A (f (.int i t) (.int j u)) Q E s):
  tE X f (N6 λi j=>.bl (g i j)):=by
 intro d s σ H x y v u Q I a b h;obtain⟨i,j,rfl,rfl,q⟩:=h;obtain⟨t,rfl⟩:=a;obtain⟨c,rfl⟩:=b;exact rule i j t c s _ _ ⟨.bl (g i j),H,I,rfl,q⟩
def XW(i j:Int):Prop:=0<j/\j<1073741824
def Ox(i j:Int):Prop:=0<=j/\j<=1000000/\i.natAbs<2^64
def Cz(i j:Int):Prop:=(-(2^64)<i/\i<2^64)∨(-(2^64)<j/\j<2^64)
theorem Cz.ok{i j:Int}(h:Cz i j):IntMulOk i j:=by
 rcases h with⟨h1,h2⟩|⟨h1,h2⟩
 ·exact .of_left (aiY h1 h2)
 ·exact .of_right (aiY h1 h2)
theorem G0(k:Nat):(0:Int)<=2^k:=by
 rw[two_pow_cast];exact aet _
theorem eG:tE X (acR .Add) (N6 λi j=>.int (i+ j)):=Tc λ_ _ _ _ _ _ _ q=>add_int q
theorem yU:tE X (acR .Sub) (N6 λi j=>.int (i-j)):=Tc λ_ _ _ _ _ _ _ q=>sub_int q
theorem vx:tE X (acR .Mult) (rI Cz λi j=>.int (i*j)):=Wc λ_ _ _ _ _ _ _ a q=>mul_int q a.ok
theorem gF:tE X (acR .FloorDiv) (rI XW λi j=>.int (i / j)):=Wc λi j _ _ _ _ _ a q=>by
 have h1:(0:Int)<j:=a.1;have h2:j<1073741824:=a.2;exact floordiv_int (by omega) (by rw[Int.fdiv_eq_ediv_of_nonneg i (by omega)];exact q) (.inl (PyProof.noPylong_small (by omega)))
theorem c8:tE X (acR .Mod) (rI (λ_ j=>0<j) λi j=>.int (i%j)):=Wc λi j _ _ _ _ _ a q=>by
 have h1:(0:Int)<j:=a;exact mod_int' (by omega) (by rw[Int.fmod_eq_emod_of_nonneg i (by omega)];exact q)
theorem CH:tE X (acR .Pow) (rI Ox λi j=>.int (i^j.toNat)):=Wc λ_ _ _ _ _ _ _ a q=>pow_int_small a.1 a.2.1 a.2.2 q
theorem Me:tE X (acR .LShift) (rI Ox λi j=>.int (i*2^j.toNat)):=Wc λ_ _ _ _ _ _ _ a q=>lshift_int_small a.1 a.2.1 a.2.2 q
theorem UM:tE X (acR .BitAnd) (N6 λi j=>.int (Builtin.bitAnd i j)):=Tc λ_ _ _ _ _ _ _ q=>and_int q
end
noncomputable def Vr:V->V->Bool
 | .non,.non=>true| .non,.int _=>true| .int _,.non=>true| .non,.bl _=>true| .bl _,.non=>true| .non,.str _=>true| .str _,.non=>true
 | .int _,.int _=>true| .bl _,.bl _=>true| .str _,.str _=>true| .byt _,.byt _=>true
 | .int _,.str _=>true| .str _,.int _=>true| .bl _,.str _=>true| .str _,.bl _=>true
 |_,_=>false
def XO:R2:=λx y H Q=>Vr x y=true/\Q (.bl (decide (x=y))) H
def XU:R2:=λx y H Q=>Vr x y=true/\Q (.bl (!decide (x=y))) H
theorem Hd{i j:Int}:decide (V.int i=V.int j)=(i==j):=by
 rw[abU];simp
theorem MI{i j:Bool}:decide (V.bl i=V.bl j)=(i==j):=by
 rw[abU];simp
theorem Hi{i j:Yo}:decide (V.str i=V.str j)=(i==j):=by
 rw[abU];simp
theorem IF{i j:Array UInt8}:decide (V.byt i=V.byt j)=(i.toList==j.toList):=by
 rw[abU];cases i;cases j;simp
section
variable{a b:cT}{tb tc:TE}
theorem bQ{Q:VK}{k a:Bool}(I:aM X Za σ H s)(q:Q (.bl k) H)(e:k=a):EP X Za σ Q (.bool a) s:=by
 subst e;exact⟨.bl k,H,I,rfl,q⟩
theorem qg:tE X (aaq .Eq) XO:=by
 intro d s σ H x y v u Q I c a h;obtain⟨hs,q⟩:=h;cases x with
 |non=>
  cases c;cases y with
  |non=>cases a;exact PySem.EqNone.eq_none_none (bQ I q (by simp))
  |bl j=>cases a;exact PySem.EqNone.eq_none_bool (bQ I q (by simp))
  |int j=>obtain⟨b,rfl⟩:=a;exact PySem.EqNone.eq_none_int (bQ I q (by simp))
  |str j=>obtain⟨b,rfl⟩:=a;exact PySem.EqNone.eq_none_str (bQ I q (by simp))
  |_=>exact absurd (show false=true from hs) YX
 |bl i=>
  cases c;cases y with
  |non=>cases a;exact PySem.EqNone.eq_bool_none (bQ I q (by simp))
  |bl j=>cases a;exact eq_bool (bQ I q MI)
  |str j=>obtain⟨b,rfl⟩:=a;exact PySem.EqMixed.eq_bool_str (bQ I q (by simp))
  |_=>exact absurd (show false=true from hs) YX
 |int i=>
  obtain⟨t,rfl⟩:=c;cases y with
  |non=>cases a;exact PySem.EqNone.eq_int_none (bQ I q (by simp))
  |int j=>obtain⟨b,rfl⟩:=a;exact eq_int (bQ I q Hd)
  |str j=>obtain⟨b,rfl⟩:=a;exact PySem.EqMixed.eq_int_str (bQ I q (by simp))
  |_=>exact absurd (show false=true from hs) YX
 |str i=>
  obtain⟨t,rfl⟩:=c;cases y with
  |non=>cases a;exact PySem.EqNone.eq_str_none (bQ I q (by simp))
  |bl j=>cases a;exact PySem.EqMixed.eq_str_bool (bQ I q (by simp))
  |int j=>obtain⟨b,rfl⟩:=a;exact PySem.EqMixed.eq_str_int (bQ I q (by simp))
  |str j=>obtain⟨b,rfl⟩:=a;exact eq_str (bQ I q Hi)
  |_=>exact absurd (show false=true from hs) YX
 |byt i=>
  obtain⟨t,rfl⟩:=c;cases y with
  |byt j=>obtain⟨b,rfl⟩:=a;exact PySem.W.eq_bytes (bQ I q IF)
  |_=>exact absurd (show false=true from hs) YX
 |_=>cases y<;>exact absurd (show false=true from hs) YX
theorem Iv:tE X (aaq .NotEq) XU:=by
 intro d s σ H x y v u Q I c a h;obtain⟨hs,q⟩:=h;cases x with
 |non=>
  cases c;cases y with
  |non=>cases a;exact PySem.EqNone.ne_none_none (bQ I q (by simp))
  |bl j=>cases a;exact PySem.EqNone.ne_none_bool (bQ I q (by simp))
  |int j=>obtain⟨b,rfl⟩:=a;exact PySem.EqNone.ne_none_int (bQ I q (by simp))
  |str j=>obtain⟨b,rfl⟩:=a;exact PySem.EqNone.ne_none_str (bQ I q (by simp))
  |_=>exact absurd (show false=true from hs) YX
 |bl i=>
  cases c;cases y with
  |non=>cases a;exact PySem.EqNone.ne_bool_none (bQ I q (by simp))
  |bl j=>cases a;exact ne_bool (bQ I q (congrArg not MI))
  |str j=>obtain⟨b,rfl⟩:=a;exact PySem.EqMixed.ne_bool_str (bQ I q (by simp))
  |_=>exact absurd (show false=true from hs) YX
 |int i=>
  obtain⟨t,rfl⟩:=c;cases y with
  |non=>cases a;exact PySem.EqNone.ne_int_none (bQ I q (by simp))
  |int j=>obtain⟨b,rfl⟩:=a;exact ne_int (bQ I q (congrArg not Hd))
  |str j=>obtain⟨b,rfl⟩:=a;exact PySem.EqMixed.ne_int_str (bQ I q (by simp))
  |_=>exact absurd (show false=true from hs) YX
 |str i=>
  obtain⟨t,rfl⟩:=c;cases y with
  |non=>cases a;exact PySem.EqNone.ne_str_none (bQ I q (by simp))
  |bl j=>cases a;exact PySem.EqMixed.ne_str_bool (bQ I q (by simp))
  |int j=>obtain⟨b,rfl⟩:=a;exact PySem.EqMixed.ne_str_int (bQ I q (by simp))
  |str j=>obtain⟨b,rfl⟩:=a;exact ne_str (bQ I q (congrArg not Hi))
  |_=>exact absurd (show false=true from hs) YX
 |byt i=>
  obtain⟨t,rfl⟩:=c;cases y with
  |byt j=>obtain⟨b,rfl⟩:=a;exact PySem.W.ne_bytes (bQ I q (congrArg not IF))
  |_=>exact absurd (show false=true from hs) YX
 |_=>cases y<;>exact absurd (show false=true from hs) YX
theorem yE:tE X (aaq .Lt) (N6 λi j=>.bl (decide (i<j))):=QY λ_ _ _ _ _ _ _ q=>ah7 q
theorem VA:tE X (aaq .LtE) (N6 λi j=>.bl (decide (i<=j))):=QY λ_ _ _ _ _ _ _ q=>le_int q
theorem Ot:tE X (aaq .Gt) (N6 λi j=>.bl (decide (j<i))):=QY λ_ _ _ _ _ _ _ q=>gt_int q
theorem AB:tE X (aaq .GtE) (N6 λi j=>.bl (decide (j<=i))):=QY λ_ _ _ _ _ _ _ q=>ge_int q
theorem xZ:tE X (aaq .IsNot) (λx y H Q=>y=.non/\Q (.bl (!decide (x=.non))) H):=by
 intro c s σ H x y v u Q I a b h;obtain⟨rfl,q⟩:=h;cases b;refine isnot_none_gen (bQ I q ?_);cases x<;>first
  |(cases a;rfl)
  |(obtain⟨t,rfl⟩:=a;rfl)
theorem bu(b:cT)(h:op≠.In:=by decide)(h2:op≠.NotIn:=by decide):adz op b=false:=by
 have a:(op==CmpOp.In)=false:=by cases op<;>first|rfl|exact absurd rfl h
 have c:(op==CmpOp.NotIn)=false:=by cases op<;>first|rfl|exact absurd rfl h2
 cases b<;>simp[adz,a,c]
theorem jg(ho:tE X (aaq op) r)(ha:PE X a ta)(c:PE X b tb)(hm:adz op b=false):PE X (.Compare a [op] [b] pos) (Vl r ta tb):=by
 intro d s σ H Q I h;exact wpAny_Compare1 (Um ha c I h λv u e x y f g i j q=>ho d e σ f x y v u Q g i j q) hm
def N7(t:TE):TT:=λσ H Q=>t σ H λx a=>∃k,x=.bl k/\Q k a
theorem bo(ho:tE X (aaq op) r)(ha:PE X a ta)(g:PE X b tb)(hm:adz op b=false):PT X (.Compare a [op] [b] pos) (N7 (Vl r ta tb)):=by
 intro f s σ H Q I h;refine afZ (cu (ha f s σ H _ I h) λv i d=>?_) hm;obtain⟨x,j,l,m,n⟩:=d;refine cu (g f i σ j _ l n) λu o d=>?_;obtain⟨y,p,q,t,w⟩:=d;refine cu (ho f o σ p x y v u _ q m t w) λc E d=>?_;obtain⟨z,A,B,C,k,e,D⟩:=d;subst e;cases C;exact abA ⟨A,B,D⟩
def MX(K:Yc)(x:V)(H:Hp)(k:Bool):Prop:=
 match x with
 | .non=>k=false
 | .bl b=>k=b
 | .int i=>k=(i !=0)
 | .str y=>y.length<=YB/\k=((y.length:Int) !=0)
 | .byt y=>y.size<=YB/\k=((y.size:Int) !=0)
 | .ref p=>(∃a,bc K H p a/\k=!a.isEmpty)∨(∃a,bI K H p a/\k=!a.isEmpty)∨∃c,H p=Ya (.dK c)/\k=!c.isEmpty
 |_=>False
theorem G5{κ:Type}{kvs:List (κ×V)}{vs:List (κ×Yd)}(r:KV kvs vs):(!vs.isEmpty)=!kvs.isEmpty:=by
 cases r<;>rfl
theorem yD{xs:List V}{its:List Yd}(r:Vals xs its):(!its.toArray.isEmpty)=!xs.isEmpty:=by
 cases r<;>simp
theorem yY:(YB:Nat)<2^63:=by rw[aaM];decide
theorem Uk:XD X (λx H Q=>∃k,MX X.K x H k/\Q k H):=by
 intro z s σ H x v Q I g h;obtain⟨k,e,q⟩:=h;have hl:=yY;have hs:YB=16777216:=aaM;cases x with
 |non=>
  cases g;have a:k=false:=e;subst a;exact truthy_none ⟨H,I,q⟩
 |bl b=>
  cases g;have a:k=b:=e;subst a;exact abA ⟨H,I,q⟩
 |int i=>
  obtain⟨t,rfl⟩:=g;have a:k=(i !=0):=e;subst a;exact PySem.P.truthy_int ⟨H,I,q⟩
 |str y=>
  obtain⟨t,rfl⟩:=g;obtain⟨u,a⟩:y.length<=YB/\k=((y.length:Int) !=0):=e;subst a;exact PySem.P.truthy_str (by omega) ⟨H,I.tok _,q⟩
 |byt y=>
  obtain⟨t,rfl⟩:=g;obtain⟨u,a⟩:y.size<=YB/\k=((y.size:Int) !=0):=e;subst a;exact PySem.W.truthy_bytes (by omega) ⟨H,I.tok _,q⟩
 |ref p=>
  cases g;have a:(∃f,bc X.K H p f/\k=!f.isEmpty)∨(∃f,bI X.K H p f/\k=!f.isEmpty)∨∃c,H p=Ya (.dK c)/\k=!c.isEmpty:=e;rcases a with⟨f,j,a⟩|⟨f,j,a⟩|⟨c,j,a⟩
  ·subst a;obtain⟨l,r,n,o⟩:=I.list j;have d:=r.length;exact wpAny_truthy_list n.isList (by simp only[Yz];omega) ⟨H,I.tok _,by rw[yD r];exact q⟩
  ·subst a;obtain⟨l,r,n,o⟩:=I.tuple j;have d:=r.length;exact truthy_tuple n (by simp only[Yz];omega) ⟨H,I.tok _,by rw[yD r];exact q⟩
  ·subst a;obtain⟨o,w,vs,r,m⟩:c.length<=YB/\(p==aah)=false/\∃vs,KV c vs/\s.heap.DictOf (aY X.prog X.w) p vs:=I.hok p _ j;have d:c.length=vs.length:=Y7 r;exact wpAny_truthy_dict w m (by omega) ⟨H,I.tok _,by rw[G5 r];exact q⟩
 |_=>exact(show False from e).elim
theorem FC(ha:PE X a ta)(d:∀b,aib a X.env b=(do let v←b;adN a.pos;acF [v] (truthy v))):
  PT X a (λσ H Q=>ta σ H λx H'=>∃k,MX X.K x H' k/\Q k H'):=by
 intro c s σ H Q I h;exact isTrue_plain (cu (ha c s σ H _ I h) λv e ⟨x,f,g,i,j⟩=>Uk c e σ f x v Q g i j) (d _)
theorem dW{x:V}(r:Vals [x] us):∃u,us=[u]/\RelV x u:=by
 cases r with
 |cons r1 r2=>cases r2;exact⟨_,rfl,r1⟩
theorem AD{x:V}(r:Vals [x,y] us):∃u w',us=[u,w']/\RelV x u/\RelV y w':=by
 cases r with
 |cons r1 r2=>
  cases r2 with
  |cons r3 r4=>cases r4;exact⟨_,_,rfl,r1,r3⟩
theorem LH:c6 X (.builtin "abs") (λxs H Q=>∃i,xs=[.int i]/\Q (.int (if i<0 then-i else i)) H):=by
 intro a s σ H xs b Q I r h;obtain⟨i,rfl,q⟩:=h;obtain⟨u,rfl,t,rfl⟩:=dW r;exact call_abs_int λu tk=>⟨.int (if i<0 then-i else i),H,I.tok _,⟨_,rfl⟩,q⟩
theorem Jl(b:X.calm=true):c6 X (.builtin "max") (λxs H Q=>∃i j,xs=[.int i,.int j]/\Q (.int (if j>i then j else i)) H):=by
 intro c s σ H xs d Q I r h;obtain⟨i,j,rfl,q⟩:=h;obtain⟨u,e,rfl,⟨t,rfl⟩,⟨f,rfl⟩⟩:=AD r;refine max_two_ints (I.ok.hd b) λg tk k=>⟨_,H,I.kept k,?_,q⟩;by_cases a:j>i
 ·rw[if_pos a,if_pos a];exact⟨_,rfl⟩
 ·rw[if_neg a,if_neg a];exact⟨_,rfl⟩
theorem Km(b:X.calm=true):c6 X (.builtin "min") (λxs H Q=>∃i j,xs=[.int i,.int j]/\Q (.int (if j<i then j else i)) H):=by
 intro c s σ H xs d Q I r h;obtain⟨i,j,rfl,q⟩:=h;obtain⟨u,e,rfl,⟨t,rfl⟩,⟨f,rfl⟩⟩:=AD r;refine min_two_ints (I.ok.hd b) λg tk k=>⟨_,H,I.kept k,?_,q⟩;by_cases a:j<i
 ·rw[if_pos a,if_pos a];exact⟨_,rfl⟩
 ·rw[if_neg a,if_neg a];exact⟨_,rfl⟩
end
structure F0(h:YT)(x dx C:Ye)(mA:Yo->Option Yd):Prop where
 obj:h.get? x=Ya (abt C dx)
 ns:h.Ns1 dx mA
 ne:dx≠x
theorem J4(n:h.Ns1 dx mA):∃od,h.get? dx=Ya od/\∀name,aef name od=Ya (mA name):=by
 obtain⟨o,c,i,ho,hd,d,_,hm⟩:=n;refine⟨o,ho,λname=>?_⟩;have e:=hm name;unfold nsFind findBy at e;rw[←Array.find?_toList]at e;unfold aef;rw[hd];dsimp only;split
 ·rename_i y q;rw[q]at e;exact congrArg Ya e
 ·rename_i q;rw[q]at e;have a:c.toList.any (·.refKey)=false:=by
   rw[aeL];intro y f;obtain⟨z,t,b⟩:=d y (abY.mp f);simp[DictEntry.refKey,b]
  have g:¬ c.toList.any (·.refKey)=true:=by rw[a];exact YX
  rw[if_neg g];exact congrArg Ya e
theorem F0.look{x:Ye}(I:F0 h x dx C mA):∃od,PySem.W.InstAt h x (abt C dx) C (Ya od)/\∀name,aef name od=Ya (mA name):=
 let ⟨od,ho,hl⟩:=J4 I.ns
 ⟨od,⟨I.obj,rfl,rfl,ho⟩,hl⟩
section
variable{K:Yc}{x f:Ye}{v:Yd}
theorem Qx{a:Bool}(X:K.In s.heap)(I:F0 s.heap x dx C mA)(c:adG K C name=true)(d:aeM K C=true)(ha:jJ K (.ref C) name=Ya Yb)(e:mA name=Ya v)(b:ae8 v=true)(h:Q v {s with toks:=s.toks+ 1}):
  Yq (Yt prog w) A (ajA (.ref x) name a) Q E s:=by
 obtain⟨od,J,hl⟩:=I.look;exact PySem.W.get_value X J (ad8 c).1 (PySem.W.findObj_own d ha rfl (by rw[hl,e])) b h
theorem LN{Q:Yd×List Yd->Ym->Prop}(X:K.In s.heap)(I:F0 s.heap x dx C mA)(a:adG K C name=true)(b:jJ K (.ref C) name=Ya (Ya (.ref f)))(c:ag3 K (.ref f)=true)(d:mA name=Yb)(h:Q (.ref f,[.ref x]) s):
  Yq (Yt prog w) A (ac6 (.ref x) name pl) Q E s:=by
 obtain⟨od,J,hl⟩:=I.look;exact PySem.W.method_fn X J (ad8 a).1 (ad8 a).2 b (beq_iff_eq.mp c) (by show(aef name od).map (·.isSome)=Ya false;rw[hl,d];rfl) h
theorem QI{ns:List Yo}{Q:Unit->Ym->Prop}(X:K.In s.heap)(I:F0 s.heap x dx C mA)
  (hs:jJ K (.ref C) "__setattr__"=Ya (Ya (.builtin "object.__setattr__"))) (hp:ahm K C=true) (j:afC K C name=Ya Yb) (k:aeM K C=true)
  (hw:aes mA ns) (hsz:ns.length<=YB)
  (h:∀h',F0 h' x dx C (λy=>if y=name then Ya v else mA y)->aab dx s.heap h'->Q () {s with heap:=h',toks:=s.toks+ 2}):
  Yq (Yt prog w) A (af0 (.ref x) name v) Q E s:=by
 obtain⟨od,J,hl⟩:=I.look;refine aeN X J hs (PySem.W.osa_open (s:={s with toks:=s.toks+ 1}) (r:=Yb) X J hp j λb=>?_);obtain⟨p,l,e⟩:=PySem.W.any_some k;have m:s.heap.get? x=Ya ⟨.ref C,Ya dx,.plain,#[]⟩:=I.obj;refine Yf (Yp (Yf (Yf (af1 m (Yf (aeu (s:={s with toks:=s.toks+ 1}) (ad9 X l) ?_))))));rw[e];refine Yp (a:=Ya dx) (Yf (Yp (Yf ?_)));refine ajb (s:={s with toks:=s.toks+ 1}) I.ns λh' c d=>?_;obtain⟨q,n,o,f,g,i⟩:=c.count (PySem.Within.cons name v hw);refine Yf (ahH f (by rw[g];exact ahI (xy i (by rw[Y5];omega))) ?_);exact Yp (h _ ⟨(d.2 _ (Ne.symm I.ne)).trans I.obj,c,I.ne⟩ d)
theorem Mp{R:ack->Ym->Prop}{vs:List Yd}(X:K.In s.heap)(hm:aid K C=true)(a:jJ K (.ref C) "__init__"=Ya (Ya (.ref f)))(b:aiD K (.ref f)=Ya (.type "function"))(h:Rk (Yt prog w) (A.under (.builtin "type.__call__" ⟨.ref C::vs,kw⟩)) (.call (.ref f) ⟨.ref (s.heap.objs.size+ 1)::vs,kw⟩) (ahJ (s.heap.objs.size+ 1) R)
   {s with heap:=(s.heap.push aaZ).push (abt C s.heap.objs.size)}):
  Rk (Yt prog w) A (.call (.ref C) ⟨vs,kw⟩) R s:=by
 obtain⟨c,g,d,t,os⟩:=s;exact PySem.W.make_core (PySem.W.makes_of X hm) (PySem.W.looks_findIn X a) (λself=>PySem.W.bind_fn X self b) (.inl rfl) h
end
noncomputable def dz(f:Yo)(v:V):List (Yo×V)->List (Yo×V)
 |[]=>[(f,v)]
 |(g,x)::r=>if g=f then(g,v)::r else(g,x)::dz f v r
theorem p8(f g:Yo)(v:V):∀fs:List (Yo×V),(dz f v fs).lookup g=if g=f then Ya v else fs.lookup g
 |[]=>by
  show abZ g [(f,v)]=_;by_cases h:g=f
  ·have a:(g==f)=true:=beq_iff_eq.mpr h;simp only[abZ,a,if_pos h]
  ·have a:(g==f)=false:=beq_eq_false_iff_ne.mpr h;simp only[abZ,a,if_neg h]
 |(k,x)::r=>by
  have c:=p8 f g v r;rw[show dz f v ((k,x)::r)=(if k=f then(k,v)::r else(k,x)::dz f v r)from rfl];by_cases b:k=f
  ·rw[if_pos b];by_cases h:g=k
   ·have a:(g==k)=true:=beq_iff_eq.mpr h;simp only[abZ,a,if_pos (h.trans b)]
   ·have a:(g==k)=false:=beq_eq_false_iff_ne.mpr h;simp only[abZ,a,if_neg (λe:g=f=>h (e.trans b.symm))]
  ·rw[if_neg b];by_cases h:g=k
   ·have a:(g==k)=true:=beq_iff_eq.mpr h;simp only[abZ,a,if_neg (λe:g=f=>b (h.symm.trans e))]
   ·have a:(g==k)=false:=beq_eq_false_iff_ne.mpr h;simp only[abZ,a];exact c
theorem lO(f:Yo)(v:V):∀fs:List (Yo×V),f∈(dz f v fs).map (·.1)/\∀g,g∈fs.map (·.1)->g∈(dz f v fs).map (·.1)
 |[]=>⟨by simp[dz],λg h=>by simp at h⟩
 |(k,x)::r=>by
  obtain⟨b,c⟩:=lO f v r;rw[show dz f v ((k,x)::r)=(if k=f then(k,v)::r else(k,x)::dz f v r)from rfl];by_cases a:k=f
  ·rw[if_pos a];subst a;exact⟨by simp,λg h=>by simpa using h⟩
  ·rw[if_neg a];refine⟨?_,λg h=>?_⟩
   ·rw[YF];exact Yr _ b
   ·rw[YF]at h⊢;rcases Yn.mp h with e|e
    ·exact Yn.mpr (.inl e)
    ·exact Yr _ (c g e)
theorem wA(f:Yo)(v:V):∀fs:List (Yo×V),(dz f v fs).length<=fs.length+ 1
 |[]=>by simp[dz]
 |(k,x)::r=>by
  have b:=wA f v r;rw[show dz f v ((k,x)::r)=(if k=f then(k,v)::r else(k,x)::dz f v r)from rfl];by_cases a:k=f
  ·rw[if_pos a,Y5,Y5];omega
  ·rw[if_neg a,Y5,Y5];omega
theorem kP.some_of{o:Option Yd}(r:kP (Ya v) o):∃u,o=Ya u/\RelV v u:=by
 cases o with
 |none=>exact(show False from r).elim
 |some u=>exact⟨u,rfl,r⟩
theorem kP.none_of{o:Option Yd}(r:kP Yb o):o=none:=by
 cases o with
 |none=>rfl
 |some u=>exact(show False from r).elim
theorem Kd(r:RelV v u):ae8 u=true:=by
 cases v with
 |non=>cases (show u=aao from r);rfl
 |bl b=>cases (show u=acP b from r);rfl
 |int i=>obtain⟨t,e⟩:=(show∃t,u=abn i t from r);cases e;rfl
 |str x=>obtain⟨t,e⟩:=(show∃t,u=afB x t from r);cases e;rfl
 |byt b=>obtain⟨t,e⟩:=(show∃t,u=ajt b t from r);cases e;rfl
 |flt b=>obtain⟨t,e⟩:=(show∃t,u=ahB b t from r);cases e;rfl
 |ref a=>cases (show u=YG a from r);rfl
 |ty n=>cases (show u=aaD n from r);rfl
section
variable{fs':List (Yo×V)}
theorem xT(hok:mE P w H h)(e:H a=Ya (.ins C dx fs)):∃mA,F0 h a dx C mA/\(∀f,kP (fs.lookup f) (mA f))/\aes mA (fs.map (·.1))/\fs.length<=1000/\H dx=Ya (.own a):=by
 obtain⟨d,z,ne,ob,mA,n,r,q⟩:=(show cg P w H h a (.ins C dx fs)from hok a _ e);exact⟨mA,⟨ob,n,ne⟩,r,q,z,d⟩
end
structure Av(K:Yc)(C:Ye):Prop where
 pg:adG K C Str.empty=true
 hd:aeM K C=true
 po:ahm K C=true
 sa:jJ K (.ref C) "__setattr__"=Ya (Ya (.builtin "object.__setattr__"))
theorem Av.get{K:Yc}(c:Av K C)(f:Yo):adG K C f=true:=c.pg
def cz(K:Yc)(C:Ye)(f:Yo):Prop:=jJ K (.ref C) f=Ya Yb
theorem cz.taker{K:Yc}{f:Yo}(n:cz K C f):afC K C f=Ya none:=by
 unfold afC;rw[show jJ K (.ref C) f=Ya Yb from n];rfl
structure bx(K:Yc)(C:Ye)(m:Yo)(f:Ye):Prop where
 at_:jJ K (.ref C) m=Ya (Ya (.ref f))
 fn:ag3 K (.ref f)=true
 kp:abK K (.ref f)=true
section
variable{f:Yo}
theorem FV{b:Bool}(I:aM X Za σ H s)(e:H a=Ya (.ins C dx fs))(c:Av X.K C)(n:cz X.K C f)(l:fs.lookup f=Ya v)(h:∀u s',aM X Za σ H s'->RelV v u->Q u s'):Yq (Yt X.prog X.w) A (ajA (.ref a) f b) Q E s:=by
 obtain⟨g,O,r,_,_,_⟩:=xT I.hok e;obtain⟨u,i,d⟩:=kP.some_of (v:=v) (o:=g f) (by rw[←l];exact r f);exact Qx I.kIn O (c.get f) c.hd n i (Kd d) (h u _ (I.tok _) d)
theorem jm{g:Ye}{Q:Yd×List Yd->Ym->Prop}(I:aM X Za σ H s)(e:H a=Ya (.ins C dx fs))(c:Av X.K C)(k:bx X.K C m g)(l:fs.lookup m=Yb)(h:Q (.ref g,[.ref a]) s):Yq (Yt X.prog X.w) A (ac6 (.ref a) m pl) Q E s:=by
 obtain⟨b,O,r,_,_,_⟩:=xT I.hok e;have hn:b m=none:=kP.none_of (by rw[←l];exact r m);exact LN I.kIn O (c.get m) k.at_ k.fn hn h
theorem GQ{Q:Unit->Ym->Prop}(I:aM X Za σ H s)(e:H a=Ya (.ins C dx fs))(c:Av X.K C)(n:cz X.K C f)(hl:fs.length<1000)(k:RelV y u)(h:∀s',aM X Za σ (upd H a (.ins C dx (dz f y fs))) s'->Q () s'):Yq (Yt X.prog X.w) A (af0 (.ref a) f u) Q E s:=by
 obtain⟨i,O,r,j,_,ho⟩:=xT I.hok e;have l:(fs.map (·.1)).length<=YB:=by rw[Yg,aaM];omega
 refine QI I.kIn O c.sa c.po n.taker c.hd j l λm d p=>h _ ?_;have hd:∃o,m.get? dx=Ya o:=let ⟨o,_,_,e',_⟩:=d.ns;⟨o,e'⟩;refine I.write (x:=a) (e:=dx) (by rw[e];exact abj) (.inr ho) (λb q t z=>(p.2 b t).trans z) hd ?_;refine⟨by rw[ak O.ne];exact ho,?_,O.ne,d.obj,_,d.ns,λg=>?_,λg v=>?_⟩
 ·have:=wA f y fs;omega
 ·show kP ((dz f y fs).lookup g) (if g=f then Ya u else i g);rw[p8];by_cases q:g=f
  ·rw[if_pos q,if_pos q];exact k
  ·rw[if_neg q,if_neg q];exact r g
 ·by_cases q:g=f
  ·rw[q];exact(lO f y fs).1
  ·refine(lO f y fs).2 g (j g λz=>v ?_);show(if g=f then Ya u else i g)=Yb;rw[if_neg q];exact z
theorem aM.made(I:aM X Za σ H s):aM X Za σ (upd (upd H s.heap.objs.size (.own (s.heap.objs.size+ 1))) (s.heap.objs.size+ 1) (.ins C s.heap.objs.size []))
  {s with heap:=(s.heap.push aaZ).push (abt C s.heap.objs.size)}:=by
 have c:(s.heap.push aaZ).get? s.heap.objs.size=Ya aaZ:=Yv s.heap rfl;have d:((s.heap.push aaZ).push (abt C s.heap.objs.size)).get? (s.heap.objs.size+ 1)=Ya (abt C s.heap.objs.size):=by
  have:=Yv (s.heap.push aaZ) (o:=abt C s.heap.objs.size) rfl;rwa [aaU]at this
 have f:(s.heap.push aaZ).Ns s.heap.objs.size (λ_=>Yb):=⟨aaZ,#[],_,c,rfl,(λe g=>absurd g (by simp)),λ_=>rfl⟩;have h:=I.laid (a:=s.heap.objs.size) (o:=.own (s.heap.objs.size+ 1)) (h':=s.heap.push aaZ) (t':=s.toks) (λb u q=>Yh _ q) (Yl _) ⟨_,c⟩;refine h.laid (a:=s.heap.objs.size+ 1) (o:=.ins C s.heap.objs.size []) (t':=s.toks) (λb u q=>Yh _ q) (adW (aaU _ _)) ?_;have ne:s.heap.objs.size≠s.heap.objs.size+ 1:=YL (aa2 _);refine⟨by rw[ak ne,ai],Y9 _,ne,d,λ_=>Yb,(Heap.Ns1.of_empty f).at λo q=>Yh _ q,λ_=>abj,λy i=>absurd rfl i⟩
theorem OS{f:Yo}(a:abk e f env (pk e env)=pk e env)(h:Yq (Yt prog w) A (pk e env) (λo b=>Yq (Yt prog w) A (ajA o f true) Q E b) E s):Yq (Yt prog w) A (pk (.Attribute e f pos) env) Q E s:=
 Attribute_any_ h (by rw[arm_eval_Attribute,a])
end
def T6(K:Yc)(ta:TE)(f:Yo):TE:=λσ H Q=>ta σ H λx b=>∃a C c fs v,x=.ref a/\b a=Ya (.ins C c fs)/\Av K C/\cz K C f/\fs.lookup f=Ya v/\Q v b
def MY(K:Yc)(ta tv:TE)(f:Yo):TS:=λD σ H=>tv σ H λy d=>ta σ d λx b=>∃a C c fs,x=.ref a/\b a=Ya (.ins C c fs)/\Av K C/\cz K C f/\fs.length<1000/\
 D.nx σ (upd b a (.ins C c (dz f y fs)))
section
variable{o:cT}{f:Yo}
theorem UD(b:PE X e ta)(d:abk e f X.env (pk e X.env)=pk e X.env):PE X (.Attribute e f pos) (T6 X.K ta f):=by
 intro g s σ H Q I h;refine OS d (cu (b g s σ H _ I h) λu t i=>?_);obtain⟨x,j,k,m,a,C,w,fs,v,ex,o,c,n,l,q⟩:=i;subst ex;obtain rfl:u=YG a:=m;exact FV k o c n l λy z p r=>⟨v,j,p,r,q⟩
theorem UX(ha:PE X o ta)(e:PE X Zf tv)(hs:adM Zf (Ya (.Attribute o f Zq)) pos.line X.env=pure false):PS X (.Assign [.Attribute o f Zq] Zf pos) (MY X.K ta tv f):=by
 intro d s σ H D I h;refine adT (cu (e d s σ H _ I h) λu g b=>?_) hs;obtain⟨y,i,j,k,q⟩:=b;refine cu (ha d g σ i _ j q) λm z b=>?_;obtain⟨x,A,p,r,a,C,B,fs,ex,t,c,n,l,v⟩:=b;subst ex;obtain rfl:m=YG a:=r;exact GQ p t c n l k λE w=>⟨σ,_,w,v⟩
theorem Sa{b:List cT}(n:PE X e te)(I:aM X Za σ H s)(h:te σ H λx i=>∃a C dx fs g,x=.ref a/\i a=Ya (.ins C dx fs)/\Av X.K C/\bx X.K C m g/\fs.lookup m=Yb/\
   ∀d,aM X Za σ i d->Yq (Yt X.prog X.w) X.A (aeg pos (.ref g) [.ref a] (aal pos (YW b X.env)) (abv pos (aaN [] X.env))) Q X.xe d) (o:pk (.Call (.Attribute e m Ze) b [] pos) X.env=(do
   let ov←pk e X.env
   adN Ze.atName
   let (f,first)←acF [ov] (ac6 ov m pl)
   aeg pos f first (aal pos (YW b X.env)) (abv pos (aaN [] X.env)))):
  Yq (Yt X.prog X.w) X.A (pk (.Call (.Attribute e m Ze) b [] pos) X.env) Q X.xe s:=by
 refine abp (pl:=pl) (cu (n Za s σ H _ I h) λu d p=>?_) o;obtain⟨x,i,j,r,a,C,dx,fs,g,ex,t,c,k,l,q⟩:=p;subst ex;obtain rfl:u=YG a:=r;exact jm j t c k l (q d j)
end
section
variable{c:Yd}{b:Bool}
inductive um (K:Yc) (H:Hp):V->Yd->Prop where
 |non:um K H .non (.type "NoneType")
 |bl (x:Bool):um K H (.bl x) (.type "bool")
 |int (i:Int):um K H (.int i) (.type "int")
 |str (x:Yo):um K H (.str x) (.type "str")
 |flt (x:UInt64):um K H (.flt x) (.type "float")
 |lst {a:Ye} {xs:List V} (e:H a=Ya (.lst xs)):um K H (.ref a) (.type "list")
 |frz {a:Ye} {o:uc} {xs:List V} (e:H a=Ya (.frz o (.lst xs))):um K H (.ref a) (.type "list")
 |tup {a:Ye} {xs:List V} (e:H a=Ya (.tup xs)):um K H (.ref a) (.type "tuple")
 |dK {a:Ye} {kvs:List (bJ×V)} (e:H a=Ya (.dK kvs)):um K H (.ref a) (.type "dict")
 |dT {a:Ye} {kvs:List (List bJ×V)} (e:H a=Ya (.dT kvs)):um K H (.ref a) (.type "dict")
 |ins {a C dx:Ye} {fs:List (Yo×V)} (e:H a=Ya (.ins C dx fs)) (cl:Av K C) (ha:jJ K (.ref C) "__class__"=Ya (Ya (.builtin "object.__class__")))
   (hn:ahn K (.builtin "object.__class__") "__get__"=Ya (Ya (.builtin "getset_descriptor.__get__"))) (htk:PySem.W.takesIn K (.builtin "object.__class__")=Ya true)
   (hm:agM K C (.type "object")=Ya true):um K H (.ref a) (.ref C)
theorem J6{x:V}{t:Yd}(I:aM X Za σ H s)(d:RelV x u)(ty:um X.K H x t)(e:af2 X.K t c=Ya b)(h:∀tk,Q (.bool b) {s with toks:=tk}):
  Yq (Yt X.prog X.w) A (call (.builtin "isinstance") [u,c]) Q E s:=by
 cases ty with
 |non=>cases (show u=aao from d);exact aaO PySem.W.kitx_none I.kIn abj e (λz=>nomatch z) h
 |bl y=>cases (show u=acP y from d);exact aaO PySem.W.kitx_bool I.kIn abj e (λz=>nomatch z) h
 |int i=>obtain⟨t,q⟩:=(show∃t,u=abn i t from d);cases q;exact aaO PySem.W.kitx_int I.kIn abj e (λz=>nomatch z) h
 |str y=>obtain⟨t,q⟩:=(show∃t,u=afB y t from d);cases q;exact aaO PySem.W.kitx_str I.kIn abj e (λz=>nomatch z) h
 |flt y=>obtain⟨t,q⟩:=(show∃t,u=ahB y t from d);cases q;exact aaO PySem.W.kitx_float I.kIn abj e (λz=>nomatch z) h
 |@lst a xs ea=>
  cases (show u=YG a from d);obtain⟨_,_,n,_,h1⟩:=(show cg X.prog X.w H s.heap a (.lst xs)from I.hok a _ ea);exact aaO aho I.kIn ⟨_,h1,rfl⟩ e (λz=>nomatch z) h
 |@frz a ob xs ea=>
  cases (show u=YG a from d);obtain⟨_,_,_,n,_,h1⟩:=(show cg X.prog X.w H s.heap a (.frz ob (.lst xs))from I.hok a _ ea);exact aaO aho I.kIn ⟨_,h1,rfl⟩ e (λz=>nomatch z) h
 |@tup a xs ea=>
  cases (show u=YG a from d);obtain⟨_,_,_,p⟩:=(show cg X.prog X.w H s.heap a (.tup xs)from I.hok a _ ea);obtain⟨o,h1,h2,_⟩:=p;exact aaO PySem.W.kitx_tuple I.kIn ⟨o,h1,h2⟩ e (λz=>nomatch z) h
 |@dK a kvs ea=>
  cases (show u=YG a from d);obtain⟨_,_,j,_,p⟩:=(show cg X.prog X.w H s.heap a (.dK kvs)from I.hok a _ ea);obtain⟨o,f,g,h1,h2,_⟩:=p;exact aaO ahp I.kIn ⟨o,h1,h2.1⟩ e (λz=>nomatch z) h
 |@dT a kvs ea=>
  cases (show u=YG a from d);obtain⟨_,_,xs,_,o,f,g,h1,h2,_⟩:=(show cg X.prog X.w H s.heap a (.dT kvs)from I.hok a _ ea);exact aaO ahp I.kIn ⟨o,h1,h2.1⟩ e (λz=>nomatch z) h
 |@ins a C dx fs ea cl ha hn htk hm=>
  cases (show u=YG a from d);obtain⟨k,O,_⟩:=xT I.hok ea;obtain⟨od,J,_⟩:=O.look;exact aaO (PySem.W.kitx_own (cl.get _) cl.hd ha hn htk hm) I.kIn J e (λz=>nomatch z) h
end
structure cQ(k:Nat)(A:xw):Prop where
 hd:A.handled=Yb
 dp:A.depth+ 3*k+ 5<aeh
 un:A.units+ 16*k+ 200<aap
theorem cQ.mono(r:cQ k A)(h:j<=k):cQ j A:=⟨r.hd,by have:=r.dp;omega,by have:=r.un;omega⟩
theorem cQ.deeper(r:cQ (k+ 1) A)(env:acw):cQ k (A.deeper env):=
 ⟨r.hd,by have:=r.dp;show A.depth+ 1+ 3*k+ 5<_;omega,by have:=r.un;show A.units+ 3+ 16*k+ 200<_;omega⟩
theorem GD:(A.under (.builtin "type.__call__" ⟨.ref C::us,kw⟩)).depth=A.depth+ 1:=by
 first|rfl|simp[Around.under,Code.weight,Code.isCreation,Code.isGuard,Code.isCaller,aju,ag4,guardIds]
theorem GZ:(A.under (.builtin "type.__call__" ⟨.ref C::us,kw⟩)).units=A.units+ 1:=by
 first|rfl|simp[Around.under,Code.cUnits,aju,ag4]
theorem cQ.make(r:cQ (k+ 1) A)(C:Ye)(us:List Yd)(a:List (Yo×Yd)):cQ k (A.under (.builtin "type.__call__" ⟨.ref C::us,a⟩)):=
 ⟨r.hd,by have:=r.dp;rw[GD];omega,by have:=r.un;rw[GZ];omega⟩
theorem cQ.depth(r:cQ k A):A.depth<aeh:=by have:=r.dp;omega
theorem cQ.units(r:cQ k A):A.units+ 64<aap:=by have:=r.un;omega
theorem cQ.units0(r:cQ k A):A.units<aap:=by have:=r.un;omega
def BU:TA:=λ_ H Q=>Q [] H
def zJ(ta:TE)(tr:TA):TA:=λσ H Q=>ta σ H λx a=>tr σ a λb c=>Q (x::b) c
section
variable{t:TA}
theorem af:PA X [] BU:=λ_ _ _ _ H Q I h=>aeO ⟨[],H,I,.nil,h⟩
theorem aa(ha:PE X e te)(b:PA X es t)(hs:YW (e::es) X.env=(false,pk e X.env)::YW es X.env:=by rfl):PA X (e::es) (zJ te t):=by
 intro pos a s σ H Q I h;rw[hs];show Yq _ _ (spliced ((false,pk e X.env)::aal pos (YW es X.env))) _ _ s;refine ac7 (cu (ha a s σ H _ I h) λu c d=>?_);obtain⟨x,f,g,i,j⟩:=d;exact cu (b pos a c σ f _ g j) λp q ⟨k,l,m,n,o⟩=>⟨x::k,l,m,.cons i n,o⟩
def S1(t:TA):TE:=λσ H Q=>t σ H λa b=>a.length<=YB/\∀p,b p=Yb->Q (.ref p) (upd b p (.tup a))
def VC(t:TA):TE:=λσ H Q=>t σ H λa b=>a.length<=YB/\∀p,b p=Yb->Q (.ref p) (upd b p (.lst a))
theorem cC{f}(h:PA X es t):PE X (.Tuple es f pos) (S1 t):=by
 intro g s σ H Q I i;refine wpAny_Tuple_spliced (cu (h pos g s σ H _ I i) λj a ⟨k,c,d,r,z,q⟩=>⟨by rw[←r.length];exact z,?_⟩);have l:c a.heap.objs.size=none:=d.hok.fresh (Yl _);refine⟨.ref a.heap.objs.size,upd c a.heap.objs.size (.tup k),d.laid (t':=a.toks) (λb u e=>Yh _ e) (Yl _) ?_,rfl,q _ l⟩;exact⟨z,j,r,ox.new _ _⟩
theorem dH(h:PA X es t):PE X (.List es pos) (VC t):=by
 intro f s σ H Q I g;refine wpAny_List_spliced (cu (h pos f s σ H _ I g) λi a ⟨j,c,d,r,z,q⟩=>⟨by rw[←r.length];exact z,?_⟩);have k:c a.heap.objs.size=none:=d.hok.fresh (Yl _);refine⟨.ref a.heap.objs.size,upd c a.heap.objs.size (.lst j),d.laid (t':=a.toks) (λb u e=>Yh _ e) (Yl _) ?_,rfl,q _ k⟩;exact⟨z,i,0,r,Yv _ rfl⟩
end
abbrev Sp:=List V->Hp->VK->XK->Prop
variable{sp:Sp}
abbrev LF:=List acw->Hp->Ym->XK->Yd->Ym->Prop
variable{CX:LF}
structure G7(P:YZ)(w:Y6)(K:Yc)(mg:Yo->Option Yd)(base:YT)(A:xw)(outer:List acw)(s:Ym)(H:Hp):Prop where
 frames:A.frames=Ya outer
 mod:Mod K mg base
 bs:∀b o,base.get? b=Ya o->s.heap.get? b=Ya o/\H b=Yb
 bsz:base.objs.size<=s.heap.objs.size
 funs:s.heap.FunFrames base outer
 frf:∀b∈mF outer,H b=Yb
 hok:mE P w H s.heap
 bare:acX s.gens
def CE(outer:List acw)(P:YZ)(w:Y6)(H:Hp)(s:Ym)(Q:VK)(u:Yd)(s':Ym):Prop:=
 ∃v a,s'.os=s.os/\acX s'.gens/\Un (mF outer) [] H a s.heap s'.heap/\mE P w a s'.heap/\RelV v u/\Q v a
def CR(CX:LF)(outer:List acw)(P:YZ)(w:Y6)(H:Hp)(s:Ym)(Q:VK)(E:XK)(r:ack)(s':Ym):Prop:=
 match r with
 | .ok (.ret u)=>CE outer P w H s Q u s'
 | .ok _=>False
 | .error e=>CX outer H s E e s'
structure aF(P:YZ)(w:Y6)(K:Yc)(mg:Yo->Option Yd)(base:YT)(CX:LF)(k:Nat)(f:Ye)(fd:YD)(ps:List Yo)(sp:Sp):Prop where
 len:∀vs H Q E,sp vs H Q E->vs.length=ps.length
 run:∀(A:xw) (outer:List acw) (s:Ym) (H:Hp) (args:Args) (us:List Yd) (vs:List V) (Q:VK) (E:XK),cQ k A->G7 P w K mg base A outer s H->af3 s fd args (ps.zip us)->Vals vs us->sp vs H Q E->
  Rk (Yt P w) A (.call (.ref f) args) (CR CX outer P w H s Q E) s
theorem aF.mono{K:Yc}{base:YT}{f:Ye}(F:aF P w K mg base CX j f fd ps sp)(h:j<=k):
  aF P w K mg base CX k f fd ps sp:=⟨F.len,λA outer s H a b c Q E d=>F.run A outer s H a b c Q E (d.mono h)⟩
theorem G7.make{K:Yc}{base:YT}(e:G7 P w K mg base A outer s H)(C:Ye)(us:List Yd)(a:List (Yo×Yd)):
  G7 P w K mg base (A.under (.builtin "type.__call__" ⟨.ref C::us,a⟩)) outer s H:=⟨by first|exact e.frames|(simpa [Around.under,Code.envs,ag4,pushEnvs]using e.frames),e.mod,e.bs,e.bsz,e.funs,e.frf,e.hok,e.bare⟩
section
theorem aM.env0(I:aM X Za σ H s):G7 X.prog X.w X.K X.mg X.base X.A X.stack s H:=
 ⟨I.ok.frames,I.ok.mod,I.bs,xy I.ok.bsz I.sz,I.stack,I.stkFree,I.hok,I.bare⟩
theorem aM.after{Q:VK}(I:aM X Za σ H s)(h:CE X.stack X.prog X.w H s Q u s'):EP X Za σ Q u s':=by
 obtain⟨v,c,os,bare,un,hok,r,q⟩:=h;obtain⟨e,g,d,t,a⟩:=s';obtain rfl:a=s.os:=os;exact⟨v,c,I.call (h':=e) (g':=g) (d':=d) (t':=t) (ch:=[]) un hok bare (λb z=>absurd z (by simp)),r,q⟩
end
def HZ(sp:Sp)(a:List V)(E:XK)(t:TA):TE:=λσ H Q=>t σ H λb c=>sp (b++a) c Q E
def RO(C:Ye)(m:Yo)(sp:Sp)(c:List V)(E:XK)(ta:TE)(t:TA):TE:=λσ H Q=>ta σ H λx b=>∃a d fs,x=.ref a/\b a=Ya (.ins C d fs)/\fs.lookup m=Yb/\
 t σ b λe f=>sp (x::(e++c)) f Q E
def Sb(C:Ye)(sp:Sp)(c:List V)(E:XK)(t:TA):TE:=λσ H Q=>t σ H λd b=>∀x a,b x=Yb->b a=Yb->a≠x->
 sp (.ref x::(d++c)) (upd (upd b a (.own x)) x (.ins C a [])) (λv e=>v=.non/\Q (.ref x) e) E
def Binds(K:Yc)(fd:YD)(ps:List Yo)(ds:List Yd):Prop:=
 ∀(s:Ym) (a:List Yd),K.In s.heap->(a++ds).length=ps.length->af3 s fd ⟨a,[]⟩ (ps.zip (a++ds))
theorem Binds.all{K:Yc}(h:∀us:List Yd,us.length=ps.length->agu fd ⟨us,[]⟩=pure (ps.zip us)):Binds K fd ps []:=λs us _ hl=>by
 rw[sq]at hl⊢;exact .of_eq (h us hl)
def sy(CX:LF)(X:Cx)(E:XK):Prop:=∀(a:List (Ye×uc)) (σ:St) (H:Hp) (s:Ym) (e:Yd) (s':Ym),aM X a σ H s->CX X.stack H s E e s'->X.xe e s'
section
variable{f:Ye}{Zm:List V}{ds:List Yd}{E:XK}{o:cT}{t:TA}
theorem r9{Q:VK}(F:aF X.prog X.w X.K X.mg X.base CX k f fd ps sp)(c:cQ k X.A)(d:Binds X.K fd ps ds)(hd:Vals Zm ds)(g:sy CX X E)(I:aM X Za σ H s)(r:Vals vs us)(h:sp (vs++Zm) H Q E):Yq (Yt X.prog X.w) X.A (call (.ref f) us) (EP X Za σ Q) X.xe s:=by
 have b:Vals (vs++Zm) (us++ds):=r.append hd;have hl:(us++ds).length=ps.length:=by rw[←b.length];exact F.len _ _ _ _ h
 refine adX (codeAny_mono (F.run X.A X.stack s H ⟨us,[]⟩ (us++ds) (vs++Zm) Q E c I.env0 (d s us I.kIn hl) b h) λr s' a=>?_);cases r with
 |error e=>exact g Za σ H s e s' I a
 |ok fl=>
  cases fl with
  |ret u=>exact I.after a
  |next=>exact aaw a
  |brk=>exact aaw a
  |cont=>exact aaw a
theorem QD(F:aF X.prog X.w X.K X.mg X.base CX k f fd ps sp)(d:cQ k X.A)(g:Gl X x)(hm:X.mg x=Ya (.ref f))(hk:abK X.K (.ref f)=true)(i:Binds X.K fd ps ds)(hd:Vals Zm ds)(j:sy CX X E)
  (ha:PA X (e::es) t) (a:(x==("__debug__":Yo))=false:=by decide) (l:YW (e::es) X.env=(false,pk e X.env)::YW es X.env:=by rfl) (b:(aal pos (YW es X.env)).any (·.1)=false:=by rfl):
  PE X (.Call (.Name x p) (e::es) [] pos) (HZ sp Zm E t):=by
 intro m s σ H Q I h;refine aa3 (mJ I g hm ?_ a);refine abP (h₀:=X.base) I.ok.mod.kin hk (cu (ha pos m s σ H _ I h) λn o ⟨u,v,c,r,q⟩=>⟨c.kIn,?_⟩) l b;exact r9 F d i hd j c r q
theorem yQ(d:PE X o ta)(c:Av X.K C)(hm:bx X.K C m f)(F:aF X.prog X.w X.K X.mg X.base CX k f fd ps sp)(e:cQ k X.A)(g:Binds X.K fd ps ds)(hd:Vals Zm ds)(i:sy CX X E)(j:pk (.Call (.Attribute o m Ze) [] [] pos) X.env=(do
   let ov←pk o X.env
   adN Ze.atName
   let (f,first)←acF [ov] (ac6 ov m pl)
   aeg pos f first (aal pos (YW [] X.env)) (abv pos (aaN [] X.env))):=by rfl):
  PE X (.Call (.Attribute o m Ze) [] [] pos) (RO C m sp Zm E ta BU):=by
 intro n s σ H Q I h;refine abp (pl:=pl) (cu (d n s σ H _ I h) λu v p=>?_) j;obtain⟨x,w,b,r,a,y,fs,ex,t,l,q⟩:=p;subst ex;obtain rfl:u=YG a:=r;refine jm b t c hm l ?_;exact agU (first:=[.ref a]) b.kIn hm.kp (r9 (us:=[.ref a]) (vs:=[.ref a]) F e g hd i b (.cons rfl .nil) q)
structure Mk(K:Yc)(C f:Ye):Prop where
 makes:aid K C=true
 init:jJ K (.ref C) "__init__"=Ya (Ya (.ref f))
 fn:ag3 K (.ref f)=true
 kp:abK K (.ref C)=true
theorem Mf{Q:VK}(M:Mk X.K C f)(F:aF X.prog X.w X.K X.mg X.base CX k f fd ps sp)(g:cQ (k+ 1) X.A)(i:Binds X.K fd ps ds)(hd:Vals Zm ds)(j:sy CX X E)(I:aM X Za σ H s)(r:Vals vs us)(h:∀x dx,H x=Yb->H dx=Yb->dx≠x->sp (.ref x::(vs++Zm)) (upd (upd H dx (.own x)) x (.ins C dx [])) (λv l=>v=.non/\Q (.ref x) l) E):
  Yq (Yt X.prog X.w) X.A (call (.ref C) us) (EP X Za σ Q) X.xe s:=by
 have c:=h (s.heap.objs.size+ 1) s.heap.objs.size (I.hok.fresh (aaP _)) (I.hok.fresh (Yl _)) (YL (aa2 _));have b:=aM.made (C:=C) I;have d:Vals (V.ref (s.heap.objs.size+ 1)::(vs++Zm)) (YG (s.heap.objs.size+ 1)::(us++ds)):=.cons rfl (r.append hd);have hl:(YG (s.heap.objs.size+ 1)::us++ds).length=ps.length:=by
  have e:=d.length;rw[F.len _ _ _ _ c]at e;exact e.symm
 refine adX (Mp (f:=f) I.kIn M.makes M.init (beq_iff_eq.mp M.fn) (codeAny_mono (F.run _ X.stack _ _ ⟨YG (s.heap.objs.size+ 1)::us,[]⟩ (YG (s.heap.objs.size+ 1)::(us++ds)) _ _ E (g.make C us [])
  (b.env0.make C us []) (i _ (YG (s.heap.objs.size+ 1)::us) b.kIn hl) d c) λr s' a=>?_))
 cases r with
 |error e=>exact j Za σ _ _ e s' b a
 |ok fl=>
  cases fl with
  |ret u=>
   obtain⟨v,m,n,o,p,q⟩:=b.after a;subst p;exact⟨o,⟨V.ref (s.heap.objs.size+ 1),m,n,rfl,q⟩⟩
  |next=>exact aaw a
  |brk=>exact aaw a
  |cont=>exact aaw a
theorem qO(M:Mk X.K C f)(F:aF X.prog X.w X.K X.mg X.base CX k f fd ps sp)(d:cQ (k+ 1) X.A)(g:Gl X x)(hm:X.mg x=Ya (.ref C))(i:Binds X.K fd ps ds)(hd:Vals Zm ds)(j:sy CX X E)
  (ha:PA X (e::es) t) (a:(x==("__debug__":Yo))=false:=by decide) (l:YW (e::es) X.env=(false,pk e X.env)::YW es X.env:=by rfl) (b:(aal pos (YW es X.env)).any (·.1)=false:=by rfl):
  PE X (.Call (.Name x p) (e::es) [] pos) (Sb C sp Zm E t):=by
 intro m s σ H Q I h;refine aa3 (mJ I g hm ?_ a);refine abP (h₀:=X.base) I.ok.mod.kin M.kp (cu (ha pos m s σ H _ I h) λn o ⟨u,v,c,r,q⟩=>⟨c.kIn,?_⟩) l b;exact Mf M F d i hd j c r q
end
def PK(X:Cx)(b:List adO)(t:TA):Prop:=
 ∀(pos:abE) (a:List (Ye×uc)) (s:Ym) (σ:St) (H:Hp) (Q:List V->Hp->Prop),aM X a σ H s->t σ H Q->Yq (Yt X.prog X.w) X.A (evalAll ((abv pos (aaN b X.env)).map (·.2))) (AP X a σ Q) X.xe s
section
variable{f:Ye}{ks:List Yo}{E:XK}{kpos:abE}{o:cT}{Zo:List adO}{t tk:TA}{nm:Option Yo}
theorem T5:PK X [] BU:=λ_ _ _ _ H Q I h=>wpAny_evalAll_nil ⟨[],H,I,.nil,h⟩
theorem Qu(ha:PE X e te)(b:PK X Zo t):PK X (⟨nm,e,kpos⟩::Zo) (zJ te t):=by
 intro pos a s σ H Q I h;show Yq _ _ (evalAll ((do let v←pk e X.env;adN pos;pure v)::(abv pos (aaN Zo X.env)).map (·.2))) _ _ s;refine wpAny_evalAll_cons (Yf (cu (ha a s σ H _ I h) λu c d=>?_));obtain⟨x,f,g,i,j⟩:=d;refine Yf (adA (Yp ?_));exact cu (b pos a c σ f _ g j) λp q ⟨k,l,m,n,o⟩=>⟨x::k,l,m,.cons i n,o⟩
variable{g:List Yd->List Yd->List Yd}{gV:List V->List V->List V}
end
structure aE(N P:List Yo)(sc:aci):Prop where
 kind:sc.kind=.function
 co:sc.isCoroutine=false
 gen:sc.isGenerator=false
 nd:N.Nodup
 pre:N.take P.length=P
 par:∀x∈P,sc.names.lookup x=Ya .local∨sc.names.lookup x=Ya .cell
 nofree:∀y∈sc.names,y.2≠.free
theorem AG{kindOf:Yo->Option adH}{x:Yo}:∀{binds:List (Yo×Yd)} {m:Yo->Option Yd},(∀v,(x,v)∉binds)->agv kindOf binds m x=m x
 |[],_,_=>rfl
 |(n,v)::r,m,h=>by
  unfold agv;rw[AG λw hw=>h w (Yr _ hw)];split
  ·have:x≠n:=by rintro rfl;exact h v Ys
   simp[this]
  ·rfl
theorem AE{kindOf:Yo->Option adH}{x:Yo}:∀{binds:List (Yo×Yd)} {m:Yo->Option Yd},(∀v,(x,v)∉binds)->agw kindOf binds m x=m x
 |[],_,_=>rfl
 |(n,v)::r,m,h=>by
  unfold agw;rw[AE λw hw=>h w (Yr _ hw)];split
  ·rfl
  ·have:x≠n:=by rintro rfl;exact h v Ys
   simp[this]
theorem Bm{kindOf:Yo->Option adH}{x:Yo}{v:Yd}:∀{P:List Yo} {vs:List Yd} {i:Nat} {m:Yo->Option Yd},P.Nodup->P[i]?=Ya x->vs[i]?=Ya v->kindOf x=Ya .local->
  agv kindOf (P.zip vs) m x=Ya v
 |[],_,_,_,_,h,_,_=>by simp at h
 |_::_,[],_,_,_,_,h,_=>by simp at h
 |p::P,w::vs,0,m,nd,h1,h2,hk=>by
  simp at h1 h2;subst h1;subst h2;show agv kindOf ((p,w)::P.zip vs) m p=_;unfold agv;rw[AG λv a=>(BD.mp nd).1 (acm a).1,if_pos hk];simp
 |p::P,w::vs,i+ 1,m,nd,h1,h2,hk=>by
  show agv kindOf ((p,w)::P.zip vs) m x=_;unfold agv;exact Bm (i:=i) (BD.mp nd).2 (by simpa using h1) (by simpa using h2) hk
theorem AV{kindOf:Yo->Option adH}{x:Yo}{v:Yd}:∀{P:List Yo} {vs:List Yd} {i:Nat} {m:Yo->Option Yd},P.Nodup->P[i]?=Ya x->vs[i]?=Ya v->kindOf x≠Ya .local->
  agw kindOf (P.zip vs) m x=Ya v
 |[],_,_,_,_,h,_,_=>by simp at h
 |_::_,[],_,_,_,_,h,_=>by simp at h
 |p::P,w::vs,0,m,nd,h1,h2,hk=>by
  simp at h1 h2;subst h1;subst h2;show agw kindOf ((p,w)::P.zip vs) m p=_;unfold agw;rw[AE λv a=>(BD.mp nd).1 (acm a).1,if_neg hk];simp
 |p::P,w::vs,i+ 1,m,nd,h1,h2,hk=>by
  show agw kindOf ((p,w)::P.zip vs) m x=_;unfold agw;exact AV (i:=i) (BD.mp nd).2 (by simpa using h1) (by simpa using h2) hk
noncomputable def start(N:List Yo)(vs:List V):St:=vs.map Ya++aiE (N.length-vs.length) Yb
noncomputable def oR(CX:LF)(P:YZ)(w:Y6)(K:Yc)(mg:Yo->Option Yd)(base:YT)(N:List Yo)(c:Yo)(a:aci)(f:Ye)(d:Yd)(A:xw)(outer:List acw)(s:Ym)(H:Hp)(E:XK):Cx where
 prog:=P
 w:=w
 K:=K
 mg:=mg
 base:=base
 A:=A.deeper (acn c a s.heap.objs.size f d)
 N:=N
 s₀:=s
 H₀:=H
 env:=acn c a s.heap.objs.size f d
 outer:=outer
 stack:=acn c a s.heap.objs.size f d::outer
 ex:=[]
 calm:=true
 fn:=λ_=>true
 pn:=[]
 xe:=λe s'=>Yq (Yt P w) (A.deeper (acn c a s.heap.objs.size f d)) (leaving (acn c a s.heap.objs.size f d) e) (λ_ b=>CX outer H s E e b) (λg b=>CX outer H s E g b) s'
theorem Dg{sc:aci}(h:sc.names.lookup x=Ya .cell):∃c,(aiS n sc.names []).lookup x=Ya c:=by
 have q:=afN sc.names n [] (.inl h);exact ac8.mp q
theorem Jm{K:Yc}{base:YT}{f:Ye}{m:Yd}{t:Ym}{E:XK}(S:aE N ps scope)(hd:A.handled=Yb)(d:G7 P w K mg base A outer s H)(hl:vs.length=ps.length)(r:Vals vs us)(x:InCallC s s.heap.objs.size (agv (acn Zb scope s.heap.objs.size f m).kindOf (ps.zip us) λ_=>Yb) (aiS (s.heap.objs.size+ 1) scope.names []) (agw (acn Zb scope s.heap.objs.size f m).kindOf (ps.zip us) λ_=>Yb) t):
  aM (oR CX P w K mg base N Zb scope f m A outer s H E) [] (start N vs) H t:=by
 have D:ps.length<=N.length:=by have:=congrArg adu S.pre;rw[xj]at this;omega
 obtain⟨h1,tk,rfl,B⟩:=x.done;have g:∀b:Ye,b∉(oR CX P w K mg base N Zb scope f m A outer s H E).ex:=λb z=>absurd (show b∈([]:List Ye)from z) (by simp);refine⟨⟨d.mod,S.kind,rfl,rfl,Yl _,λy z c h1 h2=>?_,λy j=>?_,λy c _ h=>?_,λ_=>hd,Around.frames_deeper d.frames,.inr ⟨rfl,rfl⟩,λb z=>absurd z (g b),d.bs,d.bsz,λb _ _=>g b,λb z=>absurd z (g b),d.funs,d.frf⟩,
  rfl,d.bare,Un.kept B,⟨_,x.toInCall.ns,λi y v h1 h2 h3=>?_⟩,λy c h=>⟨_,x.cell y c h⟩,d.hok.fresh (Yl _),λy c h=>?_,λp hp=>absurd (show p∈([]:List (Ye×uc))from hp) (by simp),d.hok.kept B,?_⟩
 ·exact name_of_addr x.apart (aa0 h1) (aa0 h2)
 ·have j:scope.names.lookup y=Ya .cell∨scope.names.lookup y=Ya .free:=j;rcases j with j|j
  ·exact Dg j
  ·exact absurd rfl (S.nofree _ (aa0 j))
 ·exact rl (x.above y c (aa0 h))
 ·have o:i<vs.length:=by
   unfold start at h2;by_cases o:i<vs.length
   ·exact o
   ·rw[aaT (by simpa using o)]at h2;rw[List.getElem?_replicate]at h2;split at h2<;>cases h2
  have ha:vs[i]?=Ya v:=by
   unfold start at h2;rw[aa1 (by simpa using o),Yy]at h2;cases e:vs[i]? with
   |none=>rw[e]at h2;cases h2
   |some a=>rw[e]at h2;cases h2;rfl
  obtain⟨u,C,F⟩:=r.get ha;have hp:ps[i]?=Ya y:=by
   rw[←S.pre,List.getElem?_take_of_lt (by omega)];exact h1
  have l:ps.Nodup:=by rw[←S.pre];exact S.nd.sublist (acy _ _)
  refine⟨u,F,?_⟩;rcases S.par y (YA hp)with k|k
  ·exact .inl ⟨k,Bm l hp C k⟩
  ·obtain⟨c,e⟩:=Dg (n:=s.heap.objs.size+ 1) k;refine .inr ⟨.inl k,c,e,?_⟩;have q:=x.cell y c e;rw[AV l hp C (by show scope.names.lookup y≠_;rw[k];decide)]at q;exact q
 ·exact d.hok.fresh (rl (x.above y c (aa0 h)))
 ·unfold start;show _=N.length;rw[Yu,Yg,af4];omega
theorem OB{K:Yc}{base:YT}{f:Ye}{c:Arguments}{D kV h F a ct R:Yd}{G od:Option Ye}{m:Array (Option Yd)}(lk:K.lookup f=Ya ⟨R,od,.func (aa4 name Zb c Zr scope D kV h F G a ct),m⟩)(p:adk K a Zb=true)(S:aE N ps scope)(len:∀vs H Q E,sp vs H Q E->vs.length=ps.length)(d:∀(A:xw) (outer:List acw) (s:Ym) (H:Hp) (vs:List V) (Q:VK) (E:XK),cQ k (A.deeper (acn Zb scope s.heap.objs.size f a))->sp vs H Q E->
   ∃t,CM (oR CX P w K mg base N Zb scope f a A outer s H E) Zr t/\t {nx:=λ_ H'=>Q .non H',rt:=Q} (start N vs) H):
  aF P w K mg base CX (k+ 1) f (aa4 name Zb c Zr scope D kV h F G a ct) ps sp:=by
 refine⟨len,λA outer s H L T vs Q E z i U r j=>?_⟩;have hl:=len _ _ _ _ j;have M:K.In s.heap:=i.mod.kin.keeps λb o e=>(i.bs b o e).1;have B:s.heap.NoLimit:=i.mod.nolimit.keeps λb o e=>(i.bs b o e).1;have g:∀y∈ps.zip T,scope.names.lookup y.1=Ya .local∨(scope.names.lookup y.1=Ya .cell/\((aiS (s.heap.objs.size+ 1) scope.names []).lookup y.1).isSome=true):=fun⟨n,v⟩ W=>by
  rcases S.par n (acm W).1 with q|q
  ·exact .inl q
  ·exact .inr ⟨q,afN _ _ _ (.inl q)⟩
 refine codeAny_call_function z.depth (M _ _ lk) rfl S.co S.gen rfl (PySem.W.codeRec_of M p) (U _ _ _ _ ?_);refine wpAny_newFunctionEnv_cells S.kind g λenv X O x=>?_;subst X;refine⟨B.keeps x.toInCall.keep,codeAny_func ?_⟩;obtain⟨t,Y,Z⟩:=d A outer s H vs Q E (z.deeper _) j;have I:aM (oR CX P w K mg base N Zb scope f a A outer s H E) [] (start N vs) H O:=Jm S z.hd i hl r x;refine xi (Y [] O (start N vs) H _ I Z) (λfl s' hs=>?_) λe s' hs=>hs;have fin:∀{l:St} {H':Hp} {v:V} {u:Yd},aM (oR CX P w K mg base N Zb scope f a A outer s H E) [] l H' s'->RelV v u->Q v H'->CE outer P w H s Q u s':=
  fun{l H' v u} J C q=>⟨v,H',J.os,J.bare,J.base,J.hok,C,q⟩
 cases fl with
 |ret u=>
  obtain⟨v,l,H',J,C,q⟩:=hs;exact fin J C q
 |next=>
  obtain⟨l,H',J,q⟩:=hs;exact fin (v:=V.non) (u:=aao) J rfl q
 |brk=>
  obtain⟨_,_,_,q⟩:=hs;exact aaw q
 |cont=>
  obtain⟨_,_,_,q⟩:=hs;exact aaw q
section
variable{t:TA}{id:String}{r:List V->Hp->VK->Prop}
def XF(r:List V->Hp->VK->Prop)(t:TA):TE:=λσ H Q=>t σ H λa b=>r a b Q
theorem br(d:c6 X (.builtin id) r)(f:Gl X x)(hm:X.mg x=Yb)(g:abh x=Ya (.builtin id))(ha:PA X (e::es) t)(hn:x≠"__name__":=by decide)(a:(x==("__debug__":Yo))=false:=by decide)
  (i:YW (e::es) X.env=(false,pk e X.env)::YW es X.env:=by rfl) (b:(aal pos (YW es X.env)).any (·.1)=false:=by rfl):PE X (.Call (.Name x p) (e::es) [] pos) (XF r t):=by
 intro c s σ H Q I h;refine aa3 (qc I f hm g ?_ hn a);exact aie (cu (ha pos c s σ H _ I h) λj k ⟨l,m,n,o,q⟩=>d c k σ m l j Q n o q) i b
theorem bN(d:c6 X (.type T) r)(f:Gl X x)(hm:X.mg x=Yb)(g:abh x=Ya (.type T))(ha:PA X (e::es) t)(hn:x≠"__name__":=by decide)(a:(x==("__debug__":Yo))=false:=by decide)
  (i:YW (e::es) X.env=(false,pk e X.env)::YW es X.env:=by rfl) (b:(aal pos (YW es X.env)).any (·.1)=false:=by rfl):PE X (.Call (.Name x p) (e::es) [] pos) (XF r t):=by
 intro c s σ H Q I h;refine aa3 (qc I f hm g ?_ hn a);exact acN (cu (ha pos c s σ H _ I h) λj k ⟨l,m,n,o,q⟩=>d c k σ m l j Q n o q) i b
end
section
variable{κ:Type}[DecidableEq κ]
noncomputable def eF(kvs:List (κ×V))(k:κ):Option V:=(kvs.find? λa=>decide (a.1=k)).map (·.2)
noncomputable def gL(kvs:List (κ×V))(k:κ)(v:V):List (κ×V):=
 if(kvs.any λa=>decide (a.1=k))=true then kvs.map (λa=>if a.1=k then(a.1,v)else a)else kvs++[(k,v)]
theorem dg{p:κ×V}{r:List (κ×V)}{k:κ}(e:p.1=k):eF (p::r) k=Ya p.2:=by simp[eF,abV,e]
theorem du{p:κ×V}{r:List (κ×V)}{k:κ}(e:¬ p.1=k):eF (p::r) k=eF r k:=by simp[eF,abV,e]
theorem qd(k:κ):∀kvs:List (κ×V),(kvs.any λkv=>decide (kv.1=k))=(eF kvs k).isSome
 |[]=>rfl
 |p::r=>by
  rw[ach];by_cases e:p.1=k
  ·simp only[dg e,decide_eq_true e,Bool.true_or,Option.isSome_some]
  ·rw[du e,decide_eq_false e,aeB];exact qd k r
theorem Fu(k j:κ)(y:V):∀kvs:List (κ×V),eF (kvs.map λkv=>if kv.1=k then(kv.1,y)else kv) j=(eF kvs j).map λx=>if j=k then y else x
 |[]=>rfl
 |p::r=>by
  have a:=Fu k j y r;rw[YF];by_cases h:p.1=k
  ·rw[if_pos h];by_cases e:p.1=j
   ·rw[dg (p:=(p.1,y)) e,dg e,abW,if_pos (e.symm.trans h)]
   ·rw[du (p:=(p.1,y)) e,du e,a]
  ·rw[if_neg h];by_cases e:p.1=j
   ·rw[dg (p:=p) e,dg e,abW,if_neg (λz=>h (e.trans z))]
   ·rw[du (p:=p) e,du e,a]
theorem Ap(k j:κ)(y:V):∀kvs:List (κ×V),eF kvs k=Yb->eF (kvs++[(k,y)]) j=if j=k then Ya y else eF kvs j
 |[],_=>by
  by_cases e:k=j
  ·rw[if_pos e.symm];exact dg (p:=(k,y)) e
  ·rw[if_neg (λz=>e z.symm)];exact du (p:=(k,y)) e
 |p::r,hn=>by
  rw[List.cons_append];have a:¬ p.1=k:=λz=>by rw[dg z]at hn;cases hn
  rw[du a]at hn;have b:=Ap k j y r hn;by_cases e:p.1=j
  ·rw[dg e,dg e,if_neg (λz=>a (e.trans z))]
  ·rw[du e,du e,b]
theorem Lu(kvs:List (κ×V))(k j:κ)(y:V):eF (gL kvs k y) j=if j=k then Ya y else eF kvs j:=by
 unfold gL;by_cases a:(kvs.any λb=>decide (b.1=k))=true
 ·rw[if_pos a,Fu];rw[qd]at a;by_cases e:j=k
  ·obtain⟨x,c⟩:=ac8.mp a;rw[if_pos e,e,c,abW,if_pos rfl]
  ·rw[if_neg e];cases eF kvs j with
   |none=>rfl
   |some x=>rw[abW,if_neg e]
 ·rw[if_neg a];refine Ap k j y kvs ?_;rw[qd]at a;cases q:eF kvs k with
  |none=>rfl
  |some x=>rw[q]at a;exact(a rfl).elim
theorem pA(kvs:List (κ×V))(k:κ)(v:V):(gL kvs k v).length<=kvs.length+ 1:=by
 unfold gL;split
 ·rw[Yg];omega
 ·rw[Yu,Y5,abd];omega
theorem kP.isSome_eq{o:Option V}{u:Option Yd}(r:kP o u):o.isSome=u.isSome:=by
 cases o with
 |none=>cases u with
  |none=>rfl
  |some _=>exact(show False from r).elim
 |some _=>cases u with
  |none=>exact(show False from r).elim
  |some _=>rfl
theorem kP.getD{o:Option V}{u:Option Yd}{d':Yd}(r:kP o u)(rd:RelV d d'):RelV (o.getD d) (u.getD d'):=by
 cases o with
 |none=>cases u with
  |none=>exact rd
  |some _=>exact(show False from r).elim
 |some _=>cases u with
  |none=>exact(show False from r).elim
  |some _=>exact r
theorem KV.val{kvs:List (κ×V)}{vs:List (κ×Yd)}(r:KV kvs vs)(k:κ):kP (eF kvs k) (ae4 vs k):=by
 unfold KV at r
 induction r with
 |nil=>exact abj
 |@cons p q ps qs h t ih=>
  obtain⟨h1,h2⟩:=h;by_cases e:p.1=k
  ·have a:q.1=k:=h1.symm.trans e;have b:ae4 (q::qs) k=Ya q.2:=by simp[ae4,abV,a]
   rw[dg e,b];exact h2
  ·have a:¬ q.1=k:=λz=>e (h1.trans z);have b:ae4 (q::qs) k=ae4 qs k:=by simp[ae4,abV,a]
   rw[du e,b];exact ih
theorem KV.any{kvs:List (κ×V)}{vs:List (κ×Yd)}(r:KV kvs vs)(k:κ):(kvs.any λkv=>decide (kv.1=k))=vs.any λkv=>decide (kv.1=k):=by
 unfold KV at r
 induction r with
 |nil=>rfl
 |cons h t ih=>rw[ach,ach,ih,h.1]
theorem KV.repl{kvs:List (κ×V)}{vs:List (κ×Yd)}(r:KV kvs vs)(k:κ)(a:RelV y u):
  KV (kvs.map λkv=>if kv.1=k then(kv.1,y)else kv) (vs.map λkv=>if kv.1=k then(kv.1,u)else kv):=by
 unfold KV at r⊢
 induction r with
 |nil=>exact .nil
 |@cons p q ps qs h t ih=>
  rw[YF,YF];refine .cons ?_ ih;obtain⟨h1,h2⟩:=h;by_cases e:p.1=k
  ·rw[if_pos e,if_pos (h1.symm.trans e)];exact⟨h1,a⟩
  ·rw[if_neg e,if_neg (λz=>e (h1.trans z))];exact⟨h1,h2⟩
theorem KV.put{kvs:List (κ×V)}{vs:List (κ×Yd)}(r:KV kvs vs)(k:κ)(a:RelV y u):KV (gL kvs k y) (stored vs k u):=by
 unfold gL stored;rw[r.any k];by_cases e:(vs.any λb=>decide (b.1=k))=true
 ·rw[if_pos e,if_pos e];exact r.repl k a
 ·rw[if_neg e,if_neg e];exact ajv r ⟨rfl,a⟩
theorem KV.length{kvs:List (κ×V)}{vs:List (κ×Yd)}(r:KV kvs vs):kvs.length=vs.length:=Y7 r
end
theorem zE{k:bJ}(r:RelV (kV k) u):(aY P w).is k u=true:=by
 cases k with
 |inl i=>obtain⟨t,e⟩:=(show∃t,u=abn i t from r);subst e;exact p7 P w i t
 |inr x=>obtain⟨t,e⟩:=(show∃t,u=afB x t from r);subst e;exact EG P w x t
theorem As{P:YZ}{w:Y6}:∀{ks:List bJ} {us:List Yd},Vals (ks.map kV) us->ItemsAre (aY P w) ks us
 |[],_,r=>by rw[ac9]at r;cases r;exact .nil
 |k::ks,_,r=>by
  rw[YF]at r;cases r with
  |cons h t=>exact .cons (zE h) (As t)
abbrev KT(H:Hp):List (List bJ×V)->List (List bJ×Ye×Yd)->Prop:=fm λp q=>p.1=q.1/\H q.2.1=Ya (.tup (p.1.map kV))/\RelV p.2 q.2.2
theorem KT.val(r:KT H kvs xs)(k:List bJ):kP (eF kvs k) ((aeW xs k).map (·.2)):=by
 induction r with
 |nil=>exact abj
 |@cons p q ps qs h t ih=>
  obtain⟨h1,_,h2⟩:=h;by_cases e:p.1=k
  ·have a:q.1=k:=h1.symm.trans e;have b:aeW (q::qs) k=Ya q.2:=by simp[aeW,abV,a]
   rw[dg e,b];exact h2
  ·have a:¬ q.1=k:=λz=>e (h1.trans z);have b:aeW (q::qs) k=aeW qs k:=by simp[aeW,abV,a]
   rw[du e,b];exact ih
theorem KT.repl(r:KT H kvs xs)(k:List bJ)(a:RelV y u):
  KT H (kvs.map λkv=>if kv.1=k then(kv.1,y)else kv) (xs.map (putAt k u)):=by
 induction r with
 |nil=>exact .nil
 |@cons p q ps qs h t ih=>
  rw[YF,YF];refine .cons ?_ ih;obtain⟨h1,h2,h3⟩:=h;unfold putAt;by_cases e:p.1=k
  ·rw[if_pos e,if_pos (h1.symm.trans e)];exact⟨h1,h2,a⟩
  ·rw[if_neg e,if_neg (λz=>e (h1.trans z))];exact⟨h1,h2,h3⟩
theorem KT.put(r:KT H kvs xs)(k:List bJ)(c:H b=Ya (.tup (k.map kV)))(a:RelV y u):
  KT H (gL kvs k y) (acG xs k b u):=by
 have e:(kvs.any λd=>decide (d.1=k))=(aeW xs k).isSome:=by
  rw[qd,(r.val k).isSome_eq,aeP]
 unfold gL acG;rw[e];by_cases q:(aeW xs k).isSome=true
 ·rw[if_pos q,if_pos q];exact r.repl k a
 ·rw[if_neg q,if_neg q];exact ajv r ⟨rfl,c,a⟩
theorem KT.keeps(r:KT H kvs xs)(a:∀b ys,H b=Ya (.tup ys)->H' b=Ya (.tup ys)):KT H' kvs xs:=
 fm.mapP r λ_ _ z=>⟨z.1,a _ _ z.2.1,z.2.2⟩
section
theorem RX{u:HO}(ok:mE P w H h)(e:Rd H a u):cg P w H h a u:=e.ok ok
theorem j7{kvs:List (bJ×V)}(ok:mE P w H h)(e:Rd H a (.dK kvs)):kvs.length<=YB/\(a==aah)=false/\∃vs,KV kvs vs/\h.DictOf (aY P w) a vs:=
 show cg P w H h a (.dK kvs)from RX ok e
theorem IM{kvs:List (bJ×V)}(ok:mE P w H h)(e:H a=Ya (.dK kvs)):kvs.length<=YB/\(a==aah)=false/\∃vs,KV kvs vs/\h.DictOf (aY P w) a vs:=j7 ok (.inl e)
theorem key_of{ks:List bJ}(ok:mE P w H h)(e:H a=Ya (.tup (ks.map kV))):(abo (aY P w)).is h ks a:=by
 obtain⟨_,b,r,o,h1,h2,n,h3⟩:=(show cg P w H h a (.tup (ks.map kV))from ok a _ e);exact⟨o,b.toArray,n,h1,h2,h3.1,by simpa using As r⟩
theorem rm(ok:mE P w H h)(e:Rd H a (.dT kvs)):kvs.length<=YB/\(a==aah)=false/\
  ∃xs,KT H kvs xs/\h.DictOfH (abo (aY P w)) a xs:=by
 obtain⟨z,y,xs,r,o,c,d,h1,h2,h3,h4,h5⟩:=(show cg P w H h a (.dT kvs)from RX ok e);refine⟨z,y,xs,r,o,c,d,h1,h2,h3,h4,λx b=>?_,h5⟩;have all:∀{l:List (List bJ×V)} {m:List (List bJ×Ye×Yd)},KT H l m->∀x∈m,(abo (aY P w)).is h x.1 x.2.1:=by
  intro l m q
  induction q with
  |nil=>intro x b;exact nomatch b
  |@cons p q ps qs hq t ih=>
   intro x b;rcases Yn.mp b with e|b
   ·subst e;exact key_of ok (by rw[←hq.1];exact hq.2.1)
   ·exact ih x b
 exact all r x b
theorem VQ(ok:mE P w H h)(e:H a=Ya (.dT kvs)):kvs.length<=YB/\(a==aah)=false/\
  ∃xs,KT H kvs xs/\h.DictOfH (abo (aY P w)) a xs:=rm ok (.inl e)
end
def iK(H:Hp)(a:Ye)(y:V)(r:Option V):Prop:=
 (∃c k,Rd H a (.dK c)/\y=kV k/\r=eF c k)∨∃c k b,Rd H a (.dT c)/\y=.ref b/\H b=Ya (.tup (k.map kV))/\r=eF c k
def z5(H:Hp)(a:Ye)(y v:V)(d:Hp):Prop:=
 (∃c k,H a=Ya (.dK c)/\y=kV k/\c.length<YB/\d=upd H a (.dK (gL c k v)))∨
 ∃c k b,H a=Ya (.dT c)/\y=.ref b/\H b=Ya (.tup (k.map kV))/\c.length<YB/\d=upd H a (.dT (gL c k v))
theorem iK.t{k:List bJ}(e:H a=Ya (.dT kvs))(c:H b=Ya (.tup (k.map kV))):iK H a (.ref b) (eF kvs k):=.inr ⟨kvs,k,b,.inl e,rfl,c,rfl⟩
theorem z5.t{k:List bJ}(e:H a=Ya (.dT kvs))(c:H b=Ya (.tup (k.map kV)))(hl:kvs.length<YB):
  z5 H a (.ref b) v (upd H a (.dT (gL kvs k v))):=.inr ⟨kvs,k,b,e,rfl,c,hl,rfl⟩
section
variable{r:Yd}{o:Option V}
theorem aM.big(I:aM X Za σ H s):aah<s.heap.objs.size:=by
 have h:ir<s.heap.objs.size:=(I.mod.glob.keeps I.bk).lt;exact ae9 (by decide) h
theorem Jr(n:A.units+ 1<aap)(I:aM X Za σ H s)(g:iK H a y (Ya v))(m:RelV y u)(h:∀w' s',aM X Za σ H s'->RelV v w'->Q w' s'):
  Yq (Yt X.prog X.w) A (af5 (.ref a) u) Q E s:=by
 rcases g with⟨f,k,e,i,l⟩|⟨f,k,b,e,i,q,l⟩
 ·subst i;obtain⟨z,hd,r,c,dd⟩:=j7 I.hok e;obtain⟨w',hw,d⟩:=kP.some_of (v:=v) (o:=ae4 r k) (by rw[l];exact c.val k);exact wpAny_getItem_of (zE m) dd.mapOf hw (h w' _ (I.tok _) d)
 ·subst i;cases (show u=YG b from m);obtain⟨z,hd,t,c,dd⟩:=rm I.hok e;obtain⟨w',hw,d⟩:=kP.some_of (v:=v) (o:=(aeW t k).map (·.2)) (by rw[l];exact c.val k);obtain⟨p,hp,j⟩:=aaF.mp hw;refine wpAny_getItem_heap (abQ n) (key_of I.hok q) dd hp ?_;rw[j];exact h w' _ (I.tok _) d
theorem XA(j:A.units+ 1<aap)(I:aM X Za σ H s)(g:iK H a y o)(i:RelV y u)(h:∀s',aM X Za σ H s'->Q (.bool o.isSome) s'):
  Yq (Yt X.prog X.w) A (aaq .In u (.ref a)) Q E s:=by
 rcases g with⟨d,k,e,f,l⟩|⟨d,k,b,e,f,m,l⟩
 ·subst f;obtain⟨z,hd,n,c,dd⟩:=j7 I.hok e;refine wpAny_in_of (zE i) hd dd.mapOf ?_;rw[←(c.val k).isSome_eq,←l];exact h _ (I.tok _)
 ·subst f;cases (show u=YG b from i);obtain⟨z,hd,p,c,dd⟩:=rm I.hok e;refine wpAny_in_heap (abQ j) (key_of I.hok m) hd dd ?_;have q:=(c.val k).isSome_eq;rw[aeP]at q;rw[←q,←l];exact h _ (I.tok _)
theorem Qf(j:A.units+ 1<aap)(I:aM X Za σ H s)(g:iK H a y o)(i:RelV y u)(h:∀s',aM X Za σ H s'->Q (.bool (!o.isSome)) s'):
  Yq (Yt X.prog X.w) A (aaq .NotIn u (.ref a)) Q E s:=by
 rcases g with⟨d,k,e,f,l⟩|⟨d,k,b,e,f,m,l⟩
 ·subst f;obtain⟨z,hd,n,c,dd⟩:=j7 I.hok e;refine wpAny_notIn_of (zE i) hd dd.mapOf ?_;rw[←(c.val k).isSome_eq,←l];exact h _ (I.tok _)
 ·subst f;cases (show u=YG b from i);obtain⟨z,hd,p,c,dd⟩:=rm I.hok e;refine wpAny_notIn_heap (abQ j) (key_of I.hok m) hd dd ?_;have q:=(c.val k).isSome_eq;rw[aeP]at q;rw[←q,←l];exact h _ (I.tok _)
theorem HP{ob:HO}(I:aM X Za σ H s)(mu:VW (H a))(hs:aab a s.heap h')(c:∃q,h'.get? a=Ya q)(new:cg X.prog X.w (upd H a ob) h' a ob):
  aM X Za σ (upd H a ob) {s with heap:=h',toks:=t'}:=
 I.write (x:=a) (e:=a) mu (.inl rfl) (λb q d z=>(hs.2 b d).trans z) c new
theorem GH{kvs:List (bJ×V)}{vs:List (bJ×Yd)}(z:kvs.length<=YB)(hd:(a==aah)=false)(b:KV kvs vs)(dd:h'.DictOf (aY P w) a vs):
  cg P w H' h' a (.dK kvs):=⟨z,hd,vs,b,dd⟩
theorem Jn{Q:Unit->Ym->Prop}(C:A.units+ 1<aap)(I:aM X Za σ H s)(g:z5 H a y v H')(p:RelV y u)(t:RelV v r)(h:∀s',aM X Za σ H' s'->Q () s'):
  Yq (Yt X.prog X.w) A (setItem (.ref a) u r) Q E s:=by
 rcases g with⟨d,k,e,m,l,n⟩|⟨d,k,b,e,m,w,l,n⟩
 ·subst m n;obtain⟨z,hd,D,f,dd⟩:=IM I.hok e;have o:D.length<=YB:=by rw[←f.length];exact z
  have hl:(gL d k v).length<=YB:=by have:=pA d k v;omega
  refine wpAny_setItem_pairs (hsz:=o) (zE p) dd λx i hs=>h _ ?_;have F:∃q,x.get? a=Ya q:=let ⟨q,_,_,j,_⟩:=i;⟨q,j⟩;exact HP I (by rw[e];exact abj) hs F (GH hl hd (f.put k t) i)
 ·subst m n;cases (show u=YG b from p);obtain⟨z,hd,G,f,dd⟩:=VQ I.hok e;have o:G.length<=YB:=by rw[←Y7 f];exact z
  have hl:(gL d k v).length<=YB:=by have:=pA d k v;omega
  refine wpAny_setItem_heap (hsz:=o) (abQ C) (key_of I.hok w) dd λx i hs=>h _ ?_;obtain⟨q,J,K,j,h2,h3,h4,_,h5⟩:=i;refine HP I (by rw[e];exact abj) hs ⟨q,j⟩ ⟨hl,hd,_,(f.put k w t).keeps λc L B=>?_,q,J,K,j,h2,h3,h4,h5⟩;rw[ak (bU B e (λz=>nomatch z))];exact B
end
section
variable{kvs:List (bJ×V)}{k:bJ}
theorem W3(I:aM X Za σ H s)(e:Rd H a (.dK kvs))(h:∀t s',aM X Za σ H s'->Q (.int kvs.length t) s'):Yq (Yt X.prog X.w) A (call (.builtin "len") [.ref a]) Q E s:=by
 obtain⟨z,hd,c,b,dd⟩:=j7 I.hok e;refine call_len_dict hd dd (by rw[←b.length];rw[aaM]at z;omega) ?_;rw[←b.length];exact h _ _ (I.tok _)
end
def WV(i:cT):Prop:=∀a b,afO i false a b=ajB [a,b] (af5 a b)
theorem Po{a:cT}{id:String}(hl:agx (.type T) "__getitem__"=pure (Ya (.builtin id)))(hs:WV a)(h:Yq (Yt prog w) A (pk Zf env) (λo d=>Yq (Yt prog w) A (pk a env) (λi b=>b.TypeIs o T/\Yq (Yt prog w) A (af5 o i) Q E b) E d) E s):
  Yq (Yt prog w) A (pk (.Subscript Zf a pos) env) Q E s:=by
 refine aif (xi h (λo d g=>xi g (λi b c=>?_) λ_ _ x=>x) λ_ _ x=>x);obtain⟨e,c⟩:=c;unfold agN;refine Yf ?_;rw[getitemInPython_of_ne e.not_modules];refine Yf (afD e hl ?_);have fin:Yq (Yt prog w) A (afO a false o i) (λr f=>Yq (Yt prog w) A (letTemporaryGo Zf o r >>= λ_=>pure r) Q E f) E b:=by
  rw[hs o i];exact wpAny_operating (xi c (λr f j=>Yf (wpAny_letTemporaryGo (Yp j))) λ_ _ x=>x)
 first
  |exact Yp (Yf fin)
  |exact Yf (Yp (Yf fin))
  |exact Yf fin
theorem Du{o:Option V}(I:aM X Za σ H s)(g:iK H a y o):s.TypeIs (.ref a) "dict":=by
 rcases g with⟨c,k,e,_,_⟩|⟨c,k,b,e,_,_,_⟩
 ·obtain⟨_,_,d,_,dd⟩:=j7 I.hok e;exact dd.typeIs
 ·obtain⟨_,_,f,_,dd⟩:=rm I.hok e;exact dd.typeIs
def Rz(td ty:TE):TE:=λσ H Q=>td σ H λx c=>ty σ c λy b=>∃a v,x=.ref a/\iK b a y (Ya v)/\Q v b
def Ws(ty td:TE):TE:=λσ H Q=>ty σ H λy c=>td σ c λx b=>∃a o,x=.ref a/\iK b a y o/\Q (.bl o.isSome) b
def Hu(ty td:TE):TE:=λσ H Q=>ty σ H λy c=>td σ c λx b=>∃a o,x=.ref a/\iK b a y o/\Q (.bl (!o.isSome)) b
def HB(td ty tv:TE):TS:=λD σ H=>tv σ H λv c=>td σ c λx d=>ty σ d λy e=>∃a b,x=.ref a/\z5 e a y v b/\D.nx σ b
section
variable{o i:cT}
theorem xQ(f:X.A.units+ 1<aap)(ho:PE X o td)(j:PE X i ty)(hs:WV i):PE X (.Subscript o i pos) (Rz td ty):=by
 intro d s σ H Q I h;refine Po PySem.F.slot_dict_getitem.lookup hs (cu (ho d s σ H _ I h) λu k b=>?_);obtain⟨x,l,m,n,p⟩:=b;refine cu (j d k σ l _ m p) λz A b=>?_;obtain⟨y,q,e,r,a,v,ex,g,t⟩:=b;subst ex;obtain rfl:u=YG a:=n;exact⟨Du e g,Jr f e g r λB C w c=>⟨v,q,w,c,t⟩⟩
theorem M7(d:X.A.units+ 1<aap)(e:PE X i ty)(ho:PE X o td):PC X .In i o (Ws ty td):=by
 intro c s σ H Q I h;refine cu (e c s σ H _ I h) λw f b=>?_;obtain⟨y,j,k,l,m⟩:=b;refine cu (ho c f σ j _ k m) λu z b=>?_;obtain⟨x,n,p,q,a,r,ex,g,t⟩:=b;subst ex;obtain rfl:u=YG a:=q;exact XA d p g l λA v=>⟨.bl r.isSome,n,v,rfl,t⟩
theorem Ay(d:X.A.units+ 1<aap)(e:PE X i ty)(ho:PE X o td):PC X .NotIn i o (Hu ty td):=by
 intro c s σ H Q I h;refine cu (e c s σ H _ I h) λw f b=>?_;obtain⟨y,j,k,l,m⟩:=b;refine cu (ho c f σ j _ k m) λu z b=>?_;obtain⟨x,n,p,q,a,r,ex,g,t⟩:=b;subst ex;obtain rfl:u=YG a:=q;exact Qf d p g l λA v=>⟨.bl (!r.isSome),n,v,rfl,t⟩
theorem qT(d:X.A.units+ 1<aap)(ho:PE X o td)(e:PE X i ty)(f:PE X Zf tv)(hs:adM Zf (Ya (.Subscript o i Zq)) pos.line X.env=pure false):
  PS X (.Assign [.Subscript o i Zq] Zf pos) (HB td ty tv):=by
 intro c s σ H D I h;refine wpAny_Assign_Subscript (cu (f c s σ H _ I h) λr j b=>?_) hs;obtain⟨v,k,l,m,n⟩:=b;refine cu (ho c j σ k _ l n) λu p b=>?_;obtain⟨x,q,t,w,z⟩:=b;refine cu (e c p σ q _ t z) λG J b=>?_;obtain⟨y,K,A,B,a,C,ex,g,E⟩:=b;subst ex;obtain rfl:u=YG a:=w;exact Jn d A g B m λL F=>⟨σ,C,F,E⟩
end
theorem M9(h:YT)(a:aah<h.objs.size):cg P w H (h.push {cls:=.type "dict",data:=.dict #[]}) h.objs.size (.dK []):=
 ⟨Y9 _,beq_eq_false_iff_ne.mpr (Ne.symm (YL a)),[],.nil,Heap.DictOf.new h⟩
theorem NQ(h:YT)(a:aah<h.objs.size):cg P w H (h.push {cls:=.type "dict",data:=.dict #[]}) h.objs.size (.dT []):=
 ⟨Y9 _,beq_eq_false_iff_ne.mpr (Ne.symm (YL a)),[],.nil,_,#[],0,Yv _ rfl,⟨rfl,rfl,rfl⟩,rfl,rfl,af6⟩
def Ls:TE:=λ_ H Q=>∀p,H p=Yb->Q (.ref p) (upd H p (.dK []))
def Tn:TE:=λ_ H Q=>∀p,H p=Yb->Q (.ref p) (upd H p (.dT []))
section
theorem pC:PE X (.Dict [] [] pos) Ls:=λb s σ H Q I h=>
 ahK ⟨.ref s.heap.objs.size,_,I.laid (a:=s.heap.objs.size) (o:=.dK []) (t':=s.toks) (λ_ _ q=>Yh _ q) (Yl _) (M9 s.heap I.big),rfl,h _ (I.hok.fresh (Yl _))⟩
theorem ET:PE X (.Dict [] [] pos) Tn:=λb s σ H Q I h=>
 ahK ⟨.ref s.heap.objs.size,_,I.laid (a:=s.heap.objs.size) (o:=.dT []) (t':=s.toks) (λ_ _ q=>Yh _ q) (Yl _) (NQ s.heap I.big),rfl,h _ (I.hok.fresh (Yl _))⟩
end
noncomputable def vb(kvs more:List (bJ×V)):List (bJ×V):=more.foldl (λa b=>gL a b.1 b.2) kvs
theorem KV.merge:∀{more:List (bJ×V)} {rs:List (bJ×Yd)} {kvs:List (bJ×V)} {vs:List (bJ×Yd)},KV more rs->KV kvs vs->KV (vb kvs more) (afa vs rs):=by
 intro more rs kvs vs r;unfold KV at r
 induction r generalizing kvs vs with
 |nil=>intro q;exact q
 |@cons p q ps qs h t ih=>
  intro a;have e:KV (gL kvs p.1 p.2) (stored vs q.1 q.2):=by
   have:=a.put p.1 h.2;rw[←h.1];exact this
  exact ih e
structure M1(X:Cx)(o:cT)(m:Yo)(Ze:abE)(e:cT)(Zg:abE):Prop where
 base:abk o m X.env (pk o X.env)=pk o X.env
 few:((aal Zg (YW [e] X.env)).all (λx=>!x.1)&&(abv Zg (aaN [] X.env)).all (λx=>x.1.isSome)
  &&decide (([e]:List cT).length+ ([]:List adO).length+ (if([]:List adO).isEmpty then 0 else 1)<30))=true
 line:(Ze.endLine==Zg.line)=true
 trees:aal Zg (YW [e] X.env)=[(false,pk e X.env)]
structure M2(X:Cx)(o:cT)(m:Yo)(Ze:abE)(e f:cT)(Zg:abE):Prop where
 base:abk o m X.env (pk o X.env)=pk o X.env
 few:((aal Zg (YW [e,f] X.env)).all (λx=>!x.1)&&(abv Zg (aaN [] X.env)).all (λx=>x.1.isSome)
  &&decide (([e,f]:List cT).length+ ([]:List adO).length+ (if([]:List adO).isEmpty then 0 else 1)<30))=true
 line:(Ze.endLine==Zg.line)=true
 trees:aal Zg (YW [e,f] X.env)=[(false,pk e X.env),(false,pk f X.env)]
def Vj(H:Hp)(a:Ye):Prop:=(∃b,Rd H a (.dK b))∨∃b,Rd H a (.dT b)
theorem L3(I:aM X Za σ H s)(d:Vj H a):
  s.TypeIs (.ref a) "dict"/\(∀b,YG a=.ref b->∃ob,s.heap.get? b=Ya ob/\ob.dict=Yb)/\(a==aah)=false:=by
 rcases d with⟨c,e⟩|⟨c,e⟩
 ·obtain⟨_,hd,f,_,dd⟩:=j7 I.hok e;refine⟨dd.typeIs,λb q=>?_,hd⟩;cases q;obtain⟨ob,_,_,h1,h2,_⟩:=dd;exact⟨ob,h1,h2.2.1⟩
 ·obtain⟨_,hd,g,_,dd⟩:=rm I.hok e;refine⟨dd.typeIs,λb q=>?_,hd⟩;cases q;obtain⟨ob,_,_,h1,h2,_⟩:=dd;exact⟨ob,h1,h2.2.1⟩
section
variable{r:Yd}{o:Option V}
theorem Tf(j:A.units+ 1<aap)(I:aM X Za σ H s)(g:iK H a y o)(i:RelV y u)(h:∀w' s',aM X Za σ H s'->RelV (o.getD .non) w'->Q w' s'):
  Yq (Yt X.prog X.w) A (call (.builtin "dict.get") [.ref a,u]) Q E s:=by
 rcases g with⟨d,k,e,f,l⟩|⟨d,k,b,e,f,m,l⟩
 ·subst f;obtain⟨z,hd,p,c,dd⟩:=j7 I.hok e;refine acH abq dd.typeIs acp (aft _ _) (meets_dict_get (aY X.prog X.w) a (zE i) hd) ⟨_,dd.mapOf,h _ _ (I.tok _) ?_⟩;rw[l];exact(c.val k).getD rfl
 ·subst f;cases (show u=YG b from i);obtain⟨z,hd,n,c,dd⟩:=rm I.hok e;refine acH abq dd.typeIs acp (aft _ _) (meetsH_dict_get (abo (aY X.prog X.w)) a b hd) ⟨abQ j,k,n,key_of I.hok m,dd,h _ _ (I.tok _) ?_⟩;rw[l];exact(c.val k).getD rfl
theorem S9(m:A.units+ 1<aap)(I:aM X Za σ H s)(g:iK H a y o)(j:RelV y u)(rd:RelV d r)(h:∀w' s',aM X Za σ H s'->RelV (o.getD d) w'->Q w' s'):
  Yq (Yt X.prog X.w) A (call (.builtin "dict.get") [.ref a,u,r]) Q E s:=by
 rcases g with⟨f,k,e,i,l⟩|⟨f,k,b,e,i,n,l⟩
 ·subst i;obtain⟨z,hd,q,c,dd⟩:=j7 I.hok e;refine acH abq dd.typeIs acp (afu _ _ _) (meets_dict_get_default (aY X.prog X.w) a (zE j) hd r) ⟨_,dd.mapOf,h _ _ (I.tok _) ?_⟩;rw[l];exact(c.val k).getD rd
 ·subst i;cases (show u=YG b from j);obtain⟨z,hd,p,c,dd⟩:=rm I.hok e;refine acH abq dd.typeIs acp (afu _ _ _) (meetsH_dict_get_default (abo (aY X.prog X.w)) a b hd r) ⟨abQ m,k,p,key_of I.hok n,dd,h _ _ (I.tok _) ?_⟩;rw[l];exact(c.val k).getD rd
end
def MU(td ty:TE):TE:=λσ H Q=>td σ H λx b=>∃a,x=.ref a/\Vj b a/\ty σ b λy c=>∃o,iK c a y o/\Q (o.getD .non) c
def Md(td ty d:TE):TE:=λσ H Q=>td σ H λx b=>∃a,x=.ref a/\Vj b a/\ty σ b λy e=>d σ e λz c=>∃o,iK c a y o/\Q (o.getD z) c
section
variable{o f:cT}{Zg:abE}{tx:TE}
theorem MK(j:X.A.units+ 1<aap)(ho:PE X o td)(k:PE X e ty)(m:M1 X o "get" Ze e Zg):PE X (.Call (.Attribute o "get" Ze) [e] [] Zg) (MU td ty):=by
 intro f s σ H Q I h;refine ahq m.base m.few m.line aaQ abq af7 (cu (ho f s σ H _ I h) λu l b=>?_);obtain⟨x,n,i,p,a,ex,d,q⟩:=b;subst ex;obtain rfl:u=YG a:=p;obtain⟨r,t,_⟩:=L3 i d;refine⟨r,t,?_⟩;rw[m.trees];refine aaV rfl (adY (ac7 (cu (k f l σ n _ i q) λC D b=>?_)));obtain⟨y,v,w,z,E,g,A⟩:=b;refine aeO ?_;exact Tf j w g z λF G B c=>⟨_,v,B,c,A⟩
theorem yJ(k:X.A.units+ 1<aap)(ho:PE X o td)(l:PE X e ty)(n:PE X f tx)(m:M2 X o "get" Ze e f Zg):PE X (.Call (.Attribute o "get" Ze) [e,f] [] Zg) (Md td ty tx):=by
 intro c s σ H Q I h;refine ahq m.base m.few m.line aaQ abq af7 (cu (ho c s σ H _ I h) λu p b=>?_);obtain⟨x,q,j,r,a,ex,d,t⟩:=b;subst ex;obtain rfl:u=YG a:=r;obtain⟨v,w,_⟩:=L3 j d;refine⟨v,w,?_⟩;rw[m.trees];refine aaV rfl (adY (ac7 (cu (l c p σ q _ j t) λM A b=>?_)));obtain⟨y,B,C,D,E⟩:=b;refine ac7 (cu (n c A σ B _ C E) λN O b=>?_);obtain⟨z,F,G,J,P,g,K⟩:=b;refine aeO ?_;exact S9 k G g D J λR S L i=>⟨_,F,L,i,K⟩
end
section
variable{kvs:List (bJ×V)}
end
section
end
end L2
namespace HT
open PySem PyProof.Rows
noncomputable def eD:List Int->List Int->Bool
 |[],[]=>false
 |[],_::_=>true
 |_::_,[]=>false
 |x::xs,y::ys=>if x=y then eD xs ys else decide (x<y)
theorem nv(x y:Int)(xs ys:List Int):eD (x::xs) (y::ys)=if x=y then eD xs ys else decide (x<y):=rfl
theorem zY:eD [] []=false:=rfl
theorem yG(y:Int)(ys:List Int):eD [] (y::ys)=true:=rfl
theorem yo(x:Int)(xs:List Int):eD (x::xs) []=false:=rfl
theorem Mt(A:xw)(s:Ym)(a:Int)(t:ac2)(c:Int)(u:ac2):∃e,SeqAt.EqAt A s (.int a t) (.int c u) e/\(e=true↔a=c):=
 ⟨(a==c),SeqAt.EqAt.int_int a t c u,by simp⟩
theorem Oo(A:xw)(s:Ym)(a:Int)(t:ac2)(c:Int)(u:ac2)(prog:YZ)(w:Y6)(E:Yd->Ym->Prop)(Q:Yd->Ym->Prop)(h:Q (.bool (decide (a<c))) s):
  Yq (Yt prog w) A (afP .Lt (.int a t) (.int c u)) Q E s:=
 (ah7 h:Yq (Yt prog w) A (aaq .Lt (.int a t) (.int c u)) Q E s)
section
open PySem.SeqAt
open PySem.AutoSeq1 (wpAny_loadPart')
open PySem.MeetsSeq PySem.MeetsSeq2 PySem.MeetsSeq3
theorem zU(l b:Ye)(items f:Array Yd)(n n2:Nat)(dd E:Option Ye)(L F:Array (Option Yd))(ns B:List Int)(H:RW items.toList ns)(I:RW f.toList B):
  acz (aaa.«tuple.__lt__» ⟨[.ref l,.ref b],[]⟩)
   (λ_ R s=>s.heap.get? l=Ya {cls:=.type "tuple",dict:=dd,data:=.seq items n,slots:=L}/\s.heap.get? b=Ya {cls:=.type "tuple",dict:=E,data:=.seq f n2,slots:=F}/\
    R (.ok (.ret (.bool (eD ns B)))) s):=
 .of_wp λprog w A R s h=>by
  obtain⟨hp,g,d,tk,os⟩:=s;obtain⟨hl,M,h⟩:=h;have O:=AutoSeq1.sub_tuple_tuple;have P:items.size=ns.length:=by rw[←H.length];simp
  have Q:f.size=B.length:=by rw[←I.length];simp
  wp_walk using aih hl,aih M,adI _ (λJ b s'=>b.1=Yb/\s'=⟨hp,g,d,tk,os⟩/\∃(C D:List Yd) (j k:List Int),J=C.zip D/\
   RW C j/\RW D k/\j.length+ f.size=k.length+ items.size/\R (.ok (.ret (.bool (eD j k)))) ⟨hp,g,d,tk,os⟩) _
  case turn=>
   rintro⟨y,x⟩ J b s' ⟨v,rfl,C,D,j,k,m,z,o,i,p⟩;cases z with
   |nil=>rw[List.zip_nil_left]at m;cases m
   |cons a t hvi'=>
    cases o with
    |nil=>rw[List.zip_nil_right]at m;cases m
    |cons c u hwi'=>
     rw[aev]at m;injection m with hyx hrest;injection hyx with hy hx;subst hy hx;rw[nv]at p;simp only[Y5]at i;obtain⟨e,N,r⟩:=Mt A.in1 ⟨hp,g,d,tk,os⟩ a t c u;refine Yf (N prog w _ _ ?_);cases e with
     |true=>
      rw[if_pos (r.mp rfl)]at p
      wp_walk
      exact⟨rfl,rfl,_,_,_,_,hrest,hvi',hwi',by omega,p⟩
     |false=>
      rw[if_neg (λq=>absurd (r.mpr q) YX)]at p;have G:=Oo A.in1 ⟨hp,g,d,tk,os⟩ a t c u prog w
      wp_walk using G
      exact⟨_,rfl,by simpa using p⟩
  case fin=>
   rintro⟨S,T⟩ s' ⟨v,rfl,C,D,j,k,m,z,o,i,p⟩;simp only at v;subst v;have K:eD j k=decide (items.size<f.size):=by
    cases z with
    |nil=>
     cases o with
     |nil=>
      simp only[abd]at i;rw[zY];exact(decide_eq_false (by omega)).symm
     |cons c u hw=>
      simp only[abd,Y5]at i;rw[yG];exact(decide_eq_true (by omega)).symm
    |cons a t K=>
     cases o with
     |nil=>
      simp only[abd,Y5]at i;rw[yo];exact(decide_eq_false (by omega)).symm
     |cons c u hw=>
      rw[aev]at m;cases m
   rw[K]at p
   wp_walk
   exact⟨_,rfl,by simpa [Builtin.Tuple.tupleCompareSizes]using p⟩
  case h=>
   exact⟨rfl,rfl,items.toList,f.toList,ns,B,rfl,H,I,by omega,h⟩
end
section
variable{prog:YZ}{w:Y6}{A:xw}{E:Yd->Ym->Prop}{s:Ym}
theorem F7{l b:Ye}{items a:Array Yd}{ns c:List Int}{Q:Yd->Ym->Prop}(hl:IsTup s.heap l items)(o:IsTup s.heap b a)(p:RW items.toList ns)(q:RW a.toList c)
  (r:A.units<aap) (h:Q (.bool (eD ns c)) s):Yq (Yt prog w) A (aaq .Lt (.ref l) (.ref b)) Q E s:=by
 obtain⟨⟨t,dd,j,u⟩,ho,k,n,hd⟩:=id hl;obtain⟨⟨m,g,data2,i⟩,d,e,n2,f⟩:=id o;simp only at k hd e f;subst k hd e f;exact richCompare_meets_room (op:=.Lt) ⟨_,ho,rfl⟩ ⟨_,d,rfl⟩ PySem.F.slot_tuple_lt PySem.F.entry_tuple_lt (PySem.F.args_tuple_lt_2 _ _) (zU l b items a n n2 dd g u i ns c p q)
  ⟨ho,d,show acP (eD ns c)≠Value.notImplemented/\Q (.bool (eD ns c)) s from⟨(λx=>nomatch x),h⟩⟩ r
noncomputable def z8(n d:Nat):Option Int->Nat
 |none=>d
 |some v=>if v<0 then(v+ (n:Int)).toNat else min v.toNat n
end
end HT
namespace L2
open PySem PySem.Spec PyProof.Rows
variable{X:Cx}{e:cT}{pos:abE}{n j t':Nat}{i:Int}{r:R2}{Za:List (Ye×uc)}{σ:St}{H:Hp}{s:Ym}{T:String}{its:List Yd}
abbrev TO:=St->Hp->(Option Int->Hp->Prop)->Prop
def PO(X:Cx)(e:Option cT)(t:TO):Prop:=
 ∀(a:List (Ye×uc)) (s:Ym) (σ:St) (H:Hp) (Q:Option Int->Hp->Prop),aM X a σ H s->t σ H Q->
  Yq (Yt X.prog X.w) X.A (evalPart e X.env) (λu s'=>∃o b,aM X a σ b s'/\IsPart u o/\Q o b) X.xe s
def Ip:TO:=λ_ H Q=>Q Yb H
def RU(t:TE):TO:=λσ H Q=>t σ H λx a=>∃i,x=.int i/\Q (Ya i) a
theorem jt{ns:List Int}:∀{us:List Yd},Vals (ns.map V.int) us->RW us ns:=by
 induction ns with
 |nil=>intro us r;rw[ac9]at r;cases r;exact .nil
 |cons n ns ih=>
  intro us r;rw[YF]at r;cases r with
  |cons r1 r2=>
   obtain⟨t,e⟩:=r1;subst e;exact .cons n t (ih r2)
section
variable{te:TE}{lo hi:Option cT}{tl th:TO}{p2:abE}
theorem xP:PO X Yb Ip:=by
 intro a s σ H Q I h;rw[aiZ];exact Yp ⟨Yb,H,I,.none,h⟩
theorem xY(h:PE X e te):PO X (Ya e) (RU te):=by
 intro a s σ H Q I hw;rw[evalPart_some];refine cu (h a s σ H _ I hw) λu j b=>?_;obtain⟨x,c,d,f,g⟩:=b;obtain⟨i,rfl,q⟩:=g;obtain⟨t,rfl⟩:=f;exact⟨Ya i,c,d,.int i t,q⟩
def XJ(X:Cx)(r:V->Option Int->Option Int->Hp->VK->Prop):Prop:=
 ∀(a:List (Ye×uc)) (s:Ym) (σ:St) (H:Hp) (x:V) (v b c:Yd) (lo d:Option Int) (e:Ye) (Q:VK),aM X a σ H s->RelV x v->s.heap.IsSliceOf e b c .none->IsPart b lo->IsPart c d->r x lo d H Q->
  ∃T id,agx (.type T) "__getitem__"=pure (Ya (.builtin id))/\s.TypeIs v T/\Yq (Yt X.prog X.w) X.A (af5 v (.ref e)) (EP X a σ Q) X.xe s
def tSl(r:V->Option Int->Option Int->Hp->VK->Prop)(a:TE)(tl b:TO):TE:=λσ H Q=>a σ H λx c=>tl σ c λl d=>b σ d λu e=>r x l u e Q
theorem uI{r:V->Option Int->Option Int->Hp->VK->Prop}(j:XJ X r)(k:PE X e te)(hl:PO X lo tl)(m:PO X hi th):PE X (.Subscript e (.Slice lo hi Yb p2) pos) (tSl r te tl th):=by
 intro c s σ H Q I h;refine aif (cu (k c s σ H _ I h) λv n d=>?_);obtain⟨x,o,p,t,w⟩:=d;refine wpAny_Slice (cu (hl c n σ o _ p w) λf y d=>?_);obtain⟨l,z,A,B,C⟩:=d;refine cu (m c y σ z _ A C) λg a d=>?_;obtain⟨u,i,D,E,F⟩:=d;rw[aiZ];refine Yp ?_;have G:aM X c σ i {a with heap:=a.heap.push {cls:=.type "slice",data:=.fields #[f,g,.none]}}:=D.kept (t':=a.toks) λb ob q=>Yh _ q;obtain⟨T,id,J,K,L⟩:=j c {a with heap:=a.heap.push {cls:=.type "slice",data:=.fields #[f,g,.none]}} σ i x v f g l u a.heap.objs.size Q G t (Heap.IsSliceOf.new ..) B E F;show Yq (Yt X.prog X.w) X.A (agN e (.Slice lo hi Yb p2) v (.ref a.heap.objs.size)) (EP X c σ Q) X.xe {a with heap:=a.heap.push {cls:=.type "slice",data:=.fields #[f,g,.none]}};exact tail_any (ops:=[.ref a.heap.objs.size,v]) K J L (by with_unfolding_all rfl)
noncomputable def zk(xs:List V)(lo a:Option Int):List V:=(xs.drop (HT.z8 xs.length 0 lo)).take (HT.z8 xs.length xs.length a-HT.z8 xs.length 0 lo)
theorem EM(xs:List V)(lo a:Option Int):(zk xs lo a).length<=xs.length:=by
 unfold zk;rw[xj,ab3];omega
end
noncomputable def Vp(n:Nat)(i:Int):Option Nat:=if 0<=i then(if i<n then Ya i.toNat else Yb)else if-(n:Int)<=i then Ya (i+ n).toNat else Yb
noncomputable def u5{α:Type}(xs:List α)(i:Int):Option α:=(Vp xs.length i).bind λj=>xs[j]?
theorem O5(h:Vp n i=Ya j):seqIndex? i n=Ya j/\j<n/\-(n:Int)<=i/\i<n:=by
 unfold Vp at h;by_cases h0:0<=i
 ·rw[if_pos h0]at h;by_cases h1:i<n
  ·rw[if_pos h1]at h;have e:i.toNat=j:=YK h;exact⟨by rw[seqIndex_of h0 h1,e],by omega,by omega,h1⟩
  ·rw[if_neg h1]at h;cases h
 ·rw[if_neg h0]at h;by_cases h1:-(n:Int)<=i
  ·rw[if_pos h1]at h;have e:(i+ n).toNat=j:=YK h;exact⟨by rw[ajc (by omega) h1,e],by omega,h1,by omega⟩
  ·rw[if_neg h1]at h;cases h
theorem Ca{α:Type}{xs:List α}{v:α}(h:u5 xs i=Ya v):∃j,seqIndex? i xs.length=Ya j/\xs[j]?=Ya v/\j<xs.length/\-(xs.length:Int)<=i/\i<xs.length:=by
 unfold u5 at h;cases e:Vp xs.length i with
 |none=>rw[e]at h;cases h
 |some j=>
  rw[e]at h;obtain⟨h1,h2,h3,h4⟩:=O5 e;exact⟨j,h1,h,h2,h3,h4⟩
theorem cD{α:Type}{xs:List α}{v:α}(h:xs[j]?=Ya v):u5 xs (j:Int)=Ya v:=by
 have a:j<xs.length:=(Yj.mp h).1;have e:Vp xs.length (j:Int)=Ya j:=by
  unfold Vp;rw[if_pos (by omega),if_pos (by omega)];simp
 unfold u5;rw[e];exact h
def OQ(b:cT):Prop:=∀o i,afO b false o i=ajB [o,i] (af5 o i)
def K1(X:Cx)(r:R2):Prop:=
 ∀(c a:cT) (b:List (Ye×uc)) (s:Ym) (σ:St) (H:Hp) (x y:V) (v u:Yd) (Q:VK),aM X b σ H s->RelV x v->RelV y u->r x y H Q->
  afO a false v u=ajB [v,u] (af5 v u)->Yq (Yt X.prog X.w) X.A (agN c a v u) (EP X b σ Q) X.xe s
def Vk(X:Cx)(id:String)(r:V->List V->Hp->VK->Prop):Prop:=
 ∀(a:List (Ye×uc)) (s:Ym) (σ:St) (H:Hp) (x:V) (b:List V) (v:Yd) (c:List Yd) (Q:VK),aM X a σ H s->RelV x v->Vals b c->r x b H Q->
  Yq (Yt X.prog X.w) X.A (call (.builtin id) (v::c)) (EP X a σ Q) X.xe s
section
variable{a b:cT}{ta tb:TE}
theorem K1.or{b:R2}(h:K1 X r)(h':K1 X b):K1 X (λx y H Q=>r x y H Q∨b x y H Q):=by
 intro c a d s σ H x y v u Q I e f q hs;rcases q with q|q
 ·exact h c a d s σ H x y v u Q I e f q hs
 ·exact h' c a d s σ H x y v u Q I e f q hs
theorem bz(c:K1 X r)(ha:PE X a ta)(d:PE X b tb)(hs:OQ b):PE X (.Subscript a b pos) (Vl r ta tb):=by
 intro e s σ H Q I h;exact aif (Um ha d I h λv u f x y g i j k q=>c a b e f σ g x y v u Q i j k q (hs _ _))
def Ql(K:Yc):R2:=λx y H Q=>∃p a i v,x=.ref p/\y=.int i/\bc K H p a/\u5 a i=Ya v/\Q v H
def QN(K:Yc):R2:=λx y H Q=>∃p a i v,x=.ref p/\y=.int i/\bI K H p a/\u5 a i=Ya v/\Q v H
def Wq:R2:=λx y H Q=>∃z i c,x=.str z/\y=.int i/\z.length<=YB/\u5 z.cps.toList i=Ya c/\Q (.str ⟨#[c]⟩) H
theorem HJ:K1 X (Ql X.K):=by
 intro o a f s σ H x y v u Q I k l h hs;obtain⟨p,A,i,z,rfl,rfl,m,n,q⟩:=h;cases k;obtain⟨t,rfl⟩:=l;obtain⟨b,r,c,B⟩:=I.list m;obtain⟨j,h1,h2,h3,h4,h5⟩:=Ca n;obtain⟨w,g,d⟩:=r.get h2;have hl:=r.length;have hn:=yY;have fin:EP X f σ Q w s:=⟨z,H,I,d,q⟩;by_cases h0:0<=i
 ·have e:i.toNat=j:=by
   rw[seqIndex_of h0 h5]at h1;exact YK h1
  exact item_listR c.isList h0 (by omega) (by rw[e];simpa using g) fin hs
 ·have e:(i+ (b.toArray.size:Int)).toNat=j:=by
   rw[ajc (by omega) h4]at h1;rw[Yz,←hl];exact YK h1
  exact afQ (x:=w) c.isList.typeIs ahr.lookup
   (wpAny_getItem_list_neg (Q:=λr s'=>r=w/\EP X f σ Q r s') c.isList (by omega) (by rw[Yz]<;>omega) (by omega) (by rw[e];simpa using g) ⟨rfl,fin⟩) hs
theorem M8:K1 X (QN X.K):=by
 intro n a c s σ H x y v u Q I e f h hs;obtain⟨p,o,i,z,rfl,rfl,g,k,q⟩:=h;cases e;obtain⟨t,rfl⟩:=f;obtain⟨l,r,d,A⟩:=I.tuple g;obtain⟨j,h1,h2,h3,h4,h5⟩:=Ca k;obtain⟨w,m,b⟩:=r.get h2;have hl:=r.length;have hn:=yY;have fin:EP X c σ Q w s:=⟨z,H,I,b,q⟩;exact afQ (x:=w) d.typeIs slot_tuple_getitem.lookup
  (getItem_tuple (j:=j) (Q:=λr s'=>r=w/\EP X c σ Q r s') d (by omega) (by omega) (by rw[Yz,←hl];exact h1) (by simpa using m) ⟨rfl,fin⟩) hs
theorem U3:K1 X Wq:=by
 intro k a l s σ H x y v u Q I b d h hs;obtain⟨z,i,c,rfl,rfl,m,e,q⟩:=h;obtain⟨t,rfl⟩:=b;obtain⟨n,rfl⟩:=d;obtain⟨j,h1,h2,h3,h4,h5⟩:=Ca e;have hl:z.cps.toList.length=z.length:=by simp[Str.length]
 rw[hl]at h1 h4 h5;have hn:=yY;exact tail_any (typeIs_str s z t) slot_str_getitem.lookup (getItem_str (c:=c) (by
  have f:decide (i< -(2^63:Int))=false:=decide_eq_false (by omega);have g:decide (i≥2^63)=false:=decide_eq_false (by omega);rw[f,g,agO]) (by rw[h1];simpa using h2) ⟨.str ⟨#[c]⟩,H,I.tok _,⟨_,rfl⟩,q⟩) hs
def XX(K:Yc):R2:=λx y H Q=>Ql K x y H Q∨QN K x y H Q∨Wq x y H Q
theorem TM:K1 X (XX X.K):=HJ.or (M8.or U3)
theorem CC(lo a:Option Int)(n:Nat):(acY lo a Yb n).1=((HT.z8 n 0 lo:Nat):Int)/\(acY lo a Yb n).2.1=((HT.z8 n n a:Nat):Int)/\(acY lo a Yb n).2.2=1:=by
 refine⟨?_,?_,rfl⟩
 ·cases lo with
  |none=>simp[acY,HT.z8]
  |some i=>
   simp only[acY,HT.z8,afb,show(1:Int)>0 by decide,if_true];by_cases h:i<0
   ·simp only[h,if_true]<;>omega
   ·simp only[h,if_false]<;>omega
 ·cases a with
  |none=>simp[acY,HT.z8]
  |some i=>
   simp only[acY,HT.z8,afb,show(1:Int)>0 by decide,if_true];by_cases h:i<0
   ·simp only[h,if_true]<;>omega
   ·simp only[h,if_false]<;>omega
theorem Aa(its:List Yd)(lo a:Option Int):slicePick its.toArray lo a Yb=((its.drop (HT.z8 its.length 0 lo)).take (HT.z8 its.length its.length a-HT.z8 its.length 0 lo)).toArray:=by
 obtain⟨h1,h2,h3⟩:=CC lo a its.toArray.size;unfold slicePick;rw[h1,h2,h3];simp only[sliceRange_one,pick_run,Yz]<;>rfl
def UT(K:Yc):V->Option Int->Option Int->Hp->VK->Prop:=λx lo c H Q=>∃a b,x=.ref a/\bc K H a b/\∀p,H p=Yb->Q (.ref p) (upd H p (.lst (zk b lo c)))
theorem PJ:XJ X (UT X.K):=by
 intro n s σ H x v p t lo e u Q I g hs i j h;obtain⟨a,c,rfl,k,q⟩:=h;cases g;obtain⟨l,r,f,m⟩:=I.list k;have d:=r.length;refine⟨"list",_,ahr.lookup,f.isList.typeIs,?_⟩;refine wpAny_getItem_list_slice f.isList hs i j .none (by simp) ?_ (by rw[Yz]<;>omega);rw[Aa,←d];refine⟨.ref s.heap.objs.size,_,I.laid (t':=s.toks) (o:=.lst (zk c lo e)) (λb ob q=>Yh _ q) (Yl _) ?_,rfl,q _ (I.hok.fresh (Yl _))⟩;exact⟨xy (EM c lo e) m,_,0,(r.drop (HT.z8 c.length 0 lo)).take (HT.z8 c.length c.length e-HT.z8 c.length 0 lo),Yv _ rfl⟩
theorem Co:c6 X (.builtin "len") (λxs H Q=>∃p ys,xs=[.ref p]/\(bc X.K H p ys∨bI X.K H p ys)/\Q (.int ys.length) H):=by
 intro i s σ H xs j Q I r h;obtain⟨p,ys,rfl,b,q⟩:=h;obtain⟨u,rfl,f⟩:=dW r;cases f;have hn:=yY;rcases b with b|b
 ·obtain⟨c,d,e,g⟩:=I.list b;have a:=d.length;exact Calls.call_len_list e.isList (by simp only[Yz]<;>omega) ⟨.int ys.length,H,I.tok _,⟨s.toks+ 1,by rw[Yz,a]⟩,q⟩
 ·obtain⟨c,d,e,g⟩:=I.tuple b;have a:=d.length;exact len_tuple e (by simp only[Yz]<;>omega) ⟨.int ys.length,H,I.tok _,⟨s.toks+ 1,by rw[Yz,a]⟩,q⟩
theorem B4:c6 X (.type "list") (λxs H Q=>∃p ys,xs=[.ref p]/\(bc X.K H p ys∨bI X.K H p ys)/\∀l,H l=Yb->Q (.ref l) (upd H l (.lst ys))):=by
 intro v s σ H xs x Q I r h;obtain⟨p,ys,rfl,g,q⟩:=h;obtain⟨u,rfl,w⟩:=dW r;cases w;have fin:∀(a:List Yd),Vals ys a->ys.length<=YB->∀(c:YT) (d:Nat),(∀b t,s.heap.get? b=Ya t->c.get? b=Ya t)->
   c.get? s.heap.objs.size=Ya {cls:=.type "list",dict:=Yb,data:=.seq a.toArray d,slots:=#[]}->EP X v σ Q (.ref s.heap.objs.size) {s with heap:=c}:=λa f i c d kp e=>
  ⟨.ref s.heap.objs.size,_,I.laid (t':=s.toks) kp (Yl _) (show cg X.prog X.w _ c _ (.lst ys)from⟨i,a,d,f,e⟩),rfl,q _ (I.hok.fresh (Yl _))⟩
 rcases g with g|g
 ·obtain⟨a,f,k,i⟩:=I.list g;have j:=f.length;obtain⟨o,ho,m,n,hd⟩:=k.isList;exact ai0 p (.inl rfl) ho m hd (λc d kp e=>fin a f i c d kp e) (by simp only[Yz]<;>omega)
 ·obtain⟨a,f,k,i⟩:=I.tuple g;have j:=f.length;obtain⟨o,ho,m,n,hd⟩:=k;exact ai0 p (.inr rfl) ho m hd (λc d kp e=>fin a f i c d kp e) (by simp only[Yz]<;>omega)
theorem zS:c6 X (.type "tuple") (λxs H Q=>∃p ys,xs=[.ref p]/\((bc X.K H p ys/\∀l,H l=Yb->Q (.ref l) (upd H l (.tup ys)))∨(bI X.K H p ys/\Q (.ref p) H))):=by
 intro i s σ H xs v Q I r h;obtain⟨p,ys,rfl,h⟩:=h;obtain⟨u,rfl,n⟩:=dW r;cases n;rcases h with⟨d,q⟩|⟨d,q⟩
 ·obtain⟨a,f,g,j⟩:=I.list d;have k:=f.length;refine call_tuple_list g.isList (λc kp=>?_) (by simp only[Yz]<;>omega);have m:aM X i σ H {s with heap:=c}:=I.kept (t':=s.toks) kp;have t:aM X i σ (upd H c.objs.size (.tup ys)) {s with heap:=c.push {cls:=.type "tuple",data:=.seq a.toArray}}:=
   m.laid (t':=s.toks) (λb o e=>Yh _ e) (Yl _) (show cg X.prog X.w _ _ _ (.tup ys)from⟨j,a,f,ox.new _ _⟩)
  exact⟨.ref c.objs.size,_,t,rfl,q _ (m.hok.fresh (Yl _))⟩
 ·obtain⟨a,f,g,j⟩:=I.tuple d;exact call_tuple_same g ⟨.ref p,H,I,rfl,q⟩
def Sx(K:Yc)(T:String)(x:V)(H:Hp):Prop:=match x with
 | .str _=>T="str"
 | .int _=>T="int"
 | .ref p=>(T="list"/\∃b,bc K H p b)∨(T="tuple"/\∃o,K.lookup p=Ya o/\o.cls=.type "tuple"/\o.dict=Yb)∨
   (T="dict"/\((∃a,H p=Ya (.dK a))∨∃a,H p=Ya (.dT a)))∨(T="set"/\∃S n,H p=Ya (.set S n))
 |_=>False
theorem vI{x:V}{v:Yd}(I:aM X Za σ H s)(r:RelV x v)(ty:Sx X.K T x H):
  s.TypeIs v T/\∀a,v=.ref a->∃ob,s.heap.get? a=Ya ob/\ob.dict=none:=by
 cases x with
 |str z=>
  obtain⟨t,rfl⟩:=r;cases (show T="str"from ty);exact⟨typeIs_str s z t,λ_ e=>nomatch e⟩
 |int i=>
  obtain⟨t,rfl⟩:=r;cases (show T="int"from ty);exact⟨typeIs_int s i t,λ_ e=>nomatch e⟩
 |ref p=>
  cases r;rcases ty with⟨rfl,l,h⟩|⟨rfl,o,b,j,hd⟩|⟨rfl,b⟩|⟨rfl,S,n,b⟩
  ·obtain⟨k,_,g,_⟩:=I.list h;refine⟨g.isList.typeIs,λa e=>?_⟩;cases e;obtain⟨o,n,e,c,hd,_⟩:=g;exact⟨o,e,hd⟩
  ·refine⟨⟨o,I.kIn p o b,j⟩,λa e=>?_⟩;cases e;exact⟨o,I.kIn _ o b,hd⟩
  ·have z:∃o,s.heap.get? p=Ya o/\o.ExactDict:=by
    rcases b with⟨d,b⟩|⟨d,b⟩
    ·obtain⟨_,_,_,_,o,_,_,e,ex,_⟩:=I.hok p _ b;exact⟨o,e,ex⟩
    ·obtain⟨_,_,_,_,o,_,_,e,ex,_⟩:=I.hok p _ b;exact⟨o,e,ex⟩
   obtain⟨o,e,ex⟩:=z;refine⟨⟨o,e,ex.1⟩,λa f=>?_⟩;cases f;exact⟨o,e,ex.2.1⟩
  ·obtain⟨o,_,_,_,e,ex,_⟩:=I.hok p _ b;refine⟨⟨o,e,ex.1⟩,λa f=>?_⟩;cases f;exact⟨o,e,ex.2.1⟩
 |_=>exact aaw ty
def Wu(K:Yc)(T:String)(r:V->List V->Hp->VK->Prop)(to:TE):TE:=λσ H Q=>to σ H λx a=>Sx K T x a/\r x [] a Q
def Xs(K:Yc)(T:String)(r:V->List V->Hp->VK->Prop)(to:TE)(t:TA):TE:=λσ H Q=>to σ H λx a=>Sx K T x a/\t σ a λb c=>r x b c Q
variable{o:cT}{es:List cT}{to:TE}{t:TA}{name:Yo}{Ze Zg:abE}{id:String}{r:V->List V->Hp->VK->Prop}
theorem BI(g:PlainAttrs T)(slot:ajd T name id)(c:aii (.builtin id)=pure (.type "method_descriptor"))(hm:Vk X id r)(ho:PE X o to)
  (a:abk o name X.env (pk o X.env)=pk o X.env:=by rfl) (b:(Ze.endLine==Zg.line)=true:=by rfl):PE X (.Call (.Attribute o name Ze) [] [] Zg) (Wu X.K T r to):=by
 intro d s σ H Q I h;refine acf a b (cu (ho d s σ H _ I h) λv i j=>?_);obtain⟨x,k,e,f,ty,l⟩:=j;obtain⟨h1,h2⟩:=vI e f ty;exact⟨T,id,g,slot,c,h1,h2,aaV rfl (ac0 (hm d i σ k x [] v [] Q e f .nil l))⟩
theorem Hk(l:PlainAttrs T)(slot:ajd T name id)(f:aii (.builtin id)=pure (.type "method_descriptor"))(hm:Vk X id r)(ho:PE X o to)(ha:PA X (e::es) t)
  (b:abk o name X.env (pk o X.env)=pk o X.env:=by rfl)
  (d:((aal Zg (YW (e::es) X.env)).all (λx=>!x.1)&&(abv Zg (aaN [] X.env)).all (λx=>x.1.isSome)
   &&decide ((e::es).length+ ([]:List adO).length+ (if([]:List adO).isEmpty then 0 else 1)<30))=true:=by rfl)
  (c:(Ze.endLine==Zg.line)=true:=by rfl) (hs:YW (e::es) X.env=(false,pk e X.env)::YW es X.env:=by rfl) (a:(aal Zg (YW es X.env)).any (·.1)=false:=by rfl):
  PE X (.Call (.Attribute o name Ze) (e::es) [] Zg) (Xs X.K T r to t):=by
 intro g s σ H Q I h;refine wpAny_Call_method_late b d c rfl (cu (ho g s σ H _ I h) λv m n=>?_);obtain⟨x,p,i,j,ty,q⟩:=n;obtain⟨h1,h2⟩:=vI i j ty;refine⟨T,id,l,slot,f,h1,h2,?_⟩;have k:=ha Zg g m σ p _ i q;rw[hs]at k⊢;refine aaV (by show(false||(aal Zg (YW es X.env)).any (·.1))=false;rw[a]<;>rfl) (adY ?_);exact cu k λu w ⟨y,z,A,B,C⟩=>hm g w σ z x y v u Q A j B C
end
def MtM(X:Cx)(id:String)(r:V->List V->Hp->VK->Prop):Prop:=
 ∀(a:List (Ye×uc)) (s:Ym) (σ:St) (H:Hp) (x:V) (b:List V) (v:Yd) (c:List Yd) (Q:VK),aM X a σ H s->RelV x v->Vals b c->r x b H Q->
  Yq (Yt X.prog X.w) X.A (call (.builtin id) (v::c)) (EP X a σ Q) X.xe s
theorem Vals.one:∀{x:V} {us:List Yd},Vals [x] us->∃u,us=[u]/\RelV x u:=by
 intro x us h;cases h with|cons r t=>
 cases t;exact⟨_,rfl,r⟩
section
variable{l b:Ye}{xs ys zs:List V}
theorem aM.lset{its':List Yd}{f:Array Yd->Array Yd}(I:aM X Za σ H s)(a:H l=Ya (.lst xs))(e:s.heap.get? l=Ya {cls:=.type "list",data:=.seq its.toArray n})(b:f its.toArray=its'.toArray)(c:Vals ys its')(hz:ys.length<=YB):
  aM X Za σ (upd H l (.lst ys)) {s with heap:=s.heap.update l (aaJ f),toks:=t'}:=by
 have q:=PySem.IsL.update e f;rw[b]at q;refine I.write (x:=l) (e:=l) (by rw[a];exact trivial) (.inl rfl) (λh u d g=>(Gr s.heap (aaJ f) (Ne.symm d)).trans g) ⟨_,q⟩ ?_;exact⟨hz,its',_,c,q⟩
theorem aM.lnew(I:aM X Za σ H s)(a:Vals ys its)(hz:ys.length<=YB):
  aM X Za σ (upd H s.heap.objs.size (.lst ys)) {s with heap:=s.heap.push {cls:=.type "list",data:=.seq its.toArray},toks:=t'}:=
 I.laid (λ_ _ q=>Yh _ q) (Yl _) ⟨hz,its,0,a,Yv _ rfl⟩
theorem aM.fresh(I:aM X Za σ H s):H s.heap.objs.size=none:=I.hok.fresh (Yl _)
theorem aM.lstM(I:aM X Za σ H s)(a:H l=Ya (.lst xs)):xs.length<=YB/\∃(its:List Yd) (n:Nat),Vals xs its/\xs.length=its.length/\s.heap.get? l=Ya {cls:=.type "list",data:=.seq its.toArray n}:=by
 obtain⟨z,its,n,r,e⟩:=I.hok l _ a;exact⟨z,its,n,r,r.length,e⟩
theorem LM(h:n<=YB):ada n=false:=by
 unfold ada;exact decide_eq_false (by omega)
end
section
def xV:V->List V->Hp->VK->Prop:=λx b H Q=>∃l a y,x=.ref l/\b=[y]/\H l=Ya (.lst a)/\a.length<YB/\Q .non (upd H l (.lst (a++[y])))
theorem qK:MtM X "list.append" xV:=by
 intro g s σ H x i v j Q I c d h;obtain⟨l,k,y,rfl,rfl,b,m,q⟩:=h;cases c;obtain⟨u,rfl,f⟩:=d.one;obtain⟨z,a,n,r,hl,e⟩:=I.lstM b;refine acS F.slot_list_append ⟨_,e,rfl⟩ F.entry_list_append (F.args_list_append_2 _ _) (PySem.list_append l a.toArray n u (by rw[Yz];omega)) ⟨e,?_⟩;refine⟨.non,_,I.lset (its':=a++[u]) b e (by simp) (r.append (.cons f .nil)) ?_,rfl,q⟩;rw[Yu,Y1];omega
def Q5:V->List V->Hp->VK->Prop:=λx d H Q=>∃l b a c,x=.ref l/\d=[.ref b]/\H l=Ya (.lst a)/\H b=Ya (.lst c)/\a.length+ c.length<=YB/\Q .non (upd H l (.lst (a++c)))
theorem JS:MtM X "list.extend" Q5:=by
 intro w s σ H x y v A Q I i j h;obtain⟨l,b,B,C,rfl,rfl,g,k,D,q⟩:=h;cases i;obtain⟨u,rfl,m⟩:=j.one;cases m;obtain⟨z,c,n,r,hl,e⟩:=I.lstM g;obtain⟨E,a,n2,o,p,t⟩:=I.lstM k;have f:c.toArray.size+ a.toArray.size<=YB:=by rw[Yz,Yz];omega
 have d:¬ (!c.toArray.isEmpty&&ada (c.toArray.size+ a.toArray.size))=true:=by
  rw[LM f,aei];exact YX
 refine acS F.slot_list_extend ⟨_,e,rfl⟩ F.entry_list_extend (F.args_list_extend_2 _ _)
  (AutoSeq1.list_extend_list_list_0 l c.toArray n b a.toArray n2 d (by rw[Yz];omega) (by omega)) ⟨e,t,?_⟩
 refine⟨.non,_,I.lset (its':=c++a) g e (by simp) (r.append o) ?_,rfl,q⟩;rw[Yu];omega
def VD:R2:=λx y H Q=>∃l b a c,x=.ref l/\y=.ref b/\H l=Ya (.lst a)/\H b=Ya (.lst c)/\a.length+ c.length<=YB/\∀p,H p=Yb->Q (.ref p) (upd H p (.lst (a++c)))
theorem FY:tE X (acR .Add) VD:=by
 intro p s σ H x y v u Q I d f h;obtain⟨l,b,t,w,rfl,rfl,g,i,A,q⟩:=h;cases d;cases f;obtain⟨z,c,n,r,hl,e⟩:=I.lstM g;obtain⟨B,a,n2,j,k,m⟩:=I.lstM i;refine PySem.P.add_list e m ?_ (by rw[Yz,Yz];omega);have o:c.toArray++a.toArray=(c++a).toArray:=by simp
 rw[o];exact⟨.ref _,_,I.lnew (t':=s.toks) (r.append j) (by rw[Yu];omega),rfl,q _ I.fresh⟩
end
section
variable{prog:YZ}{w:Y6}{A:xw}{E:Yd->Ym->Prop}
end
section
end
end L2
namespace Att
open PySem PySem.W PySem.Calls PyProof.Rows
variable{P:Params}{h:YT}{l:OpenLaw}{n:Nat}
theorem xB:∀(ns:List Int) (vs:List Yd),WellAll P h vs (ns.map WData.int)->RW vs ns:=by
 intro ns
 induction ns with
 |nil=>
  intro vs w;rw[ac9]at w;cases w;exact .nil
 |cons n ns ih=>
  intro vs w;rw[YF]at w;cases w with
  |cons a b=>
   cases a;exact .cons _ _ (ih _ b)
theorem J9(hn:l.most=Ya n){b:List WData}{i:List Yd}(c:l.row.toRowW.claim.pre b=true)(f:WellAll P h i b):
  ∃a vs ns,i=[YG a]/\b=[WData.list (ns.map WData.int)]/\h.get? a=Ya {cls:=.type "list",data:=.seq vs.toArray}/\RW vs ns/\ns.length<=n:=by
 have g:WShape.hasAll [] b [.list .int]=true:=(pre_splitW c).1;have j:l.pre.holds [] {args:=b}=true:=(pre_splitW c).2;obtain⟨d,r,rfl,h1,h2⟩:=hasAllW_cons g;obtain rfl:=hasAllW_nil h2;obtain⟨m,rfl,h3⟩:=hasW_list h1;obtain⟨ns,rfl⟩:=items_int h3;have e:ns.length<=n:=by
  unfold OpenLaw.pre at j;have h4:(WTm.not (.lt (.lit (.int (n:Int))) (.len (.arg 0)))).holds [] {args:=[.list (ns.map .int)]}=true:=by
   have h4:=(holds_andW j).1;rw[hn]at h4;exact h4
  have h5:=condW_of h4 (w_not (w_lt w_lit (w_len_list (w_arg rfl))));rw[Yg]at h5;refine Nat.le_of_not_lt λq=>?_;have k:(n:Int)<((ns.length:Nat):Int):=by omega
  first
   |(rw[decide_eq_true k]at h5;exact absurd h5 (by decide))
   |(simp at h5;omega)
 cases f with
 |cons w1 w2=>
  cases w2;cases w1 with
  |list ho hall=>exact⟨_,_,ns,rfl,rfl,ho,xB ns _ hall,e⟩
theorem JE(l:OpenLaw)(a:List WData):l.row.toRowW.claim.post a (.bool true) a=true:=
 postW_of (r:=l.row.toRowW) (X:=(true==true))
  (show WShape.has [] (.bool true) .bool=true by first|rfl|decide|simp[WShape.has,WShape.arms,WShape.armsAll])
  (show(WTm.eq .res (.lit (.bool true))).value [] {args:=a,res:=Ya (.bool true),after:=a}=Ya (.bool (true==true))from w_eq_bool (w_res rfl) w_lit) rfl
theorem attach_call{q:YZ}{b:List Yo}{y:(Yo->Option Yd)->YT->Prop}{z:Y6->YT->Prop}{d:DefRec}(hn:l.most=Ya n)(p:d.params.defaults=[])(call:∀(w:Y6) (s₀ c:Ym) (mg s:Yo->Option Yd) (h:Ye) (o:uc) (t m e:Yd) (a:Ye) (vs:List Yd) (ns:List Int),
   Ground q b [] y w s₀ mg s c.heap->z w c.heap->
   c.heap.get? h=Ya o->o.data=.func (docDef d.name d.params d.body d.scope t m e)->c.heap.CodeRec m d.name->mg d.name=Ya (.ref h)->
   c.heap.get? a=Ya {cls:=.type "list",data:=.seq vs.toArray}->RW vs ns->ns.length<=n->c.gens=#[]->
   Rk (Yt l.prog w) ae5 (.call (.ref h) ⟨[.ref a],[]⟩) (λr s'=>r=.ok (.ret (.bool true))/\OldK c.heap s'.heap/\s'.os=c.os/\acX s'.gens) c):
  WalkO q b y z l.row.toRowW d [] (λf vs=>PySem.call f vs):=by
 intro w s₀ c mg s G Y h o t m e D kV ho hd u A v E B J K i C F x H;obtain rfl:D=.none:=Dflts.none A p;obtain rfl:kV=.none:=Dflts.noKw A;obtain⟨a,vs,ns,rfl,rfl,j,g,k⟩:=J9 hn i x;refine enter_call (codeAny_mono (call w s₀ c mg s h o t m e a vs ns G Y ho (fd_plain hd) u v j g k E) λr s' I=>?_);obtain⟨rfl,h2,h3,h4⟩:=I;exact⟨.inl ⟨.bool true,.bool true,[],rfl,λ_=>rfl,.bool true,JE l _,λ_=>⟨aeQ,λ_ hm=>(nomatch hm)⟩⟩,h2,h3,h4⟩
section
variable{prog:YZ}{w:Y6}{A:xw}{E:Yd->Ym->Prop}{s:Ym}{K:Frag}
end
end Att
namespace L2
open PySem PySem.Spec PyProof.Rows
variable{P:YZ}{w:Y6}{mg:Yo->Option Yd}{k n:Nat}{a f:Ye}{fd:YD}{x Zb:Yo}{sp:Sp}{X:Cx}{ps:List Yo}{A B:Prop}{H H':Hp}
theorem vT:∀{vs:List Yd} {ns:List Int},RW vs ns->Vals (ns.map V.int) vs
 |_,_,.nil=>.nil
 |_,_,.cons n t h=>.cons ⟨t,rfl⟩ (vT h)
def TU(H:Hp):Prop:=∀b,H b=Yb∨∃o a,H b=Ya (.frz o (.lst a))
theorem L9{K:Yc}{G:Yo->Option Yd}{CX:LF}{I:Ye}{c:Ym}{vs:List Yd}{ns:List Int}(Q:K.In c.heap)(p:c.heap.Ns ir mg)(g:c.heap.Ns aia G)(J:∀x:Yo,x≠"__name__"->G x=abh x)(t:c.heap.NoLimit)(X:c.gens=#[])(ha:c.heap.get? a=Ya {cls:=.type "list",data:=.seq vs.toArray})(R:RW vs ns)(hl:ns.length<=YB)(Y:cQ k ae5)(F:∀base:YT,K.In base->base.Ns ir mg->aF P w K mg base CX k I fd [x] sp)(l:∀(s:Ym) (u:Yd),af3 s fd ⟨[u],[]⟩ [(x,u)])(L:∀H:Hp,TU H->bc K H a (ns.map V.int)->sp [.ref a] H (λv _=>v=.bl true) λ_ _ _=>False)(M:∀H e s',CX [] H c (λ_ _ _=>False) e s'->False):
  Rk (Yt P w) ae5 (.call (.ref I) ⟨[.ref a],[]⟩) (λr s'=>r=.ok (.ret (.bool true))/\OldK c.heap s'.heap/\s'.os=c.os/\acX s'.gens) c:=by
 have S:=vT R;have y:=R.length
 -- from an abstract heap in which nothing but the script may be tracked
 have j:∀H:Hp,TU H->bc K H a (ns.map V.int)->mE P w H c.heap->(∀b,H b≠Yb->b=a)->(H a≠Yb->K.lookup a=Yb)->
   Rk (Yt P w) ae5 (.call (.ref I) ⟨[.ref a],[]⟩) (λr s'=>r=.ok (.ret (.bool true))/\OldK c.heap s'.heap/\s'.os=c.os/\acX s'.gens) c:=by
  intro H T Z hok U hK;have f:∀{b:Ye} {o:uc},c.heap.get? b=Ya o->H b=Yb->(Cv c.heap H).get? b=Ya o:=λe n=>Ms e n;have N:∀{b:Ye} {o:uc} {A:Array xl} {B:Nat},c.heap.get? b=Ya o->o.data=.dict A B->H b=none:=fun{b o A B} e d=>by
   cases q:H b with
   |none=>rfl
   |some u=>
    have O:b=a:=U b (by rw[q];simp);subst O;rw[ha]at e;cases e;have d':Data.seq vs.toArray _=Data.dict A B:=d;cases d'
  have i:∀{b:Ye} {m:Yo->Option Yd},c.heap.Ns b m->(Cv c.heap H).Ns b m:=fun{b m} ⟨o,A,B,e,d,r⟩=>⟨o,A,B,f e (N e d),d,r⟩;have C:K.In (Cv c.heap H):=λb o e=>f (Q b o e) (by
   cases q:H b with
   |none=>rfl
   |some u=>
    have O:b=a:=U b (by rw[q];simp);subst O;rw[hK (by rw[q];simp)]at e;cases e)
  have hM:Mod K mg (Cv c.heap H):=⟨C,i p,⟨G,i g,J⟩,let ⟨mc,h1,h2⟩:=t;⟨mc,i h1,h2⟩⟩;have e0:G7 P w K mg (Cv c.heap H) ae5 [] c H:=⟨rfl,hM,λb o e=>Qq e,adW (KH _ _),trivial,λb g=>absurd (show b∈([]:List Ye)from g) (by simp),hok,.of_eq X⟩;refine codeAny_mono ((F _ C (i p)).run ae5 [] c H ⟨[.ref a],[]⟩ [.ref a] [.ref a] _ _ Y e0 (l c (.ref a)) (.cons rfl .nil) (L H T Z)) λr s' h=>?_;cases r with
  |error e=>exact(M H e s' h).elim
  |ok fl=>
   cases fl with
   |next=>exact aaw h
   |brk=>exact aaw h
   |cont=>exact aaw h
   |ret u=>
    obtain⟨v,H',os,bare,un,D,r',q⟩:=h;have q':v=.bl true:=q;subst q';obtain rfl:u=acP true:=r';refine⟨rfl,OldK.of_keep λb o e=>?_,os,bare⟩;cases q:H b with
    |none=>exact un.keep b o e q (by intro z;exact absurd (show b∈([]:List Ye)from z) (by simp)) (by simp)
    |some u=>
     rcases T b with z|⟨ob,xs,z⟩
     ·rw[q]at z;cases z
     ·have z2:=un.frzs b ob _ z;obtain⟨W,_⟩:=hok b _ z;obtain⟨e2,_⟩:=D b _ z2;rw[e]at W;cases W;exact e2
 cases hk:K.lookup a with
 |some o=>
  -- the script is one of the module's own objects
  have e:=Q a o hk;rw[ha]at e;cases e;refine j (λ_=>Yb) (λ_=>.inl rfl) (.inr ⟨_,vs.toArray,_,hk,rfl,rfl,rfl,by rw[Yz,y];exact hl,by simpa using S⟩) (λb u z=>by have E:(Yb:Option HO)=Ya u:=z;cases E) (λb z=>absurd rfl z) λz=>absurd rfl z
 |none=>
  refine j (λb=>if b=a then Ya (.frz {cls:=.type "list",data:=.seq vs.toArray} (.lst (ns.map V.int)))else Yb) (λb=>?_) (.inl (.inr ⟨{cls:=.type "list",data:=.seq vs.toArray},if_pos rfl⟩)) (λb u z=>?_) (λb z=>?_) λ_=>hk
  ·by_cases g:b=a
   ·exact .inr ⟨_,_,if_pos g⟩
   ·exact .inl (if_neg g)
  ·by_cases g:b=a
   ·have E:=(if_pos g).symm.trans z;cases E;subst g;exact⟨ha,by rw[Yg];exact hl,vs,_,S,ha⟩
   ·have E:=(if_neg g).symm.trans z;cases E
  ·by_cases g:b=a
   ·exact g
   ·exact absurd (if_neg g) z
theorem O7{l:aij}{q:YZ}{c:List Yo}{B:(Yo->Option Yd)->YT->Prop}{z:Y6->YT->Prop}{d:DefRec}{K:Params->Yc}{CX:Y6->LF}{sp:Y6->Sp}(hn:l.most=Ya n)(m:n<=YB)(p:d.params.defaults=[])(C:cQ k ae5)(D:∀(w:Y6) (h:YT),z w h->(K w.params).In h)(F:∀(w:Y6) (mg:Yo->Option Yd) (j:Ye) (h:YT),(K w.params).In h->h.Ns ir mg->mg d.name=Ya (.ref j)->
   ∃fd:YD,(∀(s:Ym) (u:Yd),af3 s fd ⟨[u],[]⟩ [(x,u)])/\
    ∀base:YT,(K w.params).In base->base.Ns ir mg->aF l.prog w (K w.params) mg base (CX w) k j fd [x] (sp w)) (r:∀(w:Y6) (H:Hp) (a:Ye) (ns:List Int),ns.length<=n->TU H->bc (K w.params) H a (ns.map V.int)->sp w [.ref a] H (λv _=>v=.bl true) λ_ _ _=>False) (t:∀(w:Y6) (H:Hp) (s:Ym) (e:Yd) (s':Ym),CX w [] H s (λ_ _ _=>False) e s'->False):
  ai1 q c B z l.row.toRowW d [] (λf vs=>PySem.call f vs):=by
 refine Att.attach_call hn p λw s₀ E mg Q j o R S I a vs ns G Y ho hd J y i g b L=>?_;have A:=D w _ Y;obtain⟨fd,M,N⟩:=F w mg j _ A G.T.g y;exact L9 A G.T.g G.T.b G.T.builtins G.T.nolimit L i g (xy b m) C N M (λH O P=>r w H a ns b O P) λH e s'=>t w H E e s'
noncomputable def bw(s:Y4)(j:Nat):Y4:=match s with
 | .ClassDef _ _ _ Zr _ _ _ _ _ _ _=>Zr.getD j (.Pass ⟨0,0,0,0⟩)
 |_=>.Pass ⟨0,0,0,0⟩
noncomputable def gJ(s:Y4):Arguments:=match s with
 | .FunctionDef _ a _ _ _ _ _ _ _ _=>a
 |_=>{posonlyargs:=[],args:=[],vararg:=Yb,kwonlyargs:=[],kw_defaults:=[],kwarg:=Yb,defaults:=[]}
noncomputable def dO(s:Y4):List Y4:=match s with
 | .FunctionDef _ _ b _ _ _ _ _ _ _=>b
 |_=>[]
noncomputable def ao(s:Y4):aci:=match s with
 | .FunctionDef _ _ _ _ _ _ sc _ _ _=>sc
 |_=>{kind:=.function,names:=[],isGenerator:=false,isCoroutine:=false}
abbrev bp:LF:=λ_ _ _ _ _ _=>False
abbrev E0:XK:=λ_ _ _=>False
theorem nQ:sy bp X E0:=λ_ _ _ _ _ _ _ h=>h.elim
structure bG(K:Yc)(x Zb:Yo)(st:Y4)(f:Ye)(fd:YD):Prop where
 ex:∃(oc:Yd) (od:Option Ye) (kV doc pm:Yd) (an:Option Ye) (cdv ct:Yd) (osl:Array (Option Yd)),
  fd=aa4 x Zb (gJ st) (dO st) (ao st) .none kV doc pm an cdv ct/\K.lookup f=Ya ⟨oc,od,.func fd,osl⟩/\adk K cdv Zb=true
 kp:abK K (.ref f)=true
section
variable{K:Yc}{base:YT}
theorem bG.ok{st:Y4}{N:List Yo}(F:bG K x Zb st f fd)(S:aE N ps (ao st))(len:∀vs H Q E,sp vs H Q E->vs.length=ps.length)(b:∀(a:Yd) (A:xw) (outer:List acw) (s:Ym) (H:Hp) (vs:List V) (Q:VK) (E:XK),cQ k (A.deeper (acn Zb (ao st) s.heap.objs.size f a))->sp vs H Q E->
   ∃t,CM (oR bp P w K mg base N Zb (ao st) f a A outer s H E).nox (dO st) t/\t {nx:=λ_ H'=>Q .non H',rt:=Q} (start N vs) H):aF P w K mg base bp (k+ 1) f fd ps sp:=by
 obtain⟨j,od,kV,e,l,m,a,ct,g,rfl,lk,c⟩:=F.ex;refine OB lk c S len λA outer s H vs Q E i d=>?_;obtain⟨t,h,q⟩:=b a A outer s H vs Q E i d;exact⟨t,h.nox,q⟩
theorem bG.binds{st:Y4}(F:bG K x Zb st f fd)(h:∀(kV a c:Yd) (d:Option Ye) (b ct:Yd) (us:List Yd),us.length=ps.length->agu (aa4 x Zb (gJ st) (dO st) (ao st) .none kV a c d b ct) ⟨us,[]⟩=pure (ps.zip us)):Binds K fd ps []:=by
 obtain⟨i,od,kV,a,c,d,b,ct,e,rfl,lk,g⟩:=F.ex;exact .all (h kV a c d b ct)
theorem NK{st:Y4}{h:Yd}{od e:Option Ye}{d:Array (Option Yd)}{kV b g a ct:Yd}(l:K.lookup f=Ya ⟨h,od,.func (aa4 x Zb (gJ st) (dO st) (ao st) .none kV b g e a ct),d⟩)(c:adk K a Zb=true)(k:abK K (.ref f)=true):bG K x Zb st f (aa4 x Zb (gJ st) (dO st) (ao st) .none kV b g e a ct):=⟨⟨h,od,kV,b,g,e,a,ct,d,rfl,l,c⟩,k⟩
end
theorem HW{A:xw}(a:cQ k A):A.units+ 1<aap:=aco (ac1 (by decide:1<=64) _) a.units
theorem aG(h:n<=1000):n<YB:=aco h (by decide)
section
theorem pv(i:Nat){pos:abE}(b:X.N[i]?=Ya x:=by rfl)(c:XC X.env.scope x:=by first|exact Or.inl rfl|exact Or.inr (Or.inl rfl)|exact Or.inr (Or.inr rfl))(hd:(x==("__debug__":Yo))=false:=by decide)(a:(x==("__classdict__":Yo))=false:=by decide):PE X (.Name x pos) (Jv i):=SV b c hd a
end
theorem WS(h:B):if false=true then A else B:=by
 rw[if_neg YX];exact h
theorem Uo(h:A):if true=true then A else B:=by
 rw[if_pos rfl];exact h
theorem dh{c:Prop}[Decidable c](h1:c->A)(h2:¬ c->B):if c then A else B:=by
 by_cases h:c
 ·rw[if_pos h];exact h1 h
 ·rw[if_neg h];exact h2 h
def aH(H a:Hp):Prop:=∀b o,H b=Ya o->a b=Ya o
theorem aH.refl(H:Hp):aH H H:=λ_ _ h=>h
theorem aH.trans{d e:Hp}(a:aH H d)(b:aH d e):aH H e:=λc o h=>b c o (a c o h)
theorem aH.free(e:aH H H'){l:Ye}(h:H' l=ajw):H l=ajw:=by
 cases q:H l with
 |none=>rfl
 |some o=>
  rw[e l o q]at h;cases h
theorem aH.seq{K:Yc}{xs:List V}(e:aH H H')(h:bc K H a xs):bc K H' a xs:=by
 rcases h with(h|⟨o,h⟩)|h
 ·exact .inl (.inl (e _ _ h))
 ·exact .inl (.inr ⟨o,e _ _ h⟩)
 ·exact .inr h
section
variable{κ:Type}[DecidableEq κ]
end
end L2
namespace GX
open PySem
variable{env:acw}{sc:aci}{n:Yo}{c:Ye}
theorem zH{α β:Type}{f:α->β->aeI (ForInStep β)}(g:α->β->β):∀(l:List α) (b:β),(∀x∈l,∀b,f x b=pure (.yield (g x b)))->
  forIn l b f=pure (l.foldl (λb x=>g x b) b)
 |[],b,_=>rfl
 |x::l,b,h=>by
  simp only[List.forIn_cons,h x (.head _),pure_bind];exact zH g l (g x b) λy a=>h y (Yr _ a)
noncomputable def su(env:acw)(x:Yo×adH)(cs:List (Yo×Ye)):List (Yo×Ye):=if x.2==.free then(x.1,(env.cells.lookup x.1).getD 0)::cs else cs
theorem FW(h:∀y∈sc.names,y.2=.free->∃c,env.cells.lookup y.1=Ya c):
  aik sc env=pure (sc.names.foldl (λb x=>su env x b) []):=by
 simp only[aik];rw[zH (su env) sc.names [] (λx f b=>by
  obtain⟨n,k⟩:=x;unfold su;by_cases a:k=.free
  ·subst a;obtain⟨c,d⟩:=h _ f rfl;have e:cellOf env n=pure c:=by unfold cellOf;rw[d]
   simp[e,d]
  ·have g:(k==aaj)=false:=by simpa using a
   simp only[g,nh,if_false])]
 rfl
theorem yA{env:acw}:∀(l:List (Yo×adH)) (a:List (Yo×Ye)),(∀y∈l,y.2=.free->∃c,env.cells.lookup y.1=Ya c)->(∀p∈a,env.cells.lookup p.1=Ya p.2)->
  ∀p∈l.foldl (λb x=>su env x b) a,env.cells.lookup p.1=Ya p.2
 |[],a,_,ha=>ha
 |x::l,a,h,ha=>by
  refine yA l _ (λy e=>h y (Yr _ e)) λp hp=>?_;unfold su at hp;dsimp only at hp;by_cases d:x.2=.free
  ·obtain⟨c,f⟩:=h x Ys d;rw[d]at hp;simp only[beq_self_eq_true,if_true]at hp;rcases Yn.mp hp with rfl|hp
   ·rw[f];rfl
   ·exact ha p hp
  ·have g:(x.2==aaj)=false:=by simpa using d
   simp only[g,nh,if_false]at hp;exact ha p hp
theorem zO{env:acw}{n:Yo}:∀(l:List (Yo×adH)) (a:List (Yo×Ye)),((∃c,(n,c)∈a)∨(n,aaj)∈l)->∃c,(n,c)∈l.foldl (λb x=>su env x b) a
 |[],a,h=>by
  rcases h with h|h
  ·exact h
  ·cases h
 |x::l,a,h=>by
  refine zO l _ ?_;unfold su;dsimp only;rcases h with⟨c,h⟩|h
  ·refine .inl ⟨c,?_⟩;split
   ·exact Yr _ h
   ·exact h
  ·rcases Yn.mp h with h|h
   ·refine .inl ?_;subst h;exact⟨_,by rw[if_pos (by rfl)];exact .head _⟩
   ·exact .inr h
theorem rf{n:Yo}{c:Ye}:∀{l:List (Yo×Ye)},(n,c)∈l->∃a,l.lookup n=Ya a
 |[],h=>by cases h
 |(m,d)::l,h=>by
  rw[afc];cases e:n==m with
  |true=>exact⟨d,rfl⟩
  |false=>
   rcases Yn.mp h with h|h
   ·cases h;simp at e
   ·exact rf h
theorem Ny{n:Yo}{c:Ye}:∀{l:List (Yo×Ye)},l.lookup n=Ya c->(n,c)∈l
 |[],h=>by cases h
 |(m,d)::l,h=>by
  rw[afc]at h;cases e:n==m with
  |true=>
   rw[e]at h;have a:n=m:=by simpa using e
   have b:d=c:=YK h;rw[a,b];exact Ys
  |false=>
   rw[e]at h;exact Yr _ (Ny h)
theorem yN(h:∀y∈sc.names,y.2=.free->∃c,env.cells.lookup y.1=Ya c):
  ∃cl,aik sc env=pure cl/\(∀x c,cl.lookup x=Ya c->env.cells.lookup x=Ya c)/\(∀n,(n,aaj)∈sc.names->∃c,cl.lookup n=Ya c):=by
 refine⟨_,FW h,λx c e=>?_,λn hn=>?_⟩
 ·exact yA sc.names [] h (λp hp=>by cases hp) (x,c) (Ny e)
 ·obtain⟨c,a⟩:=zO (env:=env) sc.names [] (.inr hn);exact rf a
theorem pK{x:Yo}{a:List (Yo×adH)}:
  (a.map fun(n,k)=>if(k==aaj&&env.scope.kind==.function&&env.kindOf n==Ya .cell)then(n,abl)else(n,k)).lookup x
  =(a.lookup x).map λk=>if(k==aaj&&env.scope.kind==.function&&env.kindOf x==Ya .cell)then abl else k:=by
 induction a with
 |nil=>rfl
 |cons p r ih=>
  obtain⟨n,k⟩:=p;rw[YF];by_cases e:x=n
  ·subst e;dsimp only;split<;>simp_all
  ·have b:(x==n)=false:=by simpa using e
   dsimp only;split<;>simp only[afc,b]<;>exact ih
noncomputable def Cd(d a:cT)(e:List cT)(it b:Yd)(env:acw):aeI Bool:=do
 match←aaL it with
 |none=>pure false
 |some v=>
  adV a it v
  ae7 a env v
  let ok←forIn e true λc r=>if r=true then do let ok←aib c env (pk c env);pure (adZ ok)else pure (adZ r)
  if ok=true then do
   let x←pk d env;let _←call (.builtin "list.append") [b,x]
   pure true
  else pure true
theorem Rm(d a iter:cT)(e:List cT)(b:aci)(pos:abE)(it c:Yd)(env:acw):
  compTurn (.ListComp d [⟨a,iter,e,0⟩] b pos) 0 it c env=(do
   adN iter.pos
   let more←Cd d a e it c env
   if more=true then again (.compLoop (.ListComp d [⟨a,iter,e,0⟩] b pos) 0 it c env)else pure (.done .next)):=by
 rw[compTurn_list,Cd];simp only[bind_assoc];congr 1;funext _;congr 1;funext r;cases r with
 |none=>simp
 |some v=>
  simp only[bind_assoc];congr 1;funext _;congr 1;funext _;congr 1;funext ok;cases ok<;>simp
theorem El{prog:YZ}{w:Y6}{A:xw}{R:ack->Ym->Prop}{s:Ym}{d a iter:cT}{e:List cT}{b:aci}{pos:abE}{it c:Yd}(I:Nat->Ym->Prop)(turn:∀n s,I n s->Yq (Yt prog w) A (Cd d a e it c env) (λmore s'=>if more=true then∃m,m<n/\I m s' else R (.ok .next) s') (λ_ _=>False) s)(n:Nat)(h:I n s):
  Rk (Yt prog w) A (.compLoop (.ListComp d [⟨a,iter,e,0⟩] b pos) 0 it c env) R s:=by
 apply codeAny_loop rfl I _ n h;intro n s f;apply wpAny_noted;rw[Rm];change Yq _ A _ _ _ _;apply Yf;apply adA;apply Yf;refine xi (turn n s f) (λmore s' q=>?_) λ_ _ z=>z.elim;cases more
 ·exact Yp q
 ·exact Yp ⟨rfl,q⟩
end GX
namespace GX
open PySem PySem.Spec PyProof.Rows
variable{A:xw}{Zi v:Yd}{Q E:Yd->Ym->Prop}{s:Ym}{B:aaa}{R:ack->Ym->Prop}{nm:String}{Zo:List (Yo×Yd)}{ko d:Option Yd}
noncomputable def kept:Option (Yd×Yd)->Array Yd
 |none=>#[]
 |some (x,k)=>#[x,k]
noncomputable abbrev yT(a:Array Yd)(c:Nat):uc:={cls:=.type "list",dict:=Yb,data:=.seq a c,slots:=#[]}
noncomputable abbrev put(S:Ye)(a:Array Yd)(s:Ym):Ym:={s with heap:=s.heap.update S (aaJ λ_=>a)}
def rG(prog:YZ)(w:Y6)(A:xw)(a v:Yd)(Q:Yd->Ym->Prop)(s:Ym):Prop:=
 match a with
 | .none=>Q v s
 |f=>Yq (Yt prog w) A.in1 (call f [v]) Q (λ_ _=>False) s
def Ik(prog:YZ)(w:Y6)(op:ah9)(g:String)(I S:Ye)(e:Yd)(f:List (Yo×Yd))(b:Option (Yd×Yd))(A:xw)(R:ack->Ym->Prop):Option Yd->Ym->Prop
 |none,s=>(∃c,s.heap.get? S=Ya (yT (kept b) c))/\match b with
  |some (x,_)=>R (.ok (.ret x)) (put S #[] s)
  |none=>∃n d r,f=(n,d)::r/\R (.ok (.ret d)) s
 |some v,s=>rG prog w A e v (λk s=>(∃c,s.heap.get? S=Ya (yT (kept b) c))/\match b with
  |none=>Rk (Yt prog w) A (.builtin g ⟨[.ref I,e,.ref S],f⟩) R (put S #[v,k] s)
  |some (_,k')=>Yq (Yt prog w) A.in1 (afP op k k') (λa s=>∃y c,a=.bool y/\s.heap.get? S=Ya (yT (kept b) c)/\Rk (Yt prog w) A (.builtin g ⟨[.ref I,e,.ref S],f⟩) R (if y then put S #[v,k] s else s)) (λ_ _=>False) s) s
abbrev Turn(prog:YZ)(w:Y6)(op:ah9)(e:String)(B:aaa):Prop:=∀(I S:Ye) (a:Yd) (d:List (Yo×Yd)) (b:Option (Yd×Yd)) (c:Nat),
 aiF prog w (B ⟨[.ref I,a,.ref S],d⟩) λA R s=>s.heap.get? S=Ya (yT (kept b) c)/\Yq (Yt prog w) A.in1 (aaL (.ref I)) (Ik prog w op e I S a d b A R) (λ_ _=>False) s
section
variable{prog:YZ}{w:Y6}
theorem two{x k:Yd}:(kept (Ya (x,k))).size<=YB:=by show 2<=YB;decide +kernel
theorem key_of{P:aea->Ym->Prop}{f:Yd->aeI aea}(r:Yd->aeI Yd)(h:rG prog w A Zi v Q s)(m:∀k s,Q k s->Yq (Yt prog w) A.in1 (f k) P E s):
  Yq (Yt prog w) A.in1 (match Zi with| .none=>pure v >>= f|_=>tryCatch (acF [v] (call Zi [v])) r >>= f) P E s:=by
 unfold rG at h;split at h
 ·exact Yf (Yp (m _ _ h))
 ·exact Yf (aej (aau (xi h m λ_ _ z=>z.elim)))
theorem DX:Turn prog w .Lt "min.loop" aaa.«min.loop»:=by
 intro I S g i b c A R s ⟨e,nx⟩;show Yq _ _ (ag5 (.ref S) >>= _) _ _ s;apply Yf;apply acI e rfl;apply Yf;apply aej;refine xi nx (λr j h=>?_) λ_ _ z=>z.elim;rcases r with _|v<;>rcases b with _|⟨x,m⟩
 ·obtain⟨_,n,d,l,rfl,q⟩:=h
  wp_walk
  exact q
 ·obtain⟨⟨c1,h1⟩,q⟩:=h;apply Yf;refine ac4 h1 rfl ?_ two
  wp_walk
  exact q
 ·unfold Ik at h;refine key_of _ h λk f h=>?_;obtain⟨⟨o,h2⟩,q⟩:=h;apply Yf;apply ac4 h2 rfl;exact Yp ⟨abF F.plain_min_loop _,q⟩
 ·unfold Ik at h;refine key_of _ h λk f h=>?_;obtain⟨_,q⟩:=h;apply Yf;apply aej;apply aau;apply Yf;refine xi q (λa p h=>?_) λ_ _ z=>z.elim;obtain⟨y,t,rfl,h3,q⟩:=h
  wp_walk
  cases y
  ·wp_walk
   exact⟨abF F.plain_min_loop _,q⟩
  ·refine aiG rfl (Yf (ac4 h3 rfl ?_ two))
   wp_walk
   exact⟨abF F.plain_min_loop _,q⟩
theorem enter{id:String}{a:Args}{Sp:ajK}(b:acq aep id=Ya B)(hp:af8 id=true)(m:aiF prog w (B a) Sp)(h:Sp A R s):
  Rk (Yt prog w) A (.builtin id a) R s:=afE b (by rw[Around.under_plainId hp];exact m A R s h)
def Hz(bt:Nat->Nat->Bool)(n i:Nat):Prop:=∀j,j<n->bt j i=false/\(j<i->bt i j=true)
structure Rj(prog:YZ)(w:Y6)(A:xw)(Zi:Yd)(op:ah9)(l I S:Ye)(vs:List Yd)(bt:Nat->Nat->Bool)(G:List (Nat×Yd)->Ym->Prop):Prop where
 irr:∀i,bt i i=false
 asy:∀i j,bt i j=true->bt j i=false
 cov:∀a b c,bt a b=true->bt c b=false->bt a c=true
 tail:∀p q L s,G (p::q::L) s->G (q::L) s
 head:∀p L s,G (p::L) s->G [p] s
 calm:∀x L s h tk,x=I∨x=S->G L s->(∀b o,b≠x->s.heap.get? b=Ya o->h.get? b=Ya o)->G L {s with heap:=h,toks:=tk}
 list:∀L s,G L s->s.heap.IsList l vs.toArray
 keys:∀L s j v a c m,G L s->vs[j]?=Ya v->s.heap.get? S=Ya (yT a c)->s.heap.IsListIter I l m->rG prog w A Zi v (λk s=>G ((j,k)::L) s/\s.heap.get? S=Ya (yT a c)/\s.heap.IsListIter I l m) s
 cmp:∀i j k k' s,G [(j,k),(i,k')] s->Yq (Yt prog w) A.in1 (afP op k k') (λa s'=>a=.bool (bt j i)/\s'=s) (λ_ _=>False) s
theorem rG.imp{a:Yd->Ym->Prop}(h:rG prog w A Zi v Q s)(m:∀k s,Q k s->a k s):rG prog w A Zi v a s:=by
 unfold rG at h⊢;split at h
 ·exact m _ _ h
 ·exact xi h m λ_ _ z=>z
def V1(bt:Nat->Nat->Bool)(vs:List Yd)(j:Nat):Option (Nat×Yd×Yd)->Prop
 |none=>j=0
 |some (i,x,_)=>i<j/\vs[i]?=Ya x/\Hz bt j i
noncomputable def TF:Option (Nat×Yd×Yd)->List (Nat×Yd)
 |none=>[]
 |some (i,_,k)=>[(i,k)]
variable{op:ah9}{lp:String}{l I S:Ye}{vs:List Yd}{bt:Nat->Nat->Bool}{G:List (Nat×Yd)->Ym->Prop}{kw:List (Yo×Yd)}
theorem Rj.put(M:Rj prog w A Zi op l I S vs bt G){L:List (Nat×Yd)}{a b:Array Yd}{c m:Nat}(d:S≠I)(g:G L s)(f:s.heap.get? S=Ya (yT a c))(h:s.heap.IsListIter I l m):
  G L (put S b s)/\(∃c,(put S b s).heap.get? S=Ya (yT b c))/\(put S b s).heap.IsListIter I l m:=
 ⟨M.calm S L s _ s.toks (.inr rfl) g λx o n e=>(Gr _ _ (Ne.symm n)).trans e,⟨_,aaz _ f rfl⟩,h.at λo e=>(Gr _ _ d).trans e⟩
theorem Ku(T:Turn prog w op lp B)(J:acq aep lp=Ya B)(hp:af8 lp=true)(O:A.handled=Yb)(M:Rj prog w A Zi op l I S vs bt G)(P:l≠I)(C:S≠I)
  (Q:vs=[]->∃n d r,kw=(n,d)::r/\∀s,G [] s->R (.ok (.ret d)) s) (U:∀i v k s,vs[i]?=Ya v->Hz bt vs.length i->G [(i,k)] s->R (.ok (.ret v)) s):
  ∀(r j:Nat) (b:Option (Nat×Yd×Yd)) (s:Ym) (c:Nat),vs.length=j+ r->V1 bt vs j b->G (TF b) s->s.heap.get? S=Ya (yT (kept (b.map (·.2))) c)->s.heap.IsListIter I l j->
   Rk (Yt prog w) A (.builtin lp ⟨[.ref I,Zi,.ref S],kw⟩) R s:=by
 have W:=adl (prog:=prog) (w:=w) (A:=A.in1) O I l P vs.toArray;intro r
 induction r with
 |zero=>
  intro j b s c V m g p D;obtain rfl:j=vs.toArray.size:=by rw[Yz];omega
  refine enter J hp (T I S Zi kw _ c) ⟨p,W.done _ _ _ ⟨D,M.list _ _ g⟩ λh tk k=>?_⟩;have t:=M.calm I _ _ h tk (.inl rfl) g λx o n e=>k x o (by simpa using n) e;refine⟨⟨c,k S _ (by simpa using C) p⟩,?_⟩;rcases b with _|⟨i,x,y⟩
  ·obtain⟨n,d,l,e,q⟩:=Q (aaH (by simpa using(show vs.toArray.size=0 from m)));exact⟨n,d,l,e,q _ t⟩
  ·exact U i x y _ m.2.1 (by simpa using m.2.2) (M.calm S _ _ _ tk (.inr rfl) t λz o n e=>(Gr _ _ (Ne.symm n)).trans e)
 |succ r ih=>
  intro j b s c V m g p D;refine enter J hp (T I S Zi kw _ c) ⟨p,W.item j _ _ _ (by rw[Yz];omega) ⟨D,M.list _ _ g⟩ λv h tk u st k=>?_⟩;have u:vs[j]?=Ya v:=by simpa using u
  have t:=M.calm I _ _ h tk (.inl rfl) g λx o n e=>k x o (by simpa using n) e;unfold Ik;refine rG.imp (M.keys _ _ j v _ _ _ t u (k S _ (by simpa using C) p) st.1) λy K ⟨E,h2,L⟩=>⟨⟨c,h2⟩,?_⟩;have more:(∀i,i<j->bt j i=true)->Rk (Yt prog w) A (.builtin lp ⟨[.ref I,Zi,.ref S],kw⟩) R (put S #[v,y] K):=λup=>by
   obtain⟨X,⟨Y,h3⟩,Z⟩:=M.put (b:=#[v,y]) C E h2 L;refine ih (j+ 1) (Ya (j,v,y)) _ Y (by omega) ⟨aa2 _,u,λi F=>?_⟩ (M.head _ _ _ X) h3 Z;rcases afd.mp F with z|rfl
   ·exact⟨M.asy _ _ (up i z),λ_=>up i z⟩
   ·exact⟨M.irr _,λz=>absurd z (Y8 _)⟩
  rcases b with _|⟨i,x,z⟩
  ·exact more λi F=>absurd (show j=0 from m) (by omega)
  ·obtain⟨F,hx,ft⟩:=m;refine xi (M.cmp i j y z K E) (λa s3 ⟨ea,N⟩=>⟨_,c,ea,N▸h2,?_⟩) λ_ _ z=>z;subst N;cases e:bt j i with
   |true=>exact more λH f=>M.cov _ _ _ e (ft H f).1
   |false=>
    refine ih (j+ 1) (Ya (i,x,z)) _ c (by omega) ⟨by omega,hx,λH f=>?_⟩ (M.tail _ _ _ _ E) h2 L;rcases afd.mp f with z|rfl
    ·exact ft H z
    ·exact⟨e,λz=>absurd z (by omega)⟩
abbrev Ow(prog:YZ)(w:Y6)(a f:String):Prop:=∀(A:xw) (s:Ym) (Q E:Yd->Ym->Prop) (b:List (Yo×Yd)) (e d:Option Yd) (l:Ye) (c:Array Yd),
 acO a ["key","default"] 0 ⟨[],b⟩=pure [e,d]->ab4 a ⟨[.ref l],b⟩->s.heap.IsList l c->
 Rk (Yt prog w) A (.builtin f ⟨[.ref s.heap.objs.size,e.getD .none,.ref (s.heap.objs.size+ 1)],d.toList.map λd=>("default",d)⟩) (ai9 Q E)
  {s with heap:=(s.heap.push {cls:=.type "list_iterator",data:=.fields #[.ref l,.int 0 0]}).push (yT #[] 0)}->Yq (Yt prog w) A (call (.builtin a) [.ref l] b) Q E s
theorem AS:Ow prog w "min" "min.loop":=by
 intro A s Q E c e d l a b ha hl h;refine kmb_tree F.kind_min F.plain_min F.entry_min ha ?_
 wp_walk using ahC b,aaY hl
 rw[aaU];exact⟨abF F.plain_min_loop _,h⟩
theorem An(O:Ow prog w nm lp)(T:Turn prog w op lp B)(a:acq aep lp=Ya B)(hp:af8 lp=true)(c:A.handled=Yb)(f:acO nm ["key","default"] 0 ⟨[],Zo⟩=pure [ko,d])(ha:ab4 nm ⟨[.ref l],Zo⟩)(hl:s.heap.IsList l vs.toArray)(M:Rj prog w A (ko.getD .none) op l s.heap.objs.size (s.heap.objs.size+ 1) vs bt G)(g:∀h,(∀b o,s.heap.get? b=Ya o->h.get? b=Ya o)->G [] {s with heap:=h})(j:vs=[]->∃x,d=Ya x/\∀s,G [] s->Q x s)(m:∀i v k s,vs[i]?=Ya v->Hz bt vs.length i->G [(i,k)] s->Q v s):Yq (Yt prog w) A (call (.builtin nm) [.ref l] Zo) Q E s:=by
 obtain⟨o,ho,_⟩:=id hl;refine O A s Q E Zo ko d l _ f ha hl (Ku T a hp c M (YL (Yw ho)) (Nat.succ_ne_self _) (λe=>?_) m vs.length 0 Yb _ 0 (ad0 _).symm rfl (g _ λb o e=>?_) ?_ ?_)
 ·obtain⟨x,rfl,q⟩:=j e;exact⟨_,x,[],rfl,q⟩
 ·exact Yh _ (Yh _ e)
 ·exact ahs (aaU ..).symm rfl
 ·exact⟨_,Yh _ (Yv _ rfl),rfl,rfl⟩
abbrev qZ(h h':YT):Prop:=∀b o,h.get? b=Ya o->h'.get? b=Ya o
theorem GO(O:Ow prog w nm lp)(T:Turn prog w op lp B)(y:acq aep lp=Ya B)(hp:af8 lp=true)(z:A.handled=Yb)(C:acO nm ["key","default"] 0 ⟨[],Zo⟩=pure [ko,d])(ha:ab4 nm ⟨[.ref l],Zo⟩)(hl:s.heap.IsList l vs.toArray)(bt:Nat->Nat->Bool)(irr:∀i,bt i i=false)(asy:∀i j,bt i j=true->bt j i=false)(cov:∀a b c,bt a b=true->bt c b=false->bt a c=true)(KK:Nat->Yd->Prop)(keys:∀j v h tk,vs[j]?=Ya v->qZ s.heap h->rG prog w A (ko.getD .none) v (λk s'=>KK j k/\∃tk,s'={s with heap:=h,toks:=tk}) {s with heap:=h,toks:=tk})(cmp:∀i j k n h tk,KK j k->KK i n->qZ s.heap h->∀Q:Yd->Ym->Prop,Q (.bool (bt j i)) {s with heap:=h,toks:=tk}->Yq (Yt prog w) A.in1 (afP op k n) Q (λ_ _=>False) {s with heap:=h,toks:=tk})(D:vs=[]->∃x,d=Ya x/\∀h tk,qZ s.heap h->Q x {s with heap:=h,toks:=tk})(F:∀i v h tk,vs[i]?=Ya v->Hz bt vs.length i->qZ s.heap h->Q v {s with heap:=h,toks:=tk}):
  Yq (Yt prog w) A (call (.builtin nm) [.ref l] Zo) Q E s:=by
 refine An (bt:=bt) (G:=λL s'=>(∃h tk,s'={s with heap:=h,toks:=tk}/\qZ s.heap h)/\∀p∈L,KK p.1 p.2) O T y hp z C ha hl ⟨irr,asy,cov,?_,?_,?_,?_,?_,?_⟩ (λh k=>⟨⟨h,s.toks,rfl,k⟩,by simp⟩) (λe=>?_) ?_
 ·exact λp q L s g=>⟨g.1,λq r=>g.2 q (Yr _ r)⟩
 ·exact λp L s g=>⟨g.1,λq r=>g.2 q (Yi.mp r▸Ys)⟩
 ·rintro x L s' h tk t ⟨⟨H,f,rfl,G⟩,q⟩ k;refine⟨⟨h,tk,rfl,λb o e=>k b o ?_ (G b o e)⟩,q⟩;have:=Yw e;rcases t with rfl|rfl
  ·exact YL this
  ·exact YL (aba this)
 ·rintro L s' ⟨⟨H,f,rfl,G⟩,q⟩;exact hl.at λo e=>G _ _ e
 ·rintro L s' j v a c m ⟨⟨h,tk,rfl,G⟩,q⟩ u I J;refine(keys j v h tk u G).imp ?_;rintro k s' ⟨K,f,rfl⟩;refine⟨⟨⟨h,f,rfl,G⟩,λp hp=>?_⟩,I,J⟩;rcases Yn.mp hp with rfl|hp
  ·exact K
  ·exact q p hp
 ·rintro i j k n s' ⟨⟨h,tk,rfl,G⟩,q⟩;exact cmp i j k n h tk (q (j,k) (by simp)) (q (i,n) (by simp)) G _ ⟨rfl,rfl⟩
 ·obtain⟨x,t,q⟩:=D e;exact⟨x,t,λs' ⟨⟨h,tk,e,G⟩,_⟩=>e▸q h tk G⟩
 ·exact λi v k s' u ft ⟨⟨h,tk,e,G⟩,_⟩=>e▸F i v h tk u ft G
end
end GX
namespace GX
open PySem
end GX
namespace GB
variable{n b h:Nat}
theorem Hq(n h:Nat):(n &&& 2^h=0)↔n.testBit h=false:=by
 constructor
 ·intro e;have q:(n &&& 2^h).testBit h=false:=by rw[e];exact afe h
  rw[ail,Nat.testBit_two_pow_self,Bool.and_true]at q;exact q
 ·intro e;apply Nat.eq_of_testBit_eq;intro i;rw[ail,afe,agV];by_cases a:h=i
  ·subst a;rw[e];rfl
  ·rw[decide_eq_false a,aei]
noncomputable def Js(n:Nat):List Nat:=(YR 63).filter λh=>n.testBit h
theorem OA(hn:n<2^b)(a:b<=h):n.testBit h=false:=
 Nat.testBit_lt_two_pow (Y2 hn (agy (by decide) a))
theorem Cb{p:Nat->Bool}{c:Nat}(a:b<=c)(hp:∀h,b<=h->p h=false):(YR c).filter p=(YR b).filter p:=by
 induction c with
 |zero=>
  have:b=0:=by omega
  subst this;rfl
 |succ c ih=>
  by_cases e:b=c+ 1
  ·subst e;rfl
  ·rw[abw,Y3,ih (by omega)];have:[c].filter p=[]:=by
    rw[aak,hp c (by omega)];rfl
   rw[this,sq]
theorem OW(a:b<=63)(hn:n<2^b):(YR b).filter (λh=>n.testBit h)=Js n:=
 (Cb a λ_ c=>OA hn c).symm
theorem En:h∈Js n↔h<63/\n.testBit h=true:=by
 unfold Js;rw[cw,xu]
theorem LB(n:Nat):(Js n).length<=63:=by
 have:=Y0 (λh=>n.testBit h) (YR 63);rw[oh]at this;exact this
theorem kF(n:Nat):(Js n).Pairwise (·<·):=ajL _ acr
noncomputable def hl(n:Int):List Int:=(Js n.toNat).map (fun(h:Nat)=>(h:Int))
theorem SE(n:Int):(hl n).length<=63:=by
 unfold hl;rw[Yg];exact LB _
theorem Nq{n:Int}{a:Int}{r:List Int}(e:hl n=a::r):∀x∈hl n,a<=x:=by
 have s:(hl n).Pairwise (·<·):=by
  unfold hl;rw[abb];exact(kF _).imp λh=>by omega
 rw[e]at s⊢;intro x b;rcases Yn.mp b with rfl|b
 ·exact aaW _
 ·have:=(adb.mp s).1 x b;omega
end GB
namespace GB
noncomputable def G9(l:List Nat):Nat:=l.foldl (λa h=>a ||| 2^h) 0
theorem E7(h:Nat):∀(l:List Nat) (a:Nat),(l.foldl (λa h=>a ||| 2^h) a).testBit h=(a.testBit h||decide (h∈l))
 |[],a=>by simp
 |x::l,a=>by
  rw[abe,E7 h l,Nat.testBit_or,agV,Bool.or_assoc];congr 1;rw[abU];simp only[aim,decide_eq_true_iff,Yn];constructor
  ·rintro(e|e)
   ·exact .inl e.symm
   ·exact .inr e
  ·rintro(e|e)
   ·exact .inl e.symm
   ·exact .inr e
theorem Dw(l:List Nat)(h:Nat):(G9 l).testBit h=decide (h∈l):=by
 unfold G9;rw[E7,afe,aeB]
theorem Qc{l:List Nat}{b:Nat}(h:∀x∈l,x<b):G9 l<2^b:=by
 apply Nat.lt_pow_two_of_testBit;intro i a;rw[Dw];exact decide_eq_false λz=>by have:=h i z;omega
end GB
namespace L2
open PySem PySem.Spec PyProof.Rows
variable{X:Cx}{H:Hp}{h:YT}{C D:Ye}{Zu tg iter e:cT}{Zt es:List cT}{sc:aci}{pos p:abE}{g:TG}{tt:TT}{te:TE}{σ:St}{Qe:Hp->Prop}{wi:TI}{i:Nat}{x:Yo}{Zo:List adO}{t:TA}
noncomputable def WR(N:List Yo)(sc:aci)(x:Yo):Option Nat->Bool
 |none=>true
 |some j=>decide (N[j]?=Ya x)&&decide (sc.names.lookup x=Ya .free)
def Lq(N c:List Yo)(a:List (Option Nat))(b sc:aci):Prop:=
 (∀y∈sc.names,y.2≠.cell)/\(∀y∈sc.names,y.2=.local->sc.names.lookup y.1=Ya .local)/\
 (∀y∈sc.names,y.2=.free->b.names.lookup y.1=Ya .cell∨b.names.lookup y.1=Ya .free)/\
 c.Nodup/\a.length=c.length/\∀p∈c.zip a,WR N sc p.1 p.2=true
noncomputable instance (N N':List Yo) (src:List (Option Nat)) (esc sc:aci):Decidable (Lq N N' src esc sc):=by unfold Lq;infer_instance
noncomputable def Es(a:List (Option Nat))(σ:St):St:=a.map λo=>o.bind λj=>(σ[j]?).bind λv=>v
noncomputable def Cx.blk(X:Cx)(a:List Yo)(sc:aci)(cl:List (Yo×Ye))(C:Ye)(b:Ym)(c:Hp)(fp:List Ye):Cx:=
 {X with N:=a,s₀:=b,H₀:=c,env:=compEnvC sc cl C X.env,outer:=X.stack,ex:=fp,fn:=λ_=>false,pn:=[],xe:=λ_ _=>False}
def WD(X:Cx)(b:List cT)(t:TT):Prop:=
 ∀(a:List (Ye×uc)) (s:Ym) (σ:St) (H:Hp) (Q:Bool->Hp->Prop),aM X a σ H s->t σ H Q->
  Yq (Yt X.prog X.w) X.A (forIn b true λc r=>if r=true then do let ok←aib c X.env (pk c X.env);pure (adZ ok)else pure (adZ r)) (TP X a σ Q) X.xe s
def Sw:TT:=λ_ H Q=>Q true H
theorem eE:WD X [] Sw:=λ_ _ _ H _ I h=>wpAny_tests_nil ⟨H,I,h⟩
theorem d9{c:cT}{t:TT}(h:PT X c t):WD X [c] t:=λa s σ H Q I hw=>wpAny_tests_one (h a s σ H Q I hw)
theorem Un.but{fs ex:List Ye}{f:Hp}{h1 h2:YT}(u:Un fs ex H f h h1)(c:aab C h1 h2)(g:h.get? C=Yb):Un fs ex H f h h2:=
 have ne:∀b o,h.get? b=Ya o->b≠C:=λb o e z=>by rw[z,g]at e;cases e
 ⟨λb o e n d a=>(c.2 b (ne b o e)).trans (u.keep b o e n d a),λb o e n d a=>let ⟨sl,z⟩:=u.slot b o e n d a;⟨sl,(c.2 b (ne b o e)).trans z⟩,u.free,
  λb o e a=>let ⟨o',z⟩:=u.there b o e a;⟨o',(c.2 b (ne b o e)).trans z⟩,u.tups,u.frzs,u.tbls⟩
theorem mE.but{P:YZ}{w:Y6}{h':YT}(x:mE P w H h)(f:aab C h h')(d:H C=Yb):mE P w H h':=λb ob e=>by
 refine(x b ob e).stay (λc v a q=>(f.2 c ?_).trans q) (λ_ q=>q) λ_ _ q=>q;rintro rfl;rcases a with rfl|a
 ·rw[d]at e;cases e
 ·rw[d]at a;cases a
def fj(g:TG)(f:TT)(h:TE)(D:Ye)(N:St->Hp->Prop)(x:V)(σ:St)(H:Hp):Prop:=
 g x σ H λa i=>f a i λb d=>if b=true then h a d λy e=>∃c,e D=Ya (.lst c)/\c.length<YB/\N a (upd e D (.lst (c++[y])))else N a d
def Mz(c:List (Option Nat))(k:TI)(g:TG)(l:TT)(n:TE):TE:=λσ H Q=>k σ H λJ d=>∀D,d D=Yb->∃W:Nat->Nat->St->Hp->Prop,(∃m,W 0 m (Es c σ) (upd d D (.lst [])))/\
 ∀i m e a,W i m e a->(J.stop i a/\Q (.ref D) a)∨(J.go i a/\∃N:St->Hp->Prop,(∀f h,N f h->∃j,j<m/\W (i+ 1) j f h)/\
  ∀x b,J.yld i a x b->fj g l n D N x e b)
theorem AJ{s:List Yo}{B:List (Option Nat)}{cl:List (Yo×Ye)}{Za:List (Ye×uc)}{d:Hp}{a:Ym}{it:Ye}{fp:List Ye}{tn:Nat->YT->Prop}{J:It}{W:Nat->Nat->St->Hp->Prop}{m0:Nat}{RR:Yd->Ye->ack->Ym->Prop}(hc:X.calm=true)(hk:sc.kind=.function)(hB:Lq X.N s B X.env.scope sc)(f:∀x c,cl.lookup x=Ya c->X.env.cells.lookup x=Ya c)(O:∀n,(n,aaj)∈sc.names->∃c,cl.lookup n=Ya c)(hg:∀cl C a d fp,s.Nodup->PG (X.blk s sc cl C a d fp) tg g)(ht:∀cl C a d fp,WD (X.blk s sc cl C a d fp) Zt tt)(he:∀cl C a d fp,PE (X.blk s sc cl C a d fp) Zu te)(l:aM X Za σ d a)(T:Turn X.prog X.w X.K tg J fp it tn)(K:tn 0 a.heap)(f2:∀b∈fp,uw X Za d b)(w0:W 0 m0 (Es B σ) (upd d a.heap.objs.size (.lst [])))(turn:∀i m P t,W i m P t->(J.stop i t/\Qe t)∨(J.go i t/\∃N:St->Hp->Prop,(∀σ2 d,N σ2 d->∃m',m'<m/\W (i+ 1) m' σ2 d)/\
   ∀x ab,J.yld i t x ab->fj g tt te a.heap.objs.size N x P ab)) (fin:∀C s4 S U,a.heap.objs.size<=C->aM (X.blk s sc cl C a d fp) [] S U s4->Qe U->RR (.ref a.heap.objs.size) C (.ok .next) s4):
  Yq (Yt X.prog X.w) X.A (ahh []) (λac s₃=>Yq (Yt X.prog X.w) X.A (newFunctionEnv sc X.env.globals cl [] X.env.qual Yb .none (Ya X.env)) (λQ s₄=>
   Rk (Yt X.prog X.w) X.A (.compStart (.ListComp Zu [⟨tg,iter,Zt,0⟩] sc pos) 0 (.ref it) ac {Q with scope:=relabel sc X.env}) (RR ac Q.locals) s₄) X.xe s₃) X.xe a:=by
 obtain⟨b1,b2,b3,b4,b5,b6⟩:=hB;refine abX (wpAny_newFunctionEnv b1 (by intro y hy;simp at hy) (λh₁ V L=>?_) hk);dsimp only at V L⊢;generalize hP:a.heap.push {cls:=.type "list",dict:=Yb,data:=.seq ([]:List Yd).toArray}=Hl at V L⊢;have hC:Hl.objs.size=a.heap.objs.size+ 1:=by rw[←hP,aaU]
 have ad:a.heap.objs.size≠Hl.objs.size:=by rw[hC];exact YL (aa2 _)
 have F:∀{b:Ye} {o:uc},a.heap.get? b=Ya o->b≠Hl.objs.size:=fun{b o} z=>by
  have:=Yw z;rw[hC];exact YL (aba this)
 have D:∀b o,a.heap.get? b=Ya o->h₁.get? b=Ya o:=λb o z=>L.extBut b o (F z) (Yh _ (hP▸Yh _ z));have am:h₁.get? a.heap.objs.size=Ya {cls:=.type "list",data:=.seq ([]:List Yd).toArray}:=L.extBut _ _ ad (Yh _ (hP▸Yv _ rfl));have fD:d a.heap.objs.size=none:=l.hok.fresh (Yl _);have fC:d Hl.objs.size=none:=l.hok.fresh (by rw[hC];exact aaP _);have ok:(X.blk s sc cl Hl.objs.size a d fp).Ok:=by
  refine⟨l.ok.mod,hk,l.ok.glob,l.ok.blt,?_,λx y c h1 h2=>l.ok.inj x y c (f x c h1) (f y c h2),λx hx=>?_,λx c z=>?_,l.ok.hd,l.ok.frames,.inl rfl,λb h=>⟨?_,λx c z=>(f2 b h).2.2.2.2.1 x c (f x c z)⟩,
   l.bs,xy l.ok.bsz l.sz,λb o z h=>?_,λb h z=>?_,l.stack,l.stkFree⟩
  ·show a.heap.objs.size<=Hl.objs.size;rw[hC];exact aaP _
  ·have E:(sc.names.map fun(n,k)=>if(k==aaj&&X.env.scope.kind==.function&&X.env.kindOf n==Ya .cell)then(n,abl)else(n,k)).lookup x=Ya .cell∨
     (sc.names.map fun(n,k)=>if(k==aaj&&X.env.scope.kind==.function&&X.env.kindOf n==Ya .cell)then(n,abl)else(n,k)).lookup x=Ya .free:=hx
   rw[GX.pK]at E;cases e:sc.names.lookup x with
   |none=>
    rw[e]at E;simp at E
   |some k=>
    rw[e]at E;by_cases hf:k=.free
    ·subst hf;exact O x (aa0 e)
    ·have h:(k==aaj)=false:=by simpa using hf
     have M:((Ya k).map λk=>if(k==aaj&&X.env.scope.kind==.function&&X.env.kindOf x==Ya .cell)then abl else k)=Ya k:=by
      show Ya (if(k==aaj&&X.env.scope.kind==.function&&X.env.kindOf x==Ya .cell)=true then abl else k)=Ya k;rw[h,ab0,ab0];rfl
     rw[M]at E;rcases E with z|z
     ·exact absurd (YK z) (b1 _ (aa0 e))
     ·exact absurd (YK z) hf
  ·cases z
  ·obtain⟨o,z,_⟩:=T.obj 0 _ K b h;exact F z
  ·rcases(f2 b h).2.2.2.1 with f3|f3
   ·exact l.ok.noex b o z f3
   ·have l1:=Yw z;have l2:=l.ok.bsz;exact absurd (Y2 l1 (xy l2 f3)) (Y8 _)
  ·rcases Yn.mp (l.stkSub b z)with z|z
   ·exact(f2 b h).2.1 z
   ·exact(f2 b h).2.2.1 z
 have IY:aM (X.blk s sc cl Hl.objs.size a d fp) [] (Es B σ) (upd d a.heap.objs.size (.lst [])) {a with heap:=h₁,toks:=a.toks+ ([]:List (Yo×Yd)).length}:=by
  refine⟨ok,rfl,l.bare,Un.laid D (Yl _) fD,⟨_,V,λi x v e1 M _=>?_⟩,λx c z=>?_,?_,λx c z=>?_,λp hp=>?_,l.hok.laid D (Yl _) ⟨Y9 _,[],0,.nil,am⟩,?_⟩
  ·have an:s[i]?=Ya x:=e1;unfold Es at M;rw[Yy]at M;cases es:B[i]? with
   |none=>rw[es]at M;cases M
   |some o=>
    rw[es]at M;cases o with
    |none=>cases M
    |some j=>
     have e3:(σ[j]?).bind (λv=>v)=Ya v:=YK M;have e4:σ[j]?=Ya (Ya v):=by
      cases q:σ[j]? with
      |none=>rw[q]at e3;cases e3
      |some w=>rw[q]at e3;exact congrArg Ya e3
     have hz:(x,Ya j)∈s.zip B:=YA (i:=i) (by rw[aeX];exact⟨an,es⟩);have ae:=b6 _ hz;have A:(decide (X.N[j]?=Ya x)&&decide (sc.names.lookup x=Ya .free))=true:=ae;rw[adJ]at A;have c1:X.N[j]?=Ya x:=of_decide_eq_true A.1;have c2:sc.names.lookup x=Ya .free:=of_decide_eq_true A.2;have G:=aa0 c2;have ag:=b3 _ G rfl;obtain⟨m,hn,hl⟩:=l.loc;obtain⟨u,ru,lk⟩:=hl j x v c1 e4 (.inr ag);rcases lk with⟨k1,_⟩|⟨_,c,k2,z⟩
     ·have ap:X.env.scope.names.lookup x=Ya .local:=k1;rcases ag with v|v<;>(rw[ap]at v;cases v)
     ·obtain⟨c',k3⟩:=O x G;have k4:=f x c' k3;rw[k2]at k4;cases k4;refine⟨u,ru,.inr ⟨?_,c,k3,z.keeps D⟩⟩;show(sc.names.map fun(n,k)=>if(k==aaj&&X.env.scope.kind==.function&&X.env.kindOf n==Ya .cell)then(n,abl)else(n,k)).lookup x=Ya .cell∨
       (sc.names.map fun(n,k)=>if(k==aaj&&X.env.scope.kind==.function&&X.env.kindOf n==Ya .cell)then(n,abl)else(n,k)).lookup x=Ya .free
      rw[GX.pK,c2];show Ya (if _ then abl else aaj)=_∨Ya (if _ then abl else aaj)=_;split
      ·exact .inl rfl
      ·exact .inr rfl
  ·obtain⟨v,q⟩:=l.cell x c (f x c z);exact⟨v,q.keeps D⟩
  ·show upd d a.heap.objs.size (.lst []) Hl.objs.size=Yb;rw[ak (Ne.symm ad)];exact fC
  ·obtain⟨v,q⟩:=l.cell x c (f x c z);rw[ak (YL q.lt)];exact l.freeC x c (f x c z)
  ·exact absurd (show p∈([]:List (Ye×uc))from hp) (by simp)
  ·show(B.map _).length=s.length;rw[Yg];exact b5
 have H:∀{t:Hp},(∀b∈fp,t b=Yb)->∀b∈fp,uw (X.blk s sc cl Hl.objs.size a d fp) [] t b:=λhn b h=>
  ⟨hn b h,(ok.exf b h).1,ok.exfs b h,.inl h,(ok.exf b h).2,λp hp=>absurd (show p∈([]:List (Ye×uc))from hp) (by simp)⟩
 have R:Rk (Yt X.prog X.w) X.A (.compLoop (.ListComp Zu [⟨tg,iter,Zt,0⟩] sc pos) 0 (.ref it) (.ref a.heap.objs.size) (compEnvC sc cl Hl.objs.size X.env))
   (RR (.ref a.heap.objs.size) Hl.objs.size) {a with heap:=h₁,toks:=a.toks+ ([]:List (Yo×Yd)).length}:=by
  refine GX.El (λn s'=>∃i P t,aM (X.blk s sc cl Hl.objs.size a d fp) [] P t s'/\tn i s'.heap/\(∀b∈fp,t b=Yb)/\W i n P t) ?_ m0
   ⟨0,_,_,IY,T.keep 0 _ _ K (λb _ o z=>D b o z),λb h=>?_,w0⟩
  ·rintro n s3 ⟨i,S,U,I3,ah,al,w3⟩;rcases turn i n S U w3 with⟨stop,qn⟩|⟨go,N,hN,step⟩
   ·refine Yf (cu (T.done (X.blk s sc cl Hl.objs.size a d fp) rfl rfl rfl hc i [] s3 S U (λ_ _=>False) I3 (H al) ah stop) λr s4 I=>?_);obtain⟨hr,I4⟩:=I;subst hr;exact Yp<|fin _ s4 S U (by rw[hC];exact aaP _) I4 qn
   ·refine Yf (cu (T.item (X.blk s sc cl Hl.objs.size a d fp) rfl rfl rfl hc i [] s3 S U (λ_ _=>False) I3 (H al) ah go) λr s4 I=>?_);obtain⟨u,hr,h4⟩:=I;subst hr;refine Yf (cu h4 λ_ s5 I=>?_);obtain⟨x,H5,I5,r5,y5,Y,aq⟩:=I;have ar:=I5.pinned (H aq) (T.obj _ _ Y);have again:∀{σ7:St} {Z:Hp} {s7:Ym},aM (X.blk s sc cl Hl.objs.size a d fp) ([]++vF fp s5.heap) σ7 Z s7->N σ7 Z->
      ∃m,m<n/\∃i P t,aM (X.blk s sc cl Hl.objs.size a d fp) [] P t s7/\tn i s7.heap/\(∀b∈fp,t b=Yb)/\W i m P t:=fun{σ7 Z s7} I7 n7=>by
     obtain⟨m',hm,w7⟩:=hN σ7 Z n7;refine⟨m',hm,i+ 1,σ7,Z,I7.unpinned,T.keep _ _ _ Y λb h o z=>(I7.pin (b,o) (YH _ (YH _ (hG h z)))).1,λb h=>?_,w7⟩;obtain⟨o,z,_⟩:=T.obj _ _ Y b h;exact(I7.pin (b,o) (YH _ (YH _ (hG h z)))).2.1
    refine Yf (cu (hg cl Hl.objs.size a d fp b4 _ s5 S H5 x u _ ar r5 (step x H5 y5)) λ_ s6 I=>?_);obtain⟨σ6,H6,I6,q6⟩:=I;refine Yf (cu (ht cl Hl.objs.size a d fp _ s6 σ6 H6 _ I6 q6) λok s7 I=>?_);obtain⟨Z,I7,q7⟩:=I;cases ok with
    |true=>
     rw[if_pos rfl]at q7⊢;refine Yf (cu (he cl Hl.objs.size a d fp _ s7 σ6 Z _ I7 q7) λyv s8 I=>?_);obtain⟨y,H8,I8,r8,ys,hD,hz,n8⟩:=I;exact Yf<|cu (qK (X:=X.blk s sc cl Hl.objs.size a d fp) _ s8 σ6 H8 (.ref a.heap.objs.size) [y] (.ref a.heap.objs.size) [yv] (λ_ t=>N σ6 t) I8 rfl (.cons r8 .nil) ⟨_,ys,y,rfl,rfl,hD,hz,n8⟩)
      λ_ s9 ⟨_,H9,I9,_,n9⟩=>Yp (again I9 n9)
    |false=>
     rw[if_neg YX]at q7⊢;exact Yp (again I7 q7)
  ·obtain⟨o,z,_⟩:=T.obj 0 _ K b h;rw[ak (YL (Yw z))];exact(f2 b h).1
 exact codeAny_compStart_list R (T.self X.A 0 _ _ _ (T.keep 0 _ _ K (λb _ o z=>D b o z)) R)
theorem bM(i:List Yo)(j:List (Option Nat))(z:X.calm=true)(hk:sc.kind=.function)(A:decide (Lq X.N i j X.env.scope sc)=true)(D:PI X tg iter wi)(E:∀cl C a d fp,i.Nodup->PG (X.blk i sc cl C a d fp) tg g)(F:∀cl C a d fp,WD (X.blk i sc cl C a d fp) Zt tt)(G:∀cl C a d fp,PE (X.blk i sc cl C a d fp) Zu te)(hs:∀x,aeK iter X.env x=pure x:=by intro _;rfl):
  PE X (.ListComp Zu [⟨tg,iter,Zt,0⟩] sc pos) (Mz j wi g tt te):=by
 intro u s σ H Q I h;have B:=of_decide_eq_true A;obtain⟨cl,c,k,l⟩:=GX.yN (env:=X.env) (sc:=sc) λy K L=>I.ok.has y.1 (B.2.2.1 y K L);rw[eval_ListComp];refine aff (use:=Yb) rfl hs c hk B.2.1 (cu (D u s σ H _ I h) λv Y h1=>cu h1 λM a h2=>?_);obtain⟨Z,fp,tn,J,d,e,p,T,r,n,q⟩:=h2;subst e;obtain⟨W,⟨m0,N⟩,turn⟩:=q a.heap.objs.size (p.hok.fresh (Yl _));refine AJ (RR:=λt C=>compPost (Yt X.prog X.w) X.A X.xe Yb (EP X u σ Q) t C) (Qe:=λO=>Q (.ref a.heap.objs.size) O) z hk B k l E F G p T r n N turn λC P σ3 R S f U=>?_;obtain⟨m,hn,_⟩:=f.loc;refine⟨m,hn,λV w=>⟨.ref a.heap.objs.size,R,?_,rfl,U⟩⟩;exact p.call' (s':={P with heap:=V}) (ch:=fp) f.os (f.base.but w (ags S)) (f.hok.but w f.free) f.bare λb o=>⟨(n b o).2.2.2.1,(n b o).2.1,(n b o).2.2.2.2.1,(n b o).2.2.2.2.2⟩
theorem Ir{l f:abE}{y:Yo}(u:List Yo)(w:List (Option Nat))(Z:X.N.Nodup)(K:X.N[i]?=Ya y)(hl:Vu X.env.scope y)(hc:X.calm=true)(hk:sc.kind=.function)(hB:decide (Lq X.N u w X.env.scope sc)=true)(hi:PI X tg iter wi)(hg:∀cl C d n fp,u.Nodup->PG (X.blk u sc cl C d n fp) tg g)(ht:∀cl C d n fp,WD (X.blk u sc cl C d n fp) Zt tt)(he:∀cl C d n fp,PE (X.blk u sc cl C d n fp) Zu te)(L:adM (.ListComp Zu [⟨tg,iter,Zt,0⟩] sc pos) (Ya (.Name y l)) f.line X.env=pure true:=by rfl)(hs:∀x,aeK iter X.env x=pure x:=by intro _;rfl)(M:X.fn y=true∨X.env.scope.names.lookup y=Ya .local:=by first|exact .inl rfl|exact .inr rfl):
  PS X (.Assign [.Name y l] (.ListComp Zu [⟨tg,iter,Zt,0⟩] sc pos) f) (Ov (Mz w wi g tt te) (zb i)):=by
 intro G s σ H D I h;have B:=of_decide_eq_true hB;obtain⟨cl,j,A,E⟩:=GX.yN (env:=X.env) (sc:=sc) λy K M=>I.ok.has y.1 (B.2.2.1 y K M);rw[exec_Assign_Name_used _ _ _ _ L];refine Yf (adA (Yf ?_));show Yq _ X.A (do let _←comprehension (.ListComp Zu [⟨tg,iter,Zt,0⟩] sc pos) sc X.env _ (ahh []) false (pk iter X.env) (Ya (ae7 (.Name y l) X.env))) _ _ s;refine Yf (xi (aff (use:=Ya (ae7 (.Name y l) X.env)) (Q:=λ_ s'=>SP X G D .next s') rfl hs j hk B.2.1
  (cu (hi G s σ H _ I h) λv s1 h1=>cu h1 λab d h2=>?_)) (λ_ s' hq=>Yp (Yp hq)) λ_ _ e=>e)
 obtain⟨it,fp,tn,J,n,e,k,T,N,F,q⟩:=h2;subst e;obtain⟨W,⟨m0,w0⟩,turn⟩:=q d.heap.objs.size (k.hok.fresh (Yl _));refine AJ (RR:=λO C=>compPost (Yt X.prog X.w) X.A X.xe (Ya (ae7 (.Name y l) X.env)) (λ_ s'=>SP X G D .next s') O C) (Qe:=λH'=>D.nx (σ.set i (Ya (.ref d.heap.objs.size))) H') hc hk B A E hg ht he k T N F w0 turn
  λC S σ3 U P r qn=>?_
 have IX:aM X G σ U S:=k.call' (ch:=fp) r.os r.base r.hok r.bare λb t=>⟨(F b t).2.2.2.1,(F b t).2.1,(F b t).2.2.2.2.1,(F b t).2.2.2.2.2⟩;have V:∀{b:Ye} {o:uc},d.heap.get? b=Ya o->C≠b:=fun{b o} z=>abu (Y2 (Yw z) P);have Y:C≠X.env.locals:=abu (Y2 k.lt P);have nK:∀x c,X.env.cells.lookup x=Ya c->c≠C:=λx c z=>by
  obtain⟨v,o,ho,_⟩:=k.cell x c z;exact Ne.symm (V ho)
 obtain⟨m,hn,_⟩:=r.loc;show Yq _ X.A (ae7 (.Name y l) X.env (.ref d.heap.objs.size)) _ _ S;refine ahl (AR IX Z K hl (v:=.ref d.heap.objs.size) rfl (λs5 I5 h5=>?_) M);obtain⟨a,sb,ha⟩:=h5;have na:C≠a:=by
  rcases ha with z|z
  ·rw[z];exact Y
  ·exact Ne.symm (nK _ _ z)
 refine⟨m,hn.sameBut sb na,λh' R=>⟨_,U,?_,qn⟩⟩;exact I5.turned (it:=C) (t':=s5.toks) (λb o t z=>(R.2 b t).trans z) r.free Y (.inr (xy k.sz P)) nK λp hp=>Ne.symm (V (k.pin p hp).1)
theorem Bv{N:St->Hp->Prop}{x:V}(h:te (σ.set i (Ya x)) H λy a=>∃ys,a D=Ya (.lst ys)/\ys.length<YB/\N (σ.set i (Ya x)) (upd a D (.lst (ys++[y])))):fj (zb i) Sw te D N x σ H:=by
 show(if true=true then te (σ.set i (Ya x)) H (λy a=>∃ys,a D=Ya (.lst ys)/\ys.length<YB/\N (σ.set i (Ya x)) (upd a D (.lst (ys++[y]))))else N (σ.set i (Ya x)) H);rw[if_pos rfl];exact h
theorem sD{lo:Int}{n:Nat}(c:Nat->St->Hp->Prop)(h0:c 0 σ H)(hs:∀i σ H,i<n->c i σ H->fj g tt te D (c (i+ 1)) (.int (lo+ i)) σ H)(hd:∀σ H,c n σ H->Qe H):
  ∃W:Nat->Nat->St->Hp->Prop,(∃m,W 0 m σ H)/\∀i m f a,W i m f a->((K3 lo n).stop i a/\Qe a)∨((K3 lo n).go i a/\∃N:St->Hp->Prop,(∀h j,N h j->∃k,k<m/\W (i+ 1) k h j)/\
   ∀x d,(K3 lo n).yld i a x d->fj g tt te D N x f d):=by
 refine⟨λi m σ H=>m=n-i/\i<=n/\c i σ H,⟨n,by simp,Y9 _,h0⟩,?_⟩;rintro i m σ H ⟨rfl,o,p⟩;by_cases b:i<n
 ·refine .inr ⟨b,c (i+ 1),λf a l=>⟨n-(i+ 1),by omega,rfl,b,l⟩,λx a y=>?_⟩;obtain⟨e,y⟩:=y;subst e y;exact hs i σ _ b p
 ·have e:i=n:=by omega
  subst e;exact .inl ⟨Yl _,hd σ H p⟩
theorem bD{K:Yc}{a:Ye}{xs:List V}(b:Nat->St->Hp->Prop)(h0:b 0 σ H)(hl:∀i σ H,i<=xs.length->b i σ H->bc K H a xs)(hs:∀i x σ H,xs[i]?=Ya x->b i σ H->fj g tt te D (b (i+ 1)) x σ H)(hd:∀σ H,b xs.length σ H->Qe H):
  ∃W:Nat->Nat->St->Hp->Prop,(∃m,W 0 m σ H)/\∀i m h c,W i m h c->((Lp K a).stop i c/\Qe c)∨((Lp K a).go i c/\∃N:St->Hp->Prop,(∀j k,N j k->∃l,l<m/\W (i+ 1) l j k)/\
   ∀x d,(Lp K a).yld i c x d->fj g tt te D N x h d):=by
 refine⟨λi m σ H=>m=xs.length-i/\i<=xs.length/\b i σ H,⟨xs.length,by simp,Y9 _,h0⟩,?_⟩;rintro i m σ H ⟨rfl,n,p⟩;have q:=hl i σ H n p;by_cases f:i<xs.length
 ·refine .inr ⟨⟨xs,xs[i],q,by simp[f]⟩,b (i+ 1),λh c o=>⟨xs.length-(i+ 1),by omega,rfl,f,o⟩,λx c y=>?_⟩;obtain⟨e,y⟩:=y;subst e;exact hs i x σ _ (y xs q) p
 ·have e:i=xs.length:=by omega
  subst e;exact .inl ⟨⟨xs,q,Yl _⟩,hd σ H p⟩
section
theorem CW:c6 X (.builtin "isinstance") (λxs H Q=>∃(x:V) (t:Yd) (T:String) (b:Bool),xs=[x,.ty T]/\um X.K H x t/\af2 X.K t (.type T)=Ya b/\Q (.bl b) H):=by
 intro f s σ H xs g Q I r h;obtain⟨x,t,T,b,rfl,ty,e,q⟩:=h;obtain⟨u,a,rfl,c,d⟩:=AD r;obtain rfl:a=aaD T:=d;exact J6 I c ty e λtk=>⟨.bl b,H,I.tok tk,rfl,q⟩
theorem JC:Vk X "int.bit_length" (λx vs H Q=>∃i,x=.int i/\vs=[]/\Q (.int (aaI i)) H):=by
 intro c s σ H x d v e Q I a b h;obtain⟨i,rfl,rfl,q⟩:=h;obtain⟨t,rfl⟩:=a;cases b;exact call_int_bit_length ⟨.int (aaI i),H,I.tok _,⟨_,rfl⟩,q⟩
theorem Kc(bs:List Bool):(YR bs.length).all (λi=>bs.getD i false)=bs.all λb=>b:=by
 have e:(YR bs.length).map (λi=>bs.getD i false)=bs:=afg (by simp) λi h1 h2=>by simp[h2]
 conv=>rhs;rw[←e,List.all_map]
 rfl
theorem Nr(k:X.calm=true):c6 X (.builtin "all") (λxs H Q=>∃(p:Ye) (bs:List Bool),xs=[.ref p]/\bc X.K H p (bs.map V.bl)/\Q (.bl (bs.all λb=>b)) H):=by
 intro B s σ H xs C Q I r h;obtain⟨p,bs,rfl,l,q⟩:=h;obtain⟨u,rfl,m⟩:=dW r;cases m;obtain⟨a,d,c,D⟩:=I.list l;have hl:a.toArray.size=bs.length:=by rw[Yz,←d.length,Yg]
 have hp:p<s.heap.objs.size:=let ⟨_,z,_⟩:=c.isList;Yw z;refine call_all_walk (aaY c.isList ?_);refine⟨s.heap.objs.size,[s.heap.objs.size,p],[s.heap.objs.size],a.toArray.size,_,_,λi=>bs.getD i false,rfl,adl (A:=X.A.in1) (I.ok.hd k) _ p (YL hp) a.toArray,
  ⟨⟨_,Yv _ rfl,rfl,rfl⟩,c.isList.push _⟩,λi v s' E F n t=>?_,λG tk kp=>?_⟩
 ·have f:a[i]?=Ya v:=by simpa using n
  have g:i<bs.length:=by
   have:=(Yj.mp f).1;rw[←hl,Yz];exact this
  obtain⟨u,j,w⟩:=d.get (i:=i) (x:=V.bl bs[i]) (by rw[Yy,Yk g];rfl);rw[f]at j;cases j;obtain rfl:v=acP bs[i]:=w;refine abA ?_;have e:bs.getD i false=bs[i]:=by rw[YJ,Yk g,afh]
  rw[←e];exact t
 ·refine⟨.bl (bs.all λb=>b),H,I.kept (t':=tk) λb o e=>kp b o ?_ (Yh _ e),?_,q⟩
  ·intro z;have y:b=s.heap.objs.size:=by simpa using z
   exact absurd (Yw e) (by rw[y];exact Y8 _)
  ·show acP _=acP _;rw[hl,Kc]
def L6(X:Cx)(id:String)(ks:List Yo)(r:List V->List V->Hp->VK->Prop):Prop:=
 ∀(a:List (Ye×uc)) (s:Ym) (σ:St) (H:Hp) (b c:List V) (d e:List Yd) (Q:VK),aM X a σ H s->Vals b d->Vals c e->r b c H Q->
  Yq (Yt X.prog X.w) X.A (call (.builtin id) d (ks.zip e)) (EP X a σ Q) X.xe s
def Wj(r:List V->List V->Hp->VK->Prop)(t tk:TA):TE:=λσ H Q=>t σ H λa b=>tk σ b λc d=>r a c d Q
theorem Ks{ks:List Yo}{tk:TA}{id:String}{r:List V->List V->Hp->VK->Prop}(j:L6 X id ks r)(k:Gl X x)(hm:X.mg x=Yb)(l:abh x=Ya (.builtin id))(ha:PA X (e::es) t)(hk:PK X Zo tk)(c:(abv pos (aaN Zo X.env)).filterMap (·.1)=ks:=by rfl)(hn:x≠"__name__":=by decide)(d:(x==("__debug__":Yo))=false:=by decide)(m:aal pos (YW (e::es) X.env)=(false,pk e X.env)::aal pos (YW es X.env):=by rfl)(a:(aal pos (YW (e::es) X.env)).any (·.1)=false:=by rfl)(b:(abv pos (aaN Zo X.env)).all (·.1.isSome)=true:=by rfl)(f:(abv pos (aaN Zo X.env)).any (·.1.isNone)=false:=by rfl):PE X (.Call (.Name x p) (e::es) Zo pos) (Wj r t tk):=by
 intro g s σ H Q I h;refine aa3 (qc I k hm l ?_ hn d);refine ad7 (cu (ha pos g s σ H _ I h) λn o i=>?_) m a b f;obtain⟨q,u,v,w,y⟩:=i;refine cu (hk pos g o σ u _ v y) λz A i=>?_;obtain⟨B,C,D,E,F⟩:=i;rw[c];exact j g A σ C q B n z Q D w E F
theorem u6(a v:Yd):ab4 "min" ⟨[a],[(aam "default",v)]⟩:=by unfold ab4;kernel_rfl
theorem IU(B:X.calm=true):L6 X "min" [aam "default"] (λxs zs H Q=>∃(p:Ye) (ns:List Int) (d:V),xs=[.ref p]/\zs=[d]/\bc X.K H p (ns.map V.int)/\(ns=[]->Q d H)/\∀b,b∈ns->(∀z∈ns,b<=z)->Q (.int b) H):=by
 intro L s σ H xs zs M N Q I r C h;obtain⟨p,ns,d,rfl,rfl,D,h0,h1⟩:=h;obtain⟨u,rfl,E⟩:=dW r;cases E;obtain⟨o,rfl,rd⟩:=dW C;obtain⟨g,w,F,y⟩:=I.list D;have hl:g.length=ns.length:=by rw[←w.length,Yg]
 have f:∀(i:Nat) v,g[i]?=Ya v->∃n t,ns[i]?=Ya n/\v=.int n t:=λi v e=>by
  have b:i<ns.length:=hl▸(Yj.mp e).1;obtain⟨u,J,t,rfl⟩:=w.get (i:=i) (x:=V.int ns[i]) (by simp[b]);exact⟨ns[i],t,by simp[b],YK (e.symm.trans J)⟩
 refine GX.GO GX.AS GX.DX afR afS (ko:=Yb) (d:=Ya o) (I.ok.hd B) rfl (u6 _ _) F.isList
  (λi j=>decide (ns.getD i 0<ns.getD j 0)) (λi=>by simp) (λi j h=>by simp at h⊢;omega) (λa b c h h2=>by simp at h h2⊢;omega) (λi v=>∃t,v=.int (ns.getD i 0) t) ?_ ?_ ?_ ?_
 ·intro j v h tk l G;obtain⟨n,t,hn,rfl⟩:=f j v l;exact And.intro ⟨t,by rw[YJ,hn];rfl⟩ ⟨tk,rfl⟩
 ·exact λi j k O h tk K m G Q q=>CmpOf.ints_lt (P:=λi v=>∃t,v=.int (ns.getD i 0) t) (λi=>ns.getD i 0) (λ_ _ z=>z) j i _ _ _ _ _ K m q
 ·exact λe=>⟨o,rfl,λh tk G=>⟨d,H,I.kept (t':=tk) G,rd,h0 (aaH (by rw[←hl,e];rfl))⟩⟩
 ·intro i v h tk l ft G;obtain⟨n,t,hn,rfl⟩:=f i v l;refine⟨.int n,H,I.kept (t':=tk) G,⟨t,rfl⟩,h1 n (YA hn) λz y=>?_⟩;obtain⟨j,A,rfl⟩:=aca y;have:=(ft j (hl▸A)).1;simpa [YJ,hn,A]using this
end
structure d6(K:Yc)(mg:Yo->Option Yd)(x:Yo)(f:Ye)(fd:YD)(ps:List Yo):Prop where
 mg:mg x=Ya (.ref f)
 kp:abK K (.ref f)=true
 bd:Binds K fd ps []
theorem a9{k:Nat}{f:Ye}{fd:YD}{ps:List Yo}{sp:Sp}(F:aF X.prog X.w X.K X.mg X.base bp k f fd ps sp)(c:d6 X.K X.mg x f fd ps)(d:cQ k X.A)(ha:PA X (e::es) t)(g:Gl X x:=by rfl)(a:(x==("__debug__":Yo))=false:=by decide)(h:YW (e::es) X.env=(false,pk e X.env)::YW es X.env:=by rfl)(b:(aal pos (YW es X.env)).any (·.1)=false:=by rfl):
  PE X (.Call (.Name x p) (e::es) [] pos) (HZ sp [] E0 t):=QD F d g c.mg c.kp c.bd .nil nQ ha a h b
theorem BY{T:String}(hm:X.mg x=Yb)(b:abh x=Ya (.type T))(c:Gl X x:=by rfl)(hn:x≠"__name__":=by decide)(a:(x==("__debug__":Yo))=false:=by decide):PE X (.Name x pos) (tC (.ty T)):=
 Qb c hm b rfl hn a
def Uj(K:Yc)(t:TE):TT:=λσ H Q=>t σ H λx a=>∃k,MX K x a k/\Q k a
theorem dA(K:Yc){f:cT}{t:TE}(a:X.K=K)(h:PE X (.Call f es Zo pos) t):PT X (.Call f es Zo pos) (Uj K t):=by
 subst a;exact FC h λ_=>rfl
section
end
end L2
namespace GX
open PySem
variable{prog:YZ}{w:Y6}{A:xw}{E Q:Yd->Ym->Prop}{s:Ym}{l:Ye}{n:Nat}{T:String}{nm:Yo}{R:ack->Ym->Prop}
theorem KD:agx (.type "list") (aam "keys")=pure none:=am_miss_of_fast (by kernel_rfl)
section
variable{items:Array Yd}{Q:Option Yd->Ym->Prop}
theorem Nb{id:String}{B:aaa}{x:Yd}{S:ajK}(slot:ajd T nm id)(a:acq aep id=Ya B)(b:s.TypeIs (.ref l) T)(c:ab4 id ⟨[.ref l,x],[]⟩)(m:acz (B ⟨[.ref l,x],[]⟩) S)(h:S A R s):
  Rk (Yt prog w) A (.call (.builtin id) ⟨[.ref l,x],[]⟩) R s:=aaS slot.plain a (slot.check _ _ _ _ _ _ _ _ b c (m prog w A R s h))
theorem QA{id:String}{o:uc}(slot:ajd T "__getattribute__" id)(ga:agx (.type T) "__getattr__"=pure Yb)(j:acq aep id=Ya aaa.«object.__getattribute__»)(k:∀a b,ab4 id ⟨[a,b],[]⟩)(hl:s.heap.get? l=Ya o)(n:o.cls=.type T)(m:∀u,acz (aaa.«object.__getattribute__» ⟨[.ref l,.str nm u],[]⟩) (λA R s=>s.heap.get? l=Ya o/\raisesAttr (.ref l) nm A R s))(p:A.handled=Yb)(h:∀h' tk,qZ s.heap h'->Q Yb {s with heap:=h',toks:=tk}):Yq (Yt prog w) A (ahL (.ref l) nm) Q E s:=by
 obtain⟨c,dd,dt,r⟩:=o;cases n;obtain⟨hp,g,d,tk,os⟩:=s;have i:∀tk,GV ⟨hp,g,d,tk,os⟩ (.ref l) T:=λ_=>⟨_,hl,rfl⟩;have:=slot.lookup;have:=slot.bind (.ref l);have:=sub_AttributeError;unfold ahL getAttrBy? getAttrBy
 repeat' first|assumption|exact i _|wp_step
 refine Nb slot j (i _) (k _ _) (m _) ⟨hl,p,λh' f e x=>?_⟩;obtain⟨t,v,_⟩:=x.there;have q:=h h' f x.keeps;unfold getattributeRaised
 repeat' first|assumption|wp_step
theorem HQ(a:A.handled=Yb)(hl:s.heap.get? l=Ya (yT items n))(h:∀h' tk,qZ s.heap h'->Q Yb {s with heap:=h',toks:=tk}):Yq (Yt prog w) A (ahL (.ref l) (aam "keys")) Q E s:=
 QA F.slot_list_getattribute am_list_getattr_none am_entry_list_getattribute F.args_list_getattribute_2 hl rfl (λu=>meets_getattribute_miss_list l items n _ _ u KD (by decide)) a h
end
theorem pf:acq aep "dict.update.loop"=Ya aaa.«dict.update.loop»:=ahM (by kernel_rfl)
theorem fW:af8 "dict.update.loop"=true:=by decide +kernel
section
variable{I d:Ye}{fp wr:List Ye}{P:Nat->Yd->Prop}{St:Nat->YT->Prop}{K:Type}[DecidableEq K]{knd:acZ prog w K}
theorem F9(a:List (K×Yd)):(afa [] a).length<=a.length:=by
 have:=merged_length_le [] a;simpa using this
theorem Fp(I d:Ye)(i:Int)(t:ac2):aiF prog w (aaa.«dict.update.loop» ⟨[.ref d,.ref I,.int i t,.none],[]⟩) λA R s=>Yq (Yt prog w) A.in1 (aaL (.ref I)) (λr s=>match r with
  |none=>R (.ok (.ret .none)) s
  |some v=>∃a o k x c,v=.ref a/\s.heap.get? a=Ya o/\o.cls=.type "tuple"/\o.data=.seq #[k,x] c/\
   Yq (Yt prog w) A.in1 (dictSet d k x) (λ_ s=>Rk (Yt prog w) A (.builtin "dict.update.loop" ⟨[.ref d,.ref I,.int (i+ 1) 0,.none],[]⟩) R s) (λ_ _=>False) s) (λ_ _=>False) s:=by
 intro A R s nx;show Yq _ _ (aaL (.ref I) >>= _) _ _ s;apply Yf;refine xi nx (λr b h=>?_) λ_ _ z=>z.elim;rcases r with _|v
 ·wp_walk
  exact h
 ·obtain⟨a,o,k,x,c,rfl,ha,f,hd,q⟩:=h;have ty:b.TypeIs (.ref a) "tuple":=⟨o,ha,f⟩;apply Yf;apply aau;apply Yf;apply aej
  wp_walk using acI ha hd,xi q
  ·exact λ_ _ e=>Yp ⟨abF fW _,e⟩
  ·exact λ_ _ z=>z.elim
theorem MG{D:Nat->YT->Prop}(W:aeY prog w A.in1 I fp wr n P St)(nd:d∉fp)(calm:∀i h h',D i h->(∀b o,b∉wr->h.get? b=Ya o->h'.get? b=Ya o)->D i h')
  (turn:∀i v s,P i v->D i s.heap->∃a o k x c,v=.ref a/\s.heap.get? a=Ya o/\o.cls=.type "tuple"/\o.data=.seq #[k,x] c/\
   ∀Q:Unit->Ym->Prop,(∀h,D (i+ 1) h->(∀b,b≠d->h.get? b=s.heap.get? b)->∀tk,Q () {s with heap:=h,toks:=tk})->Yq (Yt prog w) A.in1 (dictSet d k x) Q (λ_ _=>False) s):
  ∀(k i:Nat) (s:Ym) (t:ac2),n=i+ k->St i s.heap->D i s.heap->(∀h tk,D n h->R (.ok (.ret .none)) {s with heap:=h,toks:=tk})->
   Rk (Yt prog w) A (.builtin "dict.update.loop" ⟨[.ref d,.ref I,.int i t,.none],[]⟩) R s:=by
 intro k
 induction k with
 |zero=>
  intro i s t e st f fin;obtain rfl:n=i:=e;exact enter pf fW (Fp I d _ t) (W.done s _ _ st λh tk q=>fin h tk (calm _ _ _ f q))
 |succ k ih=>
  intro i s t e st f fin;refine enter pf fW (Fp I d _ t) (W.item i s _ _ (by omega) st λv h tk pv g q=>?_);obtain⟨a,o,y,x,c,j,l,m,p,set⟩:=turn i v {s with heap:=h,toks:=tk} pv (calm _ _ _ f q);refine⟨a,o,y,x,c,j,l,m,p,set _ λh2 r u tk=>?_⟩;exact ih (i+ 1) {s with heap:=h2,toks:=tk} 0 (by omega) (W.frame _ _ _ g λb B o e=>(u b λz=>nd (z▸B)).trans e) r fin
theorem MM(W:aeY prog w A.in1 I fp wr n P St)(nd:d∉fp)(h₀:YT)(g:List (K×Yd))(hn:g.length=n)(hz:n<=YB)
  (u:∀i v,P i v->∃a j k x o c,v=.ref a/\g[i]?=Ya (k,x)/\knd.is k j=true/\h₀.get? a=Ya o/\o.cls=.type "tuple"/\o.data=.seq #[j,x] c/\a≠d/\a∉wr):
  ∀(k i:Nat) (s:Ym) (t:ac2),n=i+ k->St i s.heap->(∀b o,b∉wr->b≠d->h₀.get? b=Ya o->s.heap.get? b=Ya o)->s.heap.DictOf knd d (afa [] (g.take i))->
  (∀h' tk,(∀b o,b∉wr->b≠d->h₀.get? b=Ya o->h'.get? b=Ya o)->h'.DictOf knd d (afa [] g)->R (.ok (.ret .none)) {s with heap:=h',toks:=tk})->
  Rk (Yt prog w) A (.builtin "dict.update.loop" ⟨[.ref d,.ref I,.int i t,.none],[]⟩) R s:=by
 have y:d∉wr:=λz=>nd (W.sub _ z);intro k i s t B st kp dd fin;refine MG (D:=λi h=>(∀b o,b∉wr->b≠d->h₀.get? b=Ya o->h.get? b=Ya o)/\h.DictOf knd d (afa [] (g.take i))) W nd ?_ ?_ k i s t B st ⟨kp,dd⟩ λh tk q=>fin h tk q.1 ?_
 ·rintro i h h' ⟨kp,od,C,E,ho,r⟩ q;exact⟨λb o l f e=>q b o l (kp b o l f e),od,C,E,q d od y ho,r⟩
 ·rintro i v s pv ⟨kp,dd⟩;obtain⟨a,j,k,x,o,c,rfl,F,G,ha,H,hd,J,m⟩:=u i v pv;refine⟨a,o,j,x,c,rfl,kp a o m J ha,H,hd,λQ q=>wpAny_dictSet_pairs G dd (λh2 L p=>q h2 ⟨λb o l f e=>(p.2 b f).trans (kp b o l f e),?_⟩ p.2 _) (xy (F9 _) (by rw[xj];omega))⟩;rw[merged_take_succ [] g i (k,x) F];exact L
 ·have z:=q.2;rwa [←hn,YY]at z
end
section
variable{K:Type}[DecidableEq K]{knd:acZ prog w K}
noncomputable abbrev JH(h:YT):YT:=h.push {cls:=.type "dict",data:=.dict #[]}
theorem ze(ty:GV {s with heap:=JH s.heap} (.ref l) T)(b:(aaD T !=.type "dict")=true)(h:Yq (Yt prog w) A.in1.in1 (ahL (.ref l) (aam "keys")) (λr a=>r=Yb/\Yq (Yt prog w) A.in1.in1 (adt (.ref l))
   (λit c=>Rk (Yt prog w) A.in1 (.builtin "dict.update.loop" ⟨[.ref s.heap.objs.size,it,.int 0 0,.none],[]⟩) (ai9 (λr d=>r=.none/\Q (.ref s.heap.objs.size) d) E) c) E a) E {s with heap:=JH s.heap}):
  Yq (Yt prog w) A (call (.type "dict") [.ref l]) Q E s:=by
 apply callType_codes F.kt_called_dict (F.kt_typeCall_dict_1 _) F.entry_dict_init (kt_code_dict_new (Q₁:=λv a=>v=.ref s.heap.objs.size/\a={s with heap:=JH s.heap}) _ ⟨rfl,rfl⟩);rintro _ _ ⟨rfl,rfl⟩;have td:GV {s with heap:=JH s.heap} (.ref s.heap.objs.size) "dict":=⟨_,Yv _ rfl,rfl⟩;refine⟨td,F.args_dict_init_2 _ _,?_⟩;show Yq _ _ (Builtin.Dict.selfAndRest _ _ >>= _) _ _ _
 wp_walk using wpAny_notOrdered_dict td,aiG b,xi h
 ·rintro _ a ⟨rfl,q⟩
  wp_walk using xi q
  ·exact λ_ _ e=>Yp ⟨abF fW _,e⟩
  ·exact λ_ _ e=>e
 ·exact λ_ _ e=>e
theorem uL{vs:List Yd}{q:List (K×Yd)}(D:A.handled=Yb)(hl:s.heap.get? l=Ya {cls:=.type "list",dict:=Yb,data:=.seq vs.toArray n,slots:=#[]})(hz:vs.length<=YB)(m:q.length=vs.length)(J:∀(i:Nat) v,vs[i]?=Ya v->∃a t k x o c,v=.ref a/\q[i]?=Ya (k,x)/\knd.is k t=true/\s.heap.get? a=Ya o/\o.cls=.type "tuple"/\o.data=.seq #[t,x] c)(h:∀h' tk,(∀b o,s.heap.get? b=Ya o->h'.get? b=Ya o)->h'.DictOf knd s.heap.objs.size (afa [] q)->Q (.ref s.heap.objs.size) {s with heap:=h',toks:=tk}):
  Yq (Yt prog w) A (call (.type "dict") [.ref l]) Q E s:=by
 have g:(JH s.heap).get? l=Ya {cls:=.type "list",dict:=Yb,data:=.seq vs.toArray n,slots:=#[]}:=Yh _ hl;refine ze (T:="list") ⟨_,g,rfl⟩ (by decide) (HQ D g λh1 DW u=>⟨rfl,?_⟩);have p:=u l _ g;have y:l<h1.objs.size:=Yw p;have ld:l<s.heap.objs.size:=Yw hl;have F:h1.IsList l vs.toArray:=⟨_,p,rfl,n,rfl⟩;have G:h1.DictOf knd s.heap.objs.size []:=by
  obtain⟨od,H,I,ho,r⟩:=Heap.DictOf.new (knd:=knd) s.heap;exact⟨od,H,I,u _ _ ho,r⟩
 have j:s.heap.objs.size<h1.objs.size:=by
  obtain⟨od,H,I,ho,r⟩:=G;exact Yw ho
 have L:∀{b:Ye},b<h1.objs.size->b≠h1.objs.size:=λz=>YL z;refine aaY (s:={s with heap:=h1,toks:=DW}) F ?_;have W:=adl (prog:=prog) (w:=w) (A:=A.in1.in1) D h1.objs.size l (L y) vs.toArray;refine MM (A:=A.in1) (knd:=knd) W (d:=s.heap.objs.size) ?_ s.heap q (by rw[m,Yz]) (by rw[Yz];exact hz) (λi v M=>?_) vs.toArray.size 0 _ 0 (by omega)
  ⟨⟨_,Yv _ rfl,rfl,rfl⟩,F.push _⟩ (λb o _ X e=>Yh _ (u b o (Yh _ e))) ?_ λh2 B N O=>?_
 ·intro z;have f:s.heap.objs.size=h1.objs.size∨s.heap.objs.size=l:=by simpa using z
  rcases f with f|f
  ·exact absurd j (by rw[f];exact Y8 _)
  ·exact absurd ld (by rw[f];exact Y8 _)
 ·obtain⟨a,t,k,x,o,c,P,R,S,C,U,V⟩:=J i v (by simpa using M);refine⟨a,t,k,x,o,c,P,R,S,C,U,V,YL (Yw C),λz=>?_⟩;have f:a=h1.objs.size:=by simpa using z
  exact absurd (ae9 (Yw C) j) (by rw[f];exact Y8 _)
 ·exact G.push _
 ·exact⟨rfl,h h2 B (λb o e=>N b o (λz=>by
   have f:b=h1.objs.size:=by simpa using z
   exact absurd (ae9 (Yw e) j) (by rw[f];exact Y8 _)) (YL (Yw e)) e) O⟩
end
end GX
namespace GX
open PySem PyProof.Rows
section
variable{prog:YZ}{w:Y6}{A:xw}{E:Yd->Ym->Prop}{s:Ym}
theorem vD{x:Yd}{a:List (Yo×Yd)}{Q:Yd->Ym->Prop}(ok:ab4 "sorted" ⟨[x],a⟩)
  (h:Yq (Yt prog w) A.in1 (ajC x) (λvs b=>Yq (Yt prog w) A.in1 (ahh vs >>= λl=>acF [l] (call (.builtin "list.sort") [l] a) >>= λ_=>ret l) (λf c=>∃v,f=.done (.ret v)/\Q v c) E b) E s):
  Yq (Yt prog w) A (call (.builtin "sorted") [x] a) Q E s:=
 call_function_entry_kw kind_sorted plain_sorted entry_sorted ok (Yf (m:=checkCount _ _ _ _) (Yp (Yf (xi h (λ_ _ q=>q) λ_ _ e=>e))))
end
end GX
namespace L2
open PySem PySem.Spec PyProof.Rows
variable{m ps:List (Int×Int)}{k:Int}{X:Cx}{P:YZ}{w:Y6}{A:xw}{s:Ym}{ns:List Int}{Za:List (Ye×uc)}{σ:St}{H:Hp}{h':YT}{xs:List V}{a it:Ye}{kvs:List (bJ×V)}{vs:List (bJ×Yd)}{Zw:List cT}{x1:Nat}{tp:abE}
noncomputable def dI(m:List (Int×Int)):List (bJ×V):=m.map λp=>(YN p.1,V.int p.2)
theorem vX(m:List (Int×Int)):(dI m).length=m.length:=Yg ..
noncomputable def vt:List (Int×Int)->Int->Option Int
 |[],_=>Yb
 |p::m,k=>if p.1=k then Ya p.2 else vt m k
theorem sV:∀(m:List (Int×Int)) (k:Int),eF (dI m) (YN k:bJ)=(vt m k).map V.int
 |[],_=>rfl
 |p::m,k=>by
  show eF ((YN p.1,V.int p.2)::dI m) (YN k)=_;unfold vt;by_cases e:p.1=k
  ·rw[if_pos e,dg (by rw[e])];rfl
  ·rw[if_neg e,du (λz=>e (aaA z)),sV m k]
noncomputable def d3:List (Int×Int)->Int->Int->List (Int×Int)
 |[],k,v=>[(k,v)]
 |p::m,k,v=>if p.1=k then(p.1,v)::m else p::d3 m k v
theorem LP:∀(m:List (Int×Int)) (k v j:Int),vt (d3 m k v) j=if j=k then Ya v else vt m j
 |[],k,v,j=>by
  show(if k=j then Ya v else Yb)=_;by_cases e:j=k
  ·rw[if_pos e,if_pos e.symm]
  ·rw[if_neg e,if_neg (λz=>e z.symm)];rfl
 |p::m,k,v,j=>by
  show vt (if p.1=k then(p.1,v)::m else p::d3 m k v) j=if j=k then Ya v else(if p.1=j then Ya p.2 else vt m j)
  by_cases e:p.1=k
  ·rw[if_pos e];show(if p.1=j then Ya v else vt m j)=_;by_cases a:j=k
   ·rw[if_pos a,if_pos (e.trans a.symm)]
   ·rw[if_neg a,if_neg (λz=>a (z.symm.trans e)),if_neg (λz=>a (z.symm.trans e))]
  ·rw[if_neg e];show(if p.1=j then Ya p.2 else vt (d3 m k v) j)=_;rw[LP m k v j];by_cases a:j=k
   ·rw[if_pos a,if_neg (λz=>e (z.trans a)),if_pos a]
   ·rw[if_neg a,if_neg a]
theorem E6:∀(m:List (Int×Int)) (k v x:Int),x∈(d3 m k v).map (·.1)↔x=k∨x∈m.map (·.1)
 |[],k,v,x=>by simp[d3]
 |p::m,k,v,x=>by
  show x∈(if p.1=k then(p.1,v)::m else p::d3 m k v).map (·.1)↔_;by_cases e:p.1=k
  ·rw[if_pos e];simp only[YF,Yn];constructor
   ·exact λh=>.inr h
   ·rintro(h|h)
    ·exact .inl (h.trans e.symm)
    ·exact h
  ·rw[if_neg e];simp only[YF,Yn];have:=E6 m k v x;constructor
   ·rintro(h|h)
    ·exact .inr (.inl h)
    ·rcases this.mp h with h|h
     ·exact .inl h
     ·exact .inr (.inr h)
   ·rintro(h|h|h)
    ·exact .inr (this.mpr (.inl h))
    ·exact .inl h
    ·exact .inr (this.mpr (.inr h))
theorem Mv:∀(m:List (Int×Int)) (k v:Int),(m.map (·.1)).Nodup->((d3 m k v).map (·.1)).Nodup
 |[],k,v,_=>by simp[d3]
 |p::m,k,v,h=>by
  show((if p.1=k then(p.1,v)::m else p::d3 m k v).map (·.1)).Nodup;rw[YF,BD]at h;by_cases e:p.1=k
  ·rw[if_pos e,YF,BD];exact h
  ·rw[if_neg e,YF,BD];refine⟨λz=>?_,Mv m k v h.2⟩;rcases(E6 m k v p.1).mp z with z|z
   ·exact e z
   ·exact h.1 z
theorem tF:∀(m:List (Int×Int)) (k v:Int) (p:Int×Int),p∈d3 m k v->p=(k,v)∨p∈m
 |[],k,v,p,h=>.inl (by simpa [d3]using h)
 |q::m,k,v,p,h=>by
  have a:p∈(if q.1=k then(q.1,v)::m else q::d3 m k v):=h;by_cases e:q.1=k
  ·rw[if_pos e]at a;rcases Yn.mp a with z|z
   ·exact .inl (by rw[z,e])
   ·exact .inr (Yr _ z)
  ·rw[if_neg e]at a;rcases Yn.mp a with z|z
   ·exact .inr (by rw[z];exact Ys)
   ·rcases tF m k v p z with z|z
    ·exact .inl z
    ·exact .inr (Yr _ z)
theorem MR(k:Int):∀m:List (Int×Int),((dI m).any λkv=>decide (kv.1=(YN k:bJ)))=m.any λp=>decide (p.1=k)
 |[]=>rfl
 |p::m=>by
  show(decide ((YN p.1:bJ)=YN k)||(dI m).any _)=(decide (p.1=k)||m.any _);rw[MR k m];congr 1;rw[decide_eq_decide];exact⟨λh=>aaA h,λh=>congrArg _ h⟩
theorem BK:∀(m:List (Int×Int)) (k v:Int),(m.any λp=>decide (p.1=k))=false->d3 m k v=m++[(k,v)]
 |[],_,_,_=>rfl
 |p::m,k,v,h=>by
  rw[ach,agz]at h;show(if p.1=k then(p.1,v)::m else p::d3 m k v)=_;rw[if_neg (of_decide_eq_false h.1),BK m k v h.2];rfl
theorem Ie:∀(m:List (Int×Int)) (k v:Int),(m.map (·.1)).Nodup->(m.any λp=>decide (p.1=k))=true->d3 m k v=m.map λp=>if p.1=k then(p.1,v)else p
 |[],_,_,_,h=>by cases h
 |p::m,k,v,nd,h=>by
  rw[YF,BD]at nd;show(if p.1=k then(p.1,v)::m else p::d3 m k v)=(if p.1=k then(p.1,v)else p)::m.map _;by_cases e:p.1=k
  ·rw[if_pos e,if_pos e];congr 1;have:m.map (λp=>if p.1=k then(p.1,v)else p)=m.map id:=aax λq a=>by
    rw[if_neg (λz=>nd.1 (by rw[e,←z];exact YV a))];rfl
   rw[this,adv]
  ·rw[if_neg e,if_neg e,Ie m k v nd.2 (by
    rw[ach,decide_eq_false e,aeB]at h;exact h)]
theorem Lz(m:List (Int×Int))(k v:Int)(nd:(m.map (·.1)).Nodup):gL (dI m) (YN k:bJ) (V.int v)=dI (d3 m k v):=by
 unfold gL;rw[MR];cases e:m.any λp=>decide (p.1=k)with
 |false=>
  rw[BK m k v e];unfold dI;rw[Yx];rfl
 |true=>
  rw[Ie m k v nd e];unfold dI;rw[gf,if_pos rfl,gf];apply aax;intro p _;show(if(YN p.1:bJ)=YN k then((YN p.1:bJ),V.int v)else(YN p.1,V.int p.2))=((YN (if p.1=k then(p.1,v)else p).1:bJ),V.int (if p.1=k then(p.1,v)else p).2);by_cases z:p.1=k
  ·rw[if_pos (congrArg _ z),if_pos z]
  ·rw[if_neg (λq=>z (aaA q)),if_neg z]
theorem GA:∀{m:List (Int×Int)} {k v:Int},vt m k=Ya v->(k,v)∈m
 |[],_,_,h=>by cases h
 |p::m,k,v,h=>by
  have a:(if p.1=k then Ya p.2 else vt m k)=Ya v:=h;by_cases e:p.1=k
  ·rw[if_pos e]at a;have:p=(k,v):=by rw[←e,←YK a]
   rw[this];exact Ys
  ·rw[if_neg e]at a;exact Yr _ (GA a)
theorem RM:∀{m:List (Int×Int)} {k v:Int},(m.map (·.1)).Nodup->(k,v)∈m->vt m k=Ya v
 |[],_,_,_,h=>by cases h
 |p::m,k,v,nd,h=>by
  rw[YF,BD]at nd;show(if p.1=k then Ya p.2 else vt m k)=Ya v;rcases Yn.mp h with z|z
  ·rw[←z,if_pos rfl]
  ·rw[if_neg (λe=>nd.1 (by rw[e];exact YV (f:=(·.1)) z)),RM nd.2 z]
theorem Il(h:k∉m.map (·.1)):vt m k=none:=by
 cases e:vt m k with
 |none=>rfl
 |some v=>exact absurd (YV (f:=(·.1)) (GA e)) h
theorem Qv(h:k∈m.map (·.1)):∃v,vt m k=Ya v:=by
 cases e:vt m k with
 |some v=>exact⟨v,rfl⟩
 |none=>
  exfalso
  induction m with
  |nil=>cases h
  |cons p m ih=>
   have a:(if p.1=k then Ya p.2 else vt m k)=none:=e;by_cases z:p.1=k
   ·rw[if_pos z]at a;cases a
   ·rw[if_neg z]at a;rw[YF]at h;rcases Yn.mp h with q|q
    ·exact z q.symm
    ·exact ih q a
noncomputable def ct(m:List (Int×Int))(k:Int):Int:=(vt m k).getD 0
section
theorem vw{P:YZ}{w:Y6}:∀{m:List (Int×Int)} {vs:List (bJ×Yd)} {us:List Yd},KV (dI m) vs->us.length=vs.length->(∀(j:Nat) v,us[j]?=Ya v->∃k x,vs[j]?=Ya (k,x)/\(aY P w).is k v=true)->RW us (m.map (·.1))
 |[],_,us,r,hl,h=>by
  have a:KV [] _:=r;cases a;cases us with
  |nil=>exact .nil
  |cons _ _=>cases hl
 |p::m,vs,us,r,hl,h=>by
  have a:KV ((YN p.1,V.int p.2)::dI m) vs:=r;cases a with
  |cons r1 r2=>
   rename_i q o;cases us with
   |nil=>cases hl
   |cons u us=>
    obtain⟨k,x,d,f⟩:=h 0 u rfl;have b:q=(k,x):=YK d;subst b;have g:(YN p.1:bJ)=k:=r1.1;subst g;rcases cH (show wF (YN p.1) u=true from f)with⟨i,t,l,n⟩|⟨_,_,z,_⟩
    ·have c:p.1=i:=aaA l;rw[n,←c];exact .cons _ t (vw (P:=P) (w:=w) r2 (ade hl) λj v e=>h (j+ 1) v e)
    ·cases z
theorem Aq{E:Yd->Ym->Prop}{prog:YZ}{vs:List Yd}{Q:Yd->Ym->Prop}(c:RW vs ns)(h64:vs.length<64)(hz:vs.length<=YB)(h:∀h' out a e,(∀b o,s.heap.get? b=Ya o->h'.get? b=Ya o)->h'.get? s.heap.objs.size=Ya (seqObj "list" out e)->RW out.toList a->a.Perm ns->a.Pairwise (·<=·)->Q (.ref s.heap.objs.size) {s with heap:=h'}):
  Yq (Yt prog w) A (do let l←ahh vs;let _←acF [l] (call (.builtin "list.sort") [l] []);ret l) (λfin s'=>∃v,fin=.done (.ret v)/\Q v s') E s:=by
 refine Yf (agP ?_ hz);have ho:(s.heap.push (seqObj "list" vs.toArray 0)).get? s.heap.objs.size=Ya (seqObj "list" vs.toArray 0):=Yv _ rfl;refine Yf (aau (abL aiH ⟨_,ho,rfl⟩ ain (list_sort_tree ho c h64 λout a d f g=>⟨_,rfl,?_⟩) (aiI _)));obtain⟨e,i⟩:=sortedHeap_at (out:=out) ho;refine Yp ⟨_,rfl,h _ out a e (λb o q=>?_) i d f g⟩;have l:=Yw q;rw[sortedHeap_old (YL l) (by rw[size_push'];exact aba l)];exact Yh _ q
theorem aM.lay_ints{out:Array Yd}{e tk:Nat}(I:aM X Za σ H s)(k:∀b o,s.heap.get? b=Ya o->h'.get? b=Ya o)(a:h'.get? s.heap.objs.size=Ya (seqObj "list" out e))(c:RW out.toList ns)(hz:ns.length<=YB):
  aM X Za σ (upd H s.heap.objs.size (.lst (ns.map V.int))) {s with heap:=h',toks:=tk}:=
 I.laid k (Yl _) ⟨by rw[Yg];exact hz,out.toList,e,vT c,a⟩
theorem BX(x:X.calm=true):c6 X (.builtin "sorted") (λxs H Q=>∃(d:Ye) (m:List (Int×Int)),xs=[.ref d]/\Rd H d (.dK (dI m))/\m.length<64/\∀(l:Ye) (ns:List Int),H l=Yb->ns.Perm (m.map (·.1))->ns.Pairwise (·<=·)->Q (.ref l) (upd H l (.lst (ns.map V.int)))):=by
 intro y s σ H xs M Q I r h;obtain⟨d,m,rfl,hd,b,q⟩:=h;obtain⟨u,rfl,B⟩:=dW r;cases B;obtain⟨z,C,k,c,dd⟩:=j7 I.hok hd;obtain⟨D,i⟩:=dd.dictAt;have hl:k.length=m.length:=by rw[←c.length,vX]
 refine GX.vD (ag6 _) (PySem.W.kdu_collect (A:=X.A.in1) (ahN (knd:=aY X.prog X.w) (kvs:=k) (ep:=D) C) (I.ok.hd x) i (by rw[hl];exact rl (aG (by omega))) λn tk f E a=>?_);have o:RW f.toList (m.map (·.1)):=vw (P:=X.prog) (w:=X.w) c (by rw[YO];exact a.1) λj v e=>a.2 j v (by rw[←vc];exact e);have ha:f.toList.length=m.length:=by rw[o.length,Yg]
 have p:aM X y σ H {s with heap:=n,toks:=tk}:=I.kept E;refine Aq o (by rw[ha];exact b) (by rw[ha];exact rl (aG (by omega))) λh2 out g e F G J t K=>?_;have L:g.length<=YB:=by rw[t.length_eq,Yg];exact rl (aG (by omega))
 exact⟨.ref n.objs.size,_,p.lay_ints (tk:=tk) F G J L,rfl,q _ g (p.hok.fresh (Yl _)) t K⟩
theorem Gw:c6 X (.builtin "len") (λxs H Q=>∃(a:Ye) (kvs:List (bJ×V)),xs=[V.ref a]/\Rd H a (.dK kvs)/\Q (.int kvs.length) H):=by
 intro d s σ H xs e Q I r h;obtain⟨a,kvs,rfl,ha,q⟩:=h;obtain⟨u,rfl,b⟩:=dW r;cases b;exact W3 I ha λt s' c=>⟨.int kvs.length,H,c,⟨_,rfl⟩,q⟩
def Pr(H:Hp)(x:V)(p:Int×Int):Prop:=∃a,x=.ref a/\H a=Ya (.tup [.int p.1,.int p.2])
abbrev jQ(H:Hp):List V->List (Int×Int)->Prop:=fm (Pr H)
theorem jQ.mono{b:Hp}(h:∀a xs,H a=Ya (.tup xs)->b a=Ya (.tup xs))(r:jQ H xs ps):jQ b xs ps:=fm.mapP r λ_ _ ⟨a,c,d⟩=>⟨a,c,h a _ d⟩
theorem jQ.snoc{x:V}{p:Int×Int}:∀{xs:List V} {ps:List (Int×Int)},jQ H xs ps->Pr H x p->jQ H (xs++[x]) (ps++[p]):=by
 intro a b w h
 induction w with
 |nil=>exact .cons h .nil
 |cons r _ ih=>exact .cons r ih
theorem jQ.get:∀{xs:List V} {ps:List (Int×Int)} {i:Nat} {x:V},jQ H xs ps->xs[i]?=Ya x->∃p,ps[i]?=Ya p/\Pr H x p:=by
 intro a b i x w
 induction w generalizing i with
 |nil=>exact λe=>by simp at e
 |cons r _ ih=>
  intro e;cases i with
  |zero=>simp at e;subst e;exact⟨_,rfl,r⟩
  |succ i=>
   obtain⟨p,h1,h2⟩:=ih (i:=i) (by simpa using e);exact⟨p,by simpa using h1,h2⟩
theorem jQ.len(r:jQ H xs ps):xs.length=ps.length:=Y7 r
end
section
theorem Ib{A:xw}{s:Ym}{n:List (Int×Int)}{b:List (bJ×Yd)}(c:KV (dI n) b):∀{m:List (Int×Int)} {vs:List (bJ×Yd)},KV (dI m) vs->(∀p∈m,vt n p.1=Ya p.2)->PySem.W.KeqHits A s b vs true
 |[],_,r,_=>by
  have a:KV [] _:=r;cases a;exact .nil
 |p::m,vs,r,h=>by
  have a:KV ((YN p.1,V.int p.2)::dI m) vs:=r;cases a with
  |cons r1 r2=>
   rename_i q w;obtain⟨k,v⟩:=q;have d:(YN p.1:bJ)=k:=r1.1;subst d;obtain⟨t,f⟩:=(show∃t,v=abn p.2 t from r1.2);subst f;have z:=c.val (YN p.1);rw[sV,h p Ys]at z;obtain⟨y,g,i⟩:=kP.some_of z;obtain⟨j,l⟩:=(show∃t,y=abn p.2 t from i);subst l;have e:=SeqAt.EqAt.int_int (A:=A) (s:=s) p.2 t p.2 j;have o:=Ib (A:=A) (s:=s) c r2 λq u=>h q (Yr _ u);have:=PySem.W.KeqHits.hit g e o;rw[beq_self_eq_true,adB]at this;exact this
theorem Dq:∀(ps a:List (Int×Int)),((a++ps).map (·.1)).Nodup->vb (dI a) (dI ps)=dI (a++ps)
 |[],a,_=>by rw[sq];rfl
 |p::ps,a,h=>by
  show vb (gL (dI a) (YN p.1) (V.int p.2)) (dI ps)=_;have h1:(a.map (·.1)).Nodup:=by
   rw[Yx]at h;exact(KW.mp h).1
  have h2:(a.any λq=>decide (q.1=p.1))=false:=by
   rw[aeL];intro q b z;have c:=of_decide_eq_true z;rw[Yx,YF]at h;exact(KW.mp h).2.2 q.1 (YV (f:=(·.1)) b) p.1 Ys c
  rw[Lz a p.1 p.2 h1,BK a p.1 p.2 h2,Dq ps (a++[(p.1,p.2)]) (by rw[abc];exact h),abc];rfl
theorem LQ(I:aM X Za σ H s):∀{xs:List V} {us:List Yd} {ps:List (Int×Int)},jQ H xs ps->Vals xs us->
  ∃d:List (bJ×Yd),KV (dI ps) d/\d.length=us.length/\∀(i:Nat) v,us[i]?=Ya v->∃a f k x o c,v=.ref a/\d[i]?=Ya (k,x)/\(aY X.prog X.w).is k f=true/\s.heap.get? a=Ya o/\o.cls=.type "tuple"/\o.data=.seq #[f,x] c:=by
 intro xs us ps w
 induction w generalizing us with
 |nil=>
  intro w;cases w;exact⟨[],.nil,rfl,λi v e=>by simp at e⟩
 |@cons x p xs ps h t ih=>
  intro w;cases w with|cons r q=>
  rename_i u us;obtain⟨d,j,l,m⟩:=ih q;obtain⟨a,rfl,ha⟩:=h;obtain rfl:u=YG a:=r;obtain⟨_,b,y,o,ho,z,n,hd,_⟩:[V.int p.1,V.int p.2].length<=YB/\∃b:List Yd,Vals [V.int p.1,V.int p.2] b/\ox s.heap a b.toArray:=I.hok a _ ha;obtain⟨E,g,rfl,A,B⟩:=AD y;obtain⟨C,rfl⟩:=A;refine⟨(YN p.1,g)::d,.cons ⟨rfl,B⟩ j,congrArg (·+ 1) l,λi v e=>?_⟩;cases i with
  |zero=>
   have D:YG a=v:=YK e;subst D;exact⟨a,_,_,g,o,n,rfl,rfl,p7 X.prog X.w p.1 C,ho,z,hd⟩
  |succ i=>exact m i v e
theorem Gv(d:X.calm=true):c6 X (.type "dict") (λxs H Q=>∃(a:Ye) (ys:List V) (ps:List (Int×Int)),xs=[.ref a]/\H a=Ya (.lst ys)/\jQ H ys ps/\(ps.map (·.1)).Nodup/\ps.length<=1000/\∀p,H p=Yb->Q (.ref p) (upd H p (.dK (dI ps)))):=by
 intro o s σ H xs t Q I r h;obtain⟨a,ys,ps,rfl,ha,hp,nd,hl,q⟩:=h;obtain⟨u,rfl,f⟩:=dW r;cases f;obtain⟨z,g,n,i,b,e⟩:=I.lstM ha;obtain⟨j,k,l,m⟩:=LQ I hp i;refine GX.uL (knd:=aY X.prog X.w) (I.ok.hd d) e (by rw[←b];exact z) l m λv tk kp dd=>?_;have c:KV (dI ps) (afa [] j):=by
  have:=KV.merge k (show KV (dI []) []from .nil);rw[Dq ps [] (by simpa using nd)]at this;exact this
 refine⟨.ref s.heap.objs.size,_,I.laid (t':=tk) kp (Yl _) (GH ?_ (beq_eq_false_iff_ne.mpr (Ne.symm (YL I.big))) c dd),rfl,q _ (I.hok.fresh (Yl _))⟩;rw[vX];exact rl (aG hl)
def Uw(K:Yc)(tl:TE):TI:=λσ H R=>tl σ H λx b=>∃a,x=.ref a/\(((∃c,bc K b a c)/\R (Lp K a) b)∨((∃c,bI K b a c)/\R (MJ K a) b))
theorem TL{n l:cT}{tl:TE}(hl:PE X l tl):PI X n l (Uw X.K tl):=by
 intro k s σ H R I h;refine cu (hl k s σ H _ I h) λv c r=>?_;obtain⟨x,g,d,t,i⟩:=r;obtain⟨a,e,i⟩:=i;subst e;cases t;have m:∀b∈[c.heap.objs.size],uw X k g b:=λb u=>by
  have e:b=c.heap.objs.size:=by simpa using u
  subst e;exact d.fpOk (Yl _) (d.hok.fresh (Yl _))
 rcases i with⟨⟨w,j⟩,q⟩|⟨⟨w,j⟩,q⟩
 ·obtain⟨f,y,p,z⟩:=d.list j;refine aaY p.isList ?_;exact⟨c.heap.objs.size,[c.heap.objs.size],_,_,g,rfl,d.kept (t':=c.toks) λb o e=>Yh _ e,AN a _,⟨_,Yv _ rfl,rfl,rfl⟩,m,q⟩
 ·obtain⟨f,y,p,z⟩:=d.tuple j;refine ag2 (show c.heap.IsTuple a f.toArray from p) ?_;exact⟨c.heap.objs.size,[c.heap.objs.size],_,_,g,rfl,d.kept (t':=c.toks) λb o e=>Yh _ e,zg a _,⟨_,Yv _ rfl,rfl,rfl⟩,m,q⟩
end
theorem Nc{K:Yc}{g:TG}{j:TT}{k:TE}{D:Ye}{Qe:Hp->Prop}(b:Nat->St->Hp->Prop)(h0:b 0 σ H)(hl:∀i σ H,i<=xs.length->b i σ H->bI K H a xs)(hs:∀i x σ H,xs[i]?=Ya x->b i σ H->fj g j k D (b (i+ 1)) x σ H)(hd:∀σ H,b xs.length σ H->Qe H):
  ∃W:Nat->Nat->St->Hp->Prop,(∃m,W 0 m σ H)/\∀i m h c,W i m h c->((MJ K a).stop i c/\Qe c)∨((MJ K a).go i c/\∃N:St->Hp->Prop,(∀l n,N l n->∃o,o<m/\W (i+ 1) o l n)/\
   ∀x d,(MJ K a).yld i c x d->fj g j k D N x h d):=by
 refine⟨λi m σ H=>m=xs.length-i/\i<=xs.length/\b i σ H,⟨xs.length,by simp,Y9 _,h0⟩,?_⟩;rintro i m σ H ⟨rfl,r,p⟩;have q:=hl i σ H r p;by_cases f:i<xs.length
 ·refine .inr ⟨⟨xs,xs[i],q,by simp[f]⟩,b (i+ 1),λh c s=>⟨xs.length-(i+ 1),by omega,rfl,f,s⟩,λx c y=>?_⟩;obtain⟨e,y⟩:=y;subst e;exact hs i x σ _ (y xs q) p
 ·have e:i=xs.length:=by omega
  subst e;exact .inl ⟨⟨xs,q,Yl _⟩,hd σ H p⟩
noncomputable def TQ(d:Ye)(o:uc)(kvs:List (bJ×V)):It:=
 ⟨λi H=>i<kvs.length/\H d=Ya (.frz o (.dK kvs)),λi H x b=>∃k v a,kvs[i]?=Ya (k,v)/\H a=Yb/\x=.ref a/\b=upd H a (.tup [kV k,v]),λi H=>kvs.length<=i/\H d=Ya (.frz o (.dK kvs))⟩
theorem Ra{k:bJ}{u:Yd}(h:(aY P w).is k u=true):RelV (kV k) u:=by
 rcases cH (show wF k u=true from h)with⟨i,t,rfl,rfl⟩|⟨x,t,rfl,rfl⟩
 ·exact⟨t,rfl⟩
 ·exact⟨t,rfl⟩
theorem KV.get:∀{i:Nat} {k:bJ} {v:V},KV kvs vs->kvs[i]?=Ya (k,v)->∃u,vs[i]?=Ya (k,u)/\RelV v u:=by
 intro i k v r
 induction r generalizing i with
 |nil=>intro e;simp at e
 |cons r1 r2 ih=>
  rename_i p q _ _;intro e;cases i with
  |zero=>
   have a:p=(k,v):=YK e;subst a;obtain⟨b,u⟩:=q;have c:k=b:=r1.1;subst c;exact⟨u,rfl,r1.2⟩
  |succ i=>exact ih e
theorem aM.turnLay{o:HO}(I:aM X Za σ H s)(k:∀b o,b≠it->s.heap.get? b=Ya o->h'.get? b=Ya o)(j:uw X Za H it)(l:∃o,h'.get? it=Ya o)(ha:s.heap.objs.size<=a)(p:a≠it)(new:cg X.prog X.w (upd H a o) h' a o):aM X Za σ (upd H a o) {s with heap:=h'}:=by
 obtain⟨t,i,D,w,x,y⟩:=j;have hn:H a=none:=I.hok.fresh ha;have h:∀b ob,s.heap.get? b=Ya ob->b≠a:=λb ob e z=>by
  have:=Yw e;rw[z]at this;exact absurd (Y2 this ha) (Y8 _)
 have f:∀b u,H b=Ya u->b≠it:=λb u e z=>by rw[z,t]at e;cases e
 refine I.step (g':=s.gens) (d':=s.drawn) (t':=s.toks) (ch:=[it]) (λb g=>?_) (λb o _ _ d e _=>k b o (λz=>d (by simp[z])) e) (λb o _ _ d e _=>⟨o.slots,k b o (λz=>d (by simp[z])) e⟩) (λb ob _ e n=>by rw[ak (h b ob e)];exact n)
  (λb o d e=>⟨o,k b o (λz=>d (by simp[z])) e⟩) (λb A e=>by rw[ak (ax e hn)];exact e) (λb o u e=>by rw[ak (ax e hn)];exact e) (λb ps e=>⟨#[],by rw[ak (ax e hn),e];simp⟩) (λm hm=>?_) (λb u e=>?_) I.bare
 ·have e:b=it:=by simpa using g
  subst e;exact⟨w,i,x,y⟩
 ·obtain⟨ob,B,C,ho,r⟩:=hm;exact⟨ob,B,C,k _ ob (Ne.symm i) ho,r⟩
 ·by_cases g:b=a
  ·subst g;rw[ai]at e;cases e;exact new
  ·rw[ak g]at e;refine(I.hok b u e).stay (λc v d q=>k c v ?_ q) (λc q=>by rw[ak (ax q hn)];exact q) λc A q=>by rw[ak (ax q hn)];exact q
   rcases d with z|z
   ·rw[z];exact f b u e
   ·exact f c _ z
theorem Gy{K:Yc}{d:Ye}{o:uc}{ep:Nat}(l:KV kvs vs)(M:∀h:YT,h.get? d=Ya o->h.DictAt (aY P w) d vs ep):
  Turn P w K (.Tuple Zw x1 tp) (TQ d o kvs) [it] it (λi h=>∃ok f,IsItemIter h it d i vs.length ep ok f) where
 mem:=by simp
 obj:=λi h st b g=>by
  have e:b=it:=by simpa using g
  subst e;obtain⟨ok,f,e⟩:=st;exact⟨_,e,λv z=>by
   have U:Data.fields _=Data.cell v:=z;cases U⟩
 keep:=λi h x st k=>let ⟨ok,f,e⟩:=st;⟨ok,f,k it (by simp) _ e⟩
 item:=by
  intro X y hw A N i O s σ H E I B st C;subst y hw A;obtain⟨ok,f,a⟩:=st;obtain⟨Q,hd⟩:=C;have j:s.heap.get? d=Ya o:=(show s.heap.get? d=Ya o/\_ from I.hok d _ hd).1;have R:kvs[i]?=Ya kvs[i]:=Yk Q;obtain⟨u,V,W⟩:=l.get (k:=kvs[i].1) (v:=kvs[i].2) R;refine wpAny_pyNext_items_item a (M _ j) V λS x m c n Y kp=>?_;have p:s.heap.objs.size≠it:=λz=>by
   have:=Yw a;rw[←z]at this;exact Y8 _ this
  have q:=B it (by simp);have Z:aM X O σ (upd H s.heap.objs.size (.tup [kV kvs[i].1,kvs[i].2])) {s with heap:=x}:=
   I.turnLay kp q ⟨_,c⟩ (Yl _) p ⟨by show 2<=YB;decide,[S,u],.cons (Ra m) (.cons W .nil),_,n,rfl,0,rfl,rfl,rfl⟩
  refine⟨_,rfl,aew c λh2 r sb=>?_⟩;obtain⟨D,F,f2,G,J,L⟩:=q;have t:(upd H s.heap.objs.size (.tup [kV kvs[i].1,kvs[i].2])) it=none:=by rw[ak (Ne.symm p)];exact D
  refine⟨.ref s.heap.objs.size,_,Z.turned (t':=s.toks) (λb o g e=>(sb.2 b g).trans e) t F G J L,rfl,⟨_,_,_,R,I.hok.fresh (Yl _),rfl,rfl⟩,⟨S,u,r⟩,λb g=>?_⟩;have e:b=it:=by simpa using g
  rw[e];exact t
 done:=by
  intro X y hw A N i O s σ H E I B st C;subst y hw A;obtain⟨ok,f,a⟩:=st;obtain⟨Q,hd⟩:=C;have j:s.heap.get? d=Ya o:=(show s.heap.get? d=Ya o/\_ from I.hok d _ hd).1;obtain⟨D,F,f2,G,J,L⟩:=B it (by simp);have T:kvs.length=vs.length:=KV.length l;exact wpAny_pyNext_items_end (I.ok.hd N) a (M _ j) (abr (by omega)) λx eb=>⟨rfl,I.turned (t':=s.toks) (λb o g e=>eb b o g e) D F G J L⟩
 self:=λ_ _ _ _ _ ⟨ok,f,st⟩ h=>ahO st h
section
def LI(td:TE):TI:=λσ H R=>td σ H λx b=>∃d a,x=.ref d/\b d=Ya (.dK a)/\∀o,R (TQ d o a) (upd b d (.frz o (.dK a)))
theorem Nv{e:cT}{r t:abE}{td:TE}(y:PE X e td)(f:abk e "items" X.env (pk e X.env)=pk e X.env:=by rfl)(g:(r.endLine==t.line)=true:=by rfl):
  PI X (.Tuple Zw x1 tp) (.Call (.Attribute e "items" r) [] [] t) (LI td):=by
 intro l s σ H R I h;refine acf f g (cu (y l s σ H _ I h) λv a A=>?_);obtain⟨x,m,n,B,d,c,ex,hd,q⟩:=A;subst ex;obtain rfl:v=YG d:=B;obtain⟨z,u,k,i,dd⟩:=IM n.hok hd;obtain⟨h1,h2⟩:=vI (T:="dict") n (x:=.ref d) rfl (.inr (.inr (.inl ⟨rfl,.inl ⟨c,hd⟩⟩)));refine⟨"dict","dict.items",aaQ,adq,afv,h1,h2,aaV rfl (ac0 ?_)⟩;refine acH adq h1 PySem.F.entry_dict_items (PySem.F.args_dict_items_1 _) (meets_dict_items (aY X.prog X.w) d u) ⟨⟨k,dd⟩,?_⟩;have j:(a.heap.push {cls:=.type "dict_items",data:=.fields #[.ref d]}).DictOf (aY X.prog X.w) d k:=dd.push _;obtain⟨o,C,D,ho,rr⟩:=id j;have w:∀h:YT,h.get? d=Ya o->h.DictAt (aY X.prog X.w) d k D:=λh E=>⟨o,C,E,rr⟩;have F:aM X l σ m {a with heap:=a.heap.push {cls:=.type "dict_items",data:=.fields #[.ref d]}}:=n.kept (t':=a.toks) λb ob e=>Yh _ e;have G:(a.heap.push {cls:=.type "dict_items",data:=.fields #[.ref d]}).IsItemsView a.heap.objs.size d:=⟨_,Yv _ rfl,rfl,rfl⟩;show Yq _ _ (adt (.ref a.heap.objs.size)) _ _ _;refine wpAny_pyIter_items G (w _ ho) ?_;have p:aM X l σ (upd m d (.frz o (.dK c))) {a with heap:=a.heap.push {cls:=.type "dict_items",data:=.fields #[.ref d]}}:=
  F.write (t':=a.toks) (x:=d) (e:=d) (by rw[hd];trivial) (.inl rfl) (λ_ _ _ e=>e) ⟨o,ho⟩ ⟨ho,z,u,k,i,j⟩
 refine⟨_,[_],_,TQ d o c,upd m d (.frz o (.dK c)),rfl,p.kept (t':=a.toks) λb ob e=>Yh _ e,Gy i w,⟨.none,.none,Yv _ rfl⟩,λb J=>?_,q o⟩;have K:b=(a.heap.push {cls:=.type "dict_items",data:=.fields #[.ref d]}).objs.size:=by simpa using J
 subst K;exact p.fpOk (Yl _) (p.hok.fresh (Yl _))
end
end L2
namespace GX
open PySem PyProof.Rows
variable{xs:Array Nat}{i j sl p n ep c:Nat}{t t':ab5}{h:YT}{b:Bool}{x first:Yd}{prog:YZ}{w:Y6}{A:xw}{E Q1:Yd->Ym->Prop}{s:Ym}{a I tp:Ye}{S:Int->Bool}{es Zk:Array (Int×Yd)}{Q:Option Yd->Ym->Prop}{k:Int}{R:ack->Ym->Prop}{ns:List Int}{M:ai8}{o:uc}{ps:List Nat}
def Jd(xs:Array Nat):Prop:=xs.toList.Pairwise (·<·)
theorem Jd.at(h:Jd xs)(b:i<j)(a:j<xs.size):xs.getD i 0<xs.getD j 0:=by
 have:=tq.mp h i j (by simp;omega) (by simpa using a) b;simp only[acT]at this;rw[YE,YE,YI (by omega),YI a];exact this
theorem Eg(h:i<xs.size)(a b:Nat):xs.getD i a=xs.getD i b:=by
 rw[YE,YE,YI h];rfl
theorem zN{xs:Array Nat}(d:Jd xs)(j:Nat):∀(a lo b:Nat),lo<=b->b<=xs.size->b-lo<=a->(∀i,i<lo->xs.getD i 0<j)->(∀i,b<=i->i<xs.size->j<=xs.getD i 0)->
  abB xs j a lo b<=xs.size/\(∀i,i<abB xs j a lo b->xs.getD i 0<j)/\(∀i,abB xs j a lo b<=i->i<xs.size->j<=xs.getD i 0)
 |0,lo,b,h1,h2,h3,h4,h5=>by
  have e:lo=b:=by omega
  subst e;unfold abB;exact⟨h2,h4,h5⟩
 |a+ 1,lo,b,h1,h2,h3,h4,h5=>by
  unfold abB;by_cases h:lo<b
  ·rw[if_pos h];have hm:(lo+ b) / 2<xs.size:=by omega
   show(if xs.getD ((lo+ b) / 2) j<j then abB xs j a ((lo+ b) / 2+ 1) b else abB xs j a lo ((lo+ b) / 2))<=_/\_;by_cases c:xs.getD ((lo+ b) / 2) j<j
   ·simp only[if_pos c];rw[Eg hm j 0]at c;refine zN d j a _ b (by omega) h2 (by omega) (λi f=>?_) h5;rcases abx i ((lo+ b) / 2)with z|z
    ·have:=d.at z hm;omega
    ·have:i=(lo+ b) / 2:=by omega
     rw[this];exact c
   ·simp only[if_neg c];rw[Eg hm j 0]at c;refine zN d j a lo _ (by omega) (by omega) (by omega) h4 (λi f hs=>?_);rcases abx ((lo+ b) / 2) i with z|z
    ·have:=d.at z hs;omega
    ·have:i=(lo+ b) / 2:=by omega
     rw[this];omega
  ·rw[if_neg h];have e:lo=b:=by omega
   subst e;exact⟨h2,h4,h5⟩
theorem uU(a:Jd xs)(j:Nat):cb xs j<=xs.size/\(∀i,i<cb xs j->xs.getD i 0<j)/\(∀i,cb xs j<=i->i<xs.size->j<=xs.getD i 0):=by
 unfold cb;exact zN a j _ 0 _ (Y9 _) (Yl _) (by omega) (λi h=>by omega) (λi h1 h2=>by omega)
theorem FO(a:Jd xs)(b:i<xs.size):cb xs (xs.getD i 0+ 1)=i+ 1:=by
 obtain⟨h1,h2,h3⟩:=uU a (xs.getD i 0+ 1);rcases aeR (cb xs (xs.getD i 0+ 1)) (i+ 1)with z|z|z
 ·have:=h3 i (by omega) b;omega
 ·exact z
 ·have q:=h2 (i+ 1) z;have:=a.at (i:=i) (j:=i+ 1) (by omega) (by omega);omega
theorem Gq(a:Jd xs):cb xs 0=0:=by
 obtain⟨h1,h2,h3⟩:=uU a 0;rcases Nat.eq_zero_or_pos (cb xs 0)with z|z
 ·exact z
 ·have:=h2 0 z;omega
def Off(xs:Array Nat)(d:Nat):Prop:=xs[cb xs d]?≠Ya d
theorem Off.no(b:Jd xs){d:Nat}(h:Off xs d):∀i,i<xs.size->xs.getD i 0≠d:=by
 intro i a e;obtain⟨h1,h2,h3⟩:=uU b d;have f:cb xs d<=i:=by
  rcases abx i (cb xs d)with z|z
  ·have:=h2 i z;omega
  ·exact z
 have c:cb xs d=i:=by
  rcases abx (cb xs d) i with z|z
  ·have:=b.at z a;have:=h3 (cb xs d) (Yl _) (by omega);omega
  ·omega
 apply h;rw[c,YI a];rw[YE,YI a]at e;exact congrArg Ya e
theorem yC(h:∀i,t.slot j≠.live i):Off t.place j:=by
 intro z;apply h (cb t.place j);unfold ai2;simp only[z,beq_self_eq_true,if_true]
theorem vd(t:ab5)(p:ab1):(t.advance p).dummy=p.dummy:=by
 unfold adK;split<;>rfl
theorem vp{t:ab5}{f:Nat->Int}{h:Int}:∀(a:Nat) (p:ab1) (j:Nat) (dm:Option Nat),(∀d,p.dummy=Ya d->Off t.place d)->abC t f h a p=Ya (.empty j dm)->Off t.place j/\∀d,dm=Ya d->Off t.place d
 |0,p,j,dm,hp,e=>by
  unfold abC at e;cases e
 |a+ 1,p,j,dm,hp,e=>by
  unfold abC at e;cases hs:t.slot p.j with
  |empty=>
   rw[hs]at e;dsimp only at e;cases e;exact⟨yC (λi z=>by rw[hs]at z;cases z),hp⟩
  |dummy=>
   rw[hs]at e;dsimp only at e;refine vp a _ j dm (λd hd=>?_) e;rw[vd]at hd;cases hd;exact yC (λi z=>by rw[hs]at z;cases z)
  |live i=>
   rw[hs]at e;dsimp only at e;split at e
   ·cases e
   ·exact vp a _ j dm (λd hd=>hp d (by rw[vd]at hd;exact hd)) e
theorem NR{h:Int}(e:t.freeSlot h=Ya (sl,b)):Off t.place sl:=by
 unfold SetTable.freeSlot SetTable.probe at e;generalize hg:abC t (λ_=>h+ 1) h (10*aas t.mask) (t.probeStart h)=g at e;cases g with
 |none=>cases e
 |some m=>
  cases m with
  |candidate j i n=>cases e
  |empty j dm=>
   obtain⟨h1,h2⟩:=vp _ _ j dm (λd hd=>by cases hd) hg;dsimp only at e;have a:=YK e;cases dm with
   |none=>
    have:j=sl:=congrArg ahP a;rw[←this];exact h1
   |some d=>
    have:d=sl:=congrArg ahP a;rw[←this];exact h2 d rfl
theorem NV{x:Nat}(h:x∈xs.toList.take p):∃i,i<p/\i<xs.size/\xs.getD i 0=x:=by
 obtain⟨i,a,e⟩:=aca h;rw[xj,YO]at a;refine⟨i,by omega,by omega,?_⟩;rw[List.getElem_take,acT]at e;rw[YE,YI (by omega)];exact e
theorem Am{x:Nat}(h:x∈xs.toList.drop p):∃i,p<=i/\i<xs.size/\xs.getD i 0=x:=by
 obtain⟨i,a,e⟩:=aca h;rw[ab3,YO]at a;refine⟨p+ i,by omega,by omega,?_⟩;rw[List.getElem_drop,acT]at e;rw[YE,YI (by omega)];exact e
theorem HG(d:Jd t.place)(ho:Off t.place sl):Jd (t.put sl).1.place:=by
 obtain⟨h1,h2,h3⟩:=uU d sl;show(acA t.place (cb t.place sl) sl).toList.Pairwise (·<·);rw[SetTable.toList_insertAt,ad1];refine⟨d.sublist (acy _ _),?_,?_⟩
 ·rw[adb];refine⟨λx e=>?_,d.sublist (List.drop_sublist _ _)⟩;obtain⟨i,a,b,c⟩:=Am e;have f:=h3 i a b;have g:=ho.no d i b;omega
 ·intro x e y h;obtain⟨i,a,b,c⟩:=NV e;have f:=h2 i a;rcases Yn.mp h with z|z
  ·omega
  ·obtain⟨j,k,l,m⟩:=Am z;have g:=h3 j k l;omega
theorem qU(t:ab5)(n:Nat):Jd (t.standIn n).place:=by
 show(Array.range n).toList.Pairwise (·<·);rw[Array.toList_range];exact acr
def Tb(b:Bool)(t:ab5):Prop:=Jd t.place/\t.led=b
theorem UE(h:Tb b t)(es:Array (Int×Yd))(k:Int)(x:Yd):Tb b (layNew t es k x).2.1:=by
 unfold layNew;split
 ·rename_i a wd e;dsimp only;unfold SetTable.orStandIn;split
  ·exact⟨HG h.1 (NR e),h.2⟩
  ·exact⟨qU _ _,h.2⟩
 ·exact⟨qU _ _,h.2⟩
theorem AL{hs:Array Int}{o:Array Nat}(h:Tb b t)(e:t.relaid hs n=Ya (t',o)):Tb b t':=by
 unfold afF agQ at e;cases d:aeS (aar n-1) hs with
 |none=>rw[d]at e;cases e
 |some ow=>
  rw[d]at e;have i:=YK e;have g:=congrArg ahP i;dsimp only at g;rw[←g];refine⟨?_,h.2⟩;show List.Pairwise _ (ag1 (aan _));rw[aeb,ag7];refine ajq (R:=(·<·)) _ (λx y f a ha c d=>?_) acr;simp only[af9,Option.mem_def,aaF]at ha d;obtain⟨_,_,rfl⟩:=ha;obtain⟨_,_,rfl⟩:=d;exact f
theorem MF(h:Tb b t)(es:Array (Int×Yd))(n:Nat):Tb b (ahQ t es n).2.1:=by
 unfold ahQ;split
 ·rename_i a o e;dsimp only;split
  ·exact AL h e
  ·exact⟨qU _ _,h.2⟩
 ·exact⟨qU _ _,h.2⟩
noncomputable abbrev FJ(w:Y6):Bool:=w.params.followText "set-order"
section
def ti(prog:YZ)(w:Y6)(h:YT)(a:Ye)(S:Int->Bool)(n:Nat):Prop:=
 ∃o b c t,h.get? a=Ya o/\o.ExactSet/\o.data=.set b c t/\ajD (abf prog w) b.toList/\(∀k,S k=true↔∃e∈b.toList,(abf prog w).is k e.2=true)/\b.size<abG/\t.fits b.size=true/\b.size=n/\Tb (!FJ w) t
theorem ti.at{h':YT}(x:ti prog w h a S n)(k:∀o,h.get? a=Ya o->h'.get? a=Ya o):ti prog w h' a S n:=by
 obtain⟨o,b,c,t,ho,r⟩:=x;exact⟨o,b,c,t,k o ho,r⟩
theorem ti.congr{b:Int->Bool}{c:Nat}(x:ti prog w h a S n)(e:∀k,S k=b k)(d:n=c):ti prog w h a b c:=by
 have z:S=b:=funext e;rw[←z,←d];exact x
def p6(prog:YZ)(w:Y6)(es:Array (Int×Yd))(t:ab5)(S:Int->Bool)(n:Nat):Prop:=
 ajD (abf prog w) es.toList/\(∀k,S k=true↔∃e∈es.toList,(abf prog w).is k e.2=true)/\es.size<abG/\t.fits es.size=true/\es.size=n/\Tb (!FJ w) t
def qY(h:YT)(a:Ye)(es:Array (Int×Yd))(t:ab5):Prop:=∃o b,h.get? a=Ya o/\o.ExactSet/\o.data=.set es b t
theorem qY.good(r:qY h a es t)(g:p6 prog w es t S n):ti prog w h a S n:=by
 obtain⟨o,b,c,d,e⟩:=r;exact⟨o,es,b,t,c,d,e,g⟩
theorem qY.put{Q:Unit->Ym->Prop}(r:qY s.heap a es t)(hz:Zk.size<abG)(h:∀h',aab a s.heap h'->qY h' a Zk t'->Q () {s with heap:=h'}):
  Yq (Yt prog w) A (aje a Zk t') Q E s:=by
 obtain⟨⟨c,d,b,g⟩,e,ho,f,hd⟩:=r;cases hd;exact wpAny_storeSet_of ho rfl (h _ (aay ..) ⟨_,e+ 1,aaz _ ho rfl,f,rfl⟩) (aeT hz)
theorem p6.mix(g:p6 prog w es t S n)(p:ajN Zk.toList es.toList)(f:t'.fits Zk.size=true)(b:Tb (!FJ w) t'):p6 prog w Zk t' S n:=by
 obtain⟨a,c,d,_,h,_⟩:=g;have z:Zk.size=es.size:=by simpa using p.length_eq
 exact⟨a.perm p,λk=>(c k).trans ⟨fun⟨e,u,v⟩=>⟨e,p.mem_iff.mpr u,v⟩,fun⟨e,u,v⟩=>⟨e,p.mem_iff.mp u,v⟩⟩,z▸d,f,z.trans h,b⟩
theorem p6.relaid(g:p6 prog w es t S n)(m:Nat):p6 prog w (ahQ t es m).1 (ahQ t es m).2.1 S n:=
 g.mix (relayAll_perm t es m) (relayAll_fits t es m) (MF g.2.2.2.2.2 es m)
theorem p6.more(g:p6 prog w es t S n)(hk:(abf prog w).is k x=true)(c:x.scannable=true)(a:n+ 1<abG):
  p6 prog w (layNew t es ((abf prog w).hash k) x).1 (layNew t es ((abf prog w).hash k) x).2.1 (λb=>S b||decide (b=k)) (n+ 1):=by
 obtain⟨d,e,i,_,f,h⟩:=g;have p:ajN _ (es.push ((abf prog w).hash k,x)).toList:=layNew_perm t es ((abf prog w).hash k) x;rw[acB]at p;have z:(layNew t es ((abf prog w).hash k) x).1.size=n+ 1:=by simpa [f]using p.length_eq
 exact⟨(d.push hk c).perm p,mem_push_iff hk e p,z▸a,layNew_fits t es _ x,z,UE h es _ x⟩
theorem Ey{Q:Unit->Ym->Prop}(q:Q () s):Yq (Yt prog w) A (match b with|true=>rule "set.scan.the-table-gave-way"|false=>pure ()) Q E s:=by
 cases b
 ·exact Yp q
 ·exact agA q
theorem PU{u:ac2}{Q:Bool->Ym->Prop}(x:ti prog w s.heap a S n)(d:n+ 1<abG)(h:∀h' b,aab a s.heap h'->ti prog w h' a (λc=>S c||decide (c=k)) (if S k then n else n+ 1)->Q b {s with heap:=h'}):
  Yq (Yt prog w) A (afi a (.int k u) ((abf prog w).hash k)) Q E s:=by
 obtain⟨o,l,p,t,ho,q,hd,g⟩:=x;have r:p6 prog w l t S n:=g;obtain⟨y,hm,H,B,hn,K⟩:=g;have C:(abf prog w).is k (.int k u)=true:=intKind_is _ _ _ _;rw[afi,aiJ];apply aau;apply Yf;apply aaf ho hd B;dsimp only;rw[byScan_of rfl H y,if_pos rfl]
 wp_walk using wpAny_setScan_of C ho hd B y
 cases hr:List.findIdx? (λe=>(abf prog w).is k e.2) l.toList with
 |some j=>
  obtain⟨lt,is,_⟩:=List.findIdx?_eq_some_iff_getElem.mp hr;have f:S k=true:=(hm k).mpr ⟨_,aa5 lt,is⟩
  wp_walk
  refine h s.heap false (.refl a _) (qY.good ⟨o,p,ho,q,hd⟩ ?_);rw[if_pos f,show(λc=>S c||decide (c=k))=S from funext λc=>?_]
  ·exact r
  ·by_cases e:c=k
   ·rw[e,f];rfl
   ·rw[decide_eq_false e,agO]
 |none=>
  have f:¬ S k=true:=λz=>by
   obtain⟨e,u,v⟩:=(hm k).mp z;exact absurd v (by simpa using List.findIdx?_eq_none_iff.mp hr e u)
  have i:=r.more C rfl d;rw[if_neg f]at h;dsimp only;generalize layNew t l ((abf prog w).hash k) (.int k u)=L at i⊢;obtain⟨m,M,wd,N⟩:=L;refine Yf (Ey ?_);dsimp only;rw[hashByValue_scannable 8 (x:=.int k u) rfl];split
  all_goals
   refine Yf (Yp ?_);rw[if_pos (by rfl)];refine Yf (qY.put ⟨o,p,ho,q,hd⟩ i.2.2.1 λh1 D F=>?_);split
   ·have G:=i.relaid (adm m.size);refine Yf (Ey (Yf (qY.put (s:={s with heap:=h1}) F G.2.2.1 λh2 I J=>?_)))
    wp_walk
    exact h h2 true (D.trans I) (J.good G)
   ·wp_walk
    exact h h1 true D (F.good i)
theorem uf(S I:Ye):aiF prog w (aaa.«set.update.loop» ⟨[.ref S,.ref I],[]⟩) λA R s=>Yq (Yt prog w) A.in1 (aaL (.ref I)) (λr s=>match r with
  |none=>R (.ok (.ret .none)) s
  |some v=>Yq (Yt prog w) A.in1 (aio S v) (λ_ s=>Rk (Yt prog w) A (.builtin "set.update.loop" ⟨[.ref S,.ref I],[]⟩) R s) (λ_ _=>False) s) (λ_ _=>False) s:=by
 intro A R s nx;show Yq _ _ (aaL (.ref I) >>= _) _ _ s;apply Yf;refine xi nx (λr a h=>?_) λ_ _ z=>z.elim;rcases r with _|v
 ·wp_walk
  exact h
 ·wp_walk using xi h
  ·exact λ_ _ e=>Yp ⟨abF aaE _,e⟩
  ·exact λ_ _ z=>z.elim
theorem Mh{S:Ye}{fp f:List Ye}{P:Nat->Yd->Prop}{St:Nat->YT->Prop}(W:aeY prog w A.in1 I fp f n P St)(l:S∉fp)(val:Nat->Int)(u:∀i v,P i v->∃t,v=.int (val i) t)(m:n+ 1<abG):
  ∀(k i:Nat) (s:Ym),n=i+ k->St i s.heap->ti prog w s.heap S (λc=>(acs val i).any (·==c)) (acs val i).length->
   (∀h' tk,(∀b o,b∉f->b≠S->s.heap.get? b=Ya o->h'.get? b=Ya o)->ti prog w h' S (λc=>(acs val n).any (·==c)) (acs val n).length->R (.ok (.ret .none)) {s with heap:=h',toks:=tk})->
   Rk (Yt prog w) A (.builtin "set.update.loop" ⟨[.ref S,.ref I],[]⟩) R s:=by
 have p:S∉f:=λz=>l (W.sub _ z);intro k
 induction k with
 |zero=>
  intro i s q st x fin;obtain rfl:n=i:=q;exact enter aa6 aaE (uf S I) (W.done s _ _ st λh tk kp=>fin h tk (λb o d _ e=>kp b o d e) (x.at λo e=>kp S o p e))
 |succ k ih=>
  intro i s q st x fin;refine enter aa6 aaE (uf S I) (W.item i s _ _ (by omega) st λv h tk pv g kp=>?_);obtain⟨t,rfl⟩:=u i v pv;have len:=firstMet_length_le val i;show Yq _ _ (aio S (.int (val i) t)) _ _ _;unfold aio;refine aau (Yf ((abf prog w).pyHash (k:=val i) (intKind_is _ _ _ _) (PU (s:={s with heap:=h,toks:=tk+ 1}) (x.at λo e=>kp S o p e) (by omega) λh2 b r y=>?_)));refine ih (i+ 1) {s with heap:=h2,toks:=tk+ 1} (by omega) (W.frame _ _ _ g λb m o e=>(r.2 b λz=>l (z▸m)).trans e) (y.congr (λc=>?_) ?_) λh3 j B C=>fin h3 j (λb o d a e=>B b o d a ((r.2 b a).trans (kp b o d e))) C
  ·rw[agR,step_any]
  ·rw[agR,step_length]
theorem IG(a:Yd)(h:Q1 (.ref s.heap.objs.size) {s with heap:=s.heap.push {cls:=.type "set",dict:=Yb,data:=.set #[] 0 (.fresh 0 0 (!FJ w))}}):
  Rk (Yt prog w) A (.call (.builtin "set.__new__") ⟨[.type "set",a],[]⟩) (ai9 Q1 E) s:=by
 refine aaS PySem.F.plain_set_new PySem.F.entry_set_new (ahC (PySem.F.newCall_set_1 a) ?_);have sub:=sub_set_self;obtain⟨hp,g,d,tk,os⟩:=s
 wp_walk using ab6
 exact h
theorem wV{T d e:String}{a:List Yd}{Q:Yd->Ym->Prop}(ft:TypeCalled T d e)(ct:checkTypeCall T ⟨a,[]⟩=pure ())(new:Rk (Yt prog w) A.in1 (.call (.builtin d) ⟨.type T::a,[]⟩) (ai9 Q1 E) s)(init:∀v b,Q1 v b->b.TypeIs v T/\Rk (Yt prog w) A.in1 (.call (.builtin e) ⟨v::a,[]⟩) (ai9 (λr f=>r=.none/\Q v f) E) b):Yq (Yt prog w) A (call (.type T) a) Q E s:=by
 obtain⟨_,_,_⟩:=ft.mro;have:=ft.notType;have:=ft.canCreate;have:=ft.made;have:=ft.sub;refine adX (aip (Yp ⟨aex _ (by decide +kernel),afE PySem.F.entry_type_call ?_⟩));rw[Around.under_plain (weight_type_call_type T a []) rfl]
 repeat' first|assumption|wp_step
 refine codeAny_mono new λr b h=>?_
 match r,h with
 | .error _,h=>exact h
 | .ok (.ret v),h=>
  obtain⟨ty,c⟩:=init v b h;have:=ft.init.lookup;have:=ft.init.bind v
  repeat' first|assumption|wp_step
  refine codeAny_mono c λr f h=>?_
  match r,h with
  | .error _,h=>exact h
  | .ok (.ret _),h=>
   obtain⟨rfl,_⟩:=h
   repeat' first|assumption|wp_step
end
theorem cG:ajd "set_iterator" "__next__" "set_iterator.__next__":=
 .of (owner:="set_iterator") (n:="__next__") (by rw[aiq,aga];kernel_rfl) (by decide +kernel) (by decide +kernel) (by decide +kernel) (by first|exact .inl (by decide +kernel)|exact .inr (by decide +kernel)) (by rw[acJ];kernel_rfl)
theorem j4:acq aep "set_iterator.__next__"=Ya aaa.«set_iterator.__next__»:=ahM (by kernel_rfl)
theorem j9(a:Yd):ab4 "set_iterator.__next__" ⟨[a],[]⟩:=by unfold ab4;kernel_rfl
theorem wo:ajd "set_iterator" "__iter__" "set_iterator.__iter__":=
 .of (owner:="set_iterator") (n:="__iter__") (by rw[aiq,aga];kernel_rfl) (by decide +kernel) (by decide +kernel) (by decide +kernel) (by first|exact .inl (by decide +kernel)|exact .inr (by decide +kernel)) (by rw[acJ];kernel_rfl)
theorem EO:acq aep "set_iterator.__iter__"=Ya aaa.«dict_keyiterator.__iter__»:=aiK (id':="dict_keyiterator.__iter__") (by kernel_rfl) rfl (by decide +kernel) (by kernel_rfl)
theorem Fl(a:Yd):ab4 "set_iterator.__iter__" ⟨[a],[]⟩:=by unfold ab4;kernel_rfl
theorem Dz:acq aep "set.__iter__"=Ya aaa.«frozenset.__iter__»:=aiK (id':="frozenset.__iter__") (by kernel_rfl) rfl (by decide +kernel) (by kernel_rfl)
noncomputable abbrev tQ(w:Y6)(h:YT):YT:=h.push {cls:=.type "set",dict:=Yb,data:=.set #[] 0 (.fresh 0 0 (!FJ w))}
section
theorem Fs{l:Ye}{items:Array Yd}{Q:Yd->Ym->Prop}(t:A.handled=Yb)(hl:s.heap.IsList l items)(u:RW items.toList ns)(y:items.size+ 1<abG)(h:∀h' tk,ti prog w h' s.heap.objs.size (λB=>(acs (λi=>ns.getD i 0) items.size).any (·==B)) (acs (λi=>ns.getD i 0) items.size).length->(∀b o,s.heap.get? b=Ya o->h'.get? b=Ya o)->Q (.ref s.heap.objs.size) {s with heap:=h',toks:=tk}):
  Yq (Yt prog w) A (call (.type "set") [.ref l]) Q E s:=by
 obtain⟨⟨I,od,C,g⟩,d,j,p,m⟩:=id hl;cases j;cases m;have q:l<s.heap.objs.size:=Yw d;refine wV adf (afT _) (IG (.ref l) (Q1:=λv D=>v=.ref s.heap.objs.size/\D={s with heap:=tQ w s.heap}) ⟨rfl,rfl⟩) ?_;rintro _ _ ⟨rfl,rfl⟩;have new:(tQ w s.heap).get? s.heap.objs.size=Ya {cls:=.type "set",dict:=Yb,data:=.set #[] 0 (.fresh 0 0 (!FJ w))}:=Yv _ rfl;have f:(tQ w s.heap).get? l=Ya {cls:=.type "list",dict:=od,data:=.seq items p,slots:=g}:=Yh _ d;have a:(tQ w s.heap).objs.size=s.heap.objs.size+ 1:=aaU ..;have ty:GV {s with heap:=tQ w s.heap} (.ref s.heap.objs.size) "set":=⟨_,new,rfl⟩;refine⟨ty,aaS adf.init.plain afU (ahR ty ?_)⟩;have:=agB;have:=aeC;have nd:(aaD "list"==aaD "dict")=false:=by decide
 have c:∀b o,s.heap.get? b=Ya o->(tQ w s.heap).get? b=Ya o:=λb o e=>Yh _ e;generalize tQ w s.heap=h1 at new f a ty c⊢;have r:h1.IsList l items:=⟨_,f,rfl,p,rfl⟩
 wp_walk using aaY r
 have F:s.heap.objs.size∉[h1.objs.size,l]:=by
  rw[a];intro z;rcases Yn.mp z with z|z
  ·exact absurd z (YL (aa2 _))
  ·exact abu q (Yi.mp z)
 refine Mh (adl (by simpa using t) _ l (by rw[a];exact YL (aba q)) items) F (λi=>ns.getD i 0) (λi v G=>IntsAre.int_at u i v (by rw[vc];exact G)) y items.size 0 _ (by omega)
  ⟨⟨_,Yv _ rfl,rfl,rfl⟩,r.push _⟩ ⟨_,#[],0,_,Yh _ new,⟨rfl,rfl,rfl⟩,rfl,λe H=>by simp at H,λk=>by simp[firstMet_zero],by decide,by rfl,rfl,⟨aeQ,rfl⟩⟩ λh2 tk kp x=>?_
 wp_walk
 refine⟨rfl,h h2 tk x λb o e=>?_⟩;have n:=Yw e;refine kp b o (λz=>?_) (YL n) (Yh _ (c b o e));rw[Yi.mp z,a]at n;exact absurd n (aeZ.mpr (aaP _))
end
section
theorem sr{α:Type}:∀{xs:List α} {i:Nat} (h:i<xs.length),(xs[i]::xs.eraseIdx i).Perm xs
 |x::xs,0,_=>.refl _
 |x::xs,i+ 1,h=>(agb x (xs[i]'(afV h)) _).trans ((sr (xs:=xs) (i:=i) (afV h)).cons x)
theorem Jp{a:Source}{Q:Nat->Ym->Prop}(hn:n≠0)(h:∀i d,i<n->Q i {s with drawn:=d}):Yq M A (choose a n) Q E s:=fun Γ p _=>by
 unfold choose;rw[Sem.wp_choose];exact⟨hn,h _ _ (adn _ (Nat.pos_of_ne_zero hn))⟩
theorem HE{α:Type}{M:ai8}:∀(n:Nat) (xs:List α) (s:Ym) (Q:List α->Ym->Prop),xs.length=n->(∀ys d,ys.Perm xs->Q ys {s with drawn:=d})->Yq M A (aiT n xs) Q E s
 |0,xs,s,Q,hl,h=>by
  have e:xs=[]:=aaH hl;subst e;unfold aiT;exact Yp (h [] s.drawn .nil)
 |n+ 1,[],s,Q,hl,h=>by cases hl
 |n+ 1,x::xs,s,Q,hl,h=>by
  unfold aiT;refine Yf (Jp (by simp) λi d a=>?_);rw[Yk a];dsimp only;refine Yf (HE n _ _ _ (by rw[aeD a,hl];rfl) λys b c=>?_);exact Yp (h _ b ((c.cons _).trans (sr a)))
theorem IH{α:Type}(f:Nat->Nat):∀(n k:Nat) (xs:List α) (out:Array α),xs.length=n->(pickOrder.go f n k xs out).toList.Perm (out.toList++xs)
 |0,k,xs,out,hl=>by
  have e:xs=[]:=aaH hl;subst e;unfold pickOrder.go;rw[sq]
 |n+ 1,k,xs,out,hl=>by
  unfold pickOrder.go;have a:f k%xs.length<xs.length:=adn _ (by omega);rw[Yk a];dsimp only;refine(IH f n (k+ 1) _ _ (by rw[aeD a,hl];rfl)).trans ?_;rw[acB,abc];exact ajE _ (sr a)
theorem Kl{α:Type}(f:Nat->Nat)(xs:Array α):(adP f xs).toList.Perm xs.toList:=by
 have:=IH f xs.size 0 xs.toList #[] (by simp);simpa [adP]using this
end
section
noncomputable def xx(first:Yd)(i:Nat)(a:Ye)(n ep:Nat):uc:={cls:=.type "set_iterator",dict:=Yb,data:=.fields #[first,.int i 0,.ref a,.int n 0,.int ep 0],slots:=#[]}
theorem sX(h:YT)(b:h.get? I=Ya (xx first i a n ep))(k:Nat)(x:Yd):(h.update I (adC (·.setIfInBounds k x))).get? I=Ya {cls:=.type "set_iterator",dict:=Yb,data:=.fields ((#[first,.int i 0,.ref a,.int n 0,.int ep 0]:Array Yd).setIfInBounds k x),slots:=#[]}:=
 aaz _ b rfl
theorem eM(b:s.heap.get? I=Ya (xx first i a es.size ep)):s.TypeIs (.ref I) "set_iterator":=⟨_,b,rfl⟩
theorem ur{c:Int}{nx:Nat}(b:s.heap.get? I=Ya (xx (.int c 0) i a es.size ep))(ho:s.heap.get? a=Ya o)(hd:o.data=.set es ep t)(e:t.fits es.size=true)(hn:∀(A:xw) (E:Yd->Ym->Prop) (d:Option (Yd×Nat)->Ym->Prop),d (Ya (x,nx)) s->Yq (Yt prog w) A (aek a c.toNat i ep) d E s)(h:∀h',h'.get? I=Ya (xx (.int nx 0) (i+ 1) a es.size ep)->aab I s.heap h'->Q (Ya x) {s with heap:=h'}):Yq (Yt prog w) A (aaL (.ref I)) Q E s:=by
 unfold aaL;refine Yf (adD (acg (name:=aam "__next__") (eM b) cG (abL cG (eM b) j4 ?_ (j9 _))));unfold aaa.«set_iterator.__next__»;refine Yf (Yp (Yf (ael b rfl ?_)));show Yq _ _ (agC a >>= _) _ _ _;refine Yf (acb ho hd e ?_);show Yq _ _ (if(((es.size:Nat):Int) !=((es.size:Nat):Int))=true then _ else _) _ _ _;rw[if_neg (by simp)];show Yq _ _ (aek a c.toNat ((i:Int)).toNat ((ep:Int)).toNat >>= _) _ _ _;rw[YQ,YQ];refine Yf (hn _ _ _ ?_);show Yq _ _ (agD (.ref I) 0 (aa9 nx) >>= _) _ _ _;refine Yf (acK b rfl (by simp) ?_);have h1:=sX s.heap b 0 (aa9 nx);refine Yf (acK (s:={s with heap:=s.heap.update I (adC (·.setIfInBounds 0 (aa9 nx)))}) h1 rfl (by simp) ?_);refine Yp ⟨_,rfl,Yp (h _ ?_ ((aay ..).trans (aay ..)))⟩;exact aaz _ h1 rfl
theorem Ft{Q:aea->Ym->Prop}(c:A.handled=Yb)(h:∀h' e,(∀b o,s.heap.get? b=Ya o->h'.get? b=Ya o)->(∃o,h'.get? e=Ya o/\o.cls=.type "StopIteration")->E (.ref e) {s with heap:=h'}):
  Yq M A (newExc (.type "StopIteration") [] >>= λe=>ahS e) Q E s:=by
 refine Yf ?_;simp only[newExc,newTuple];refine Yf (abX ?_ (by size_fits));refine Yf (m:=aiL _ _) (ahC (a:=aao) (by first|rfl|(simp only[aiL];rfl)) ?_);refine abX ?_ (by size_fits);refine agW c (h _ _ (λb o e=>Yh _ (Yh _ e)) ⟨_,Yv _ rfl,rfl⟩)
theorem tT{d:Int}(g:A.handled=Yb)(c:s.heap.get? I=Ya (xx (.int d 0) i a es.size ep))(ho:s.heap.get? a=Ya o)(hd:o.data=.set es ep t)(j:t.fits es.size=true)(hn:∀(A:xw) (E:Yd->Ym->Prop) (f:Option (Yd×Nat)->Ym->Prop),f Yb s->Yq (Yt prog w) A (aek a d.toNat i ep) f E s)(h:∀h',(∀b o,b≠I->s.heap.get? b=Ya o->h'.get? b=Ya o)->Q Yb {s with heap:=h'}):Yq (Yt prog w) A (aaL (.ref I)) Q E s:=by
 unfold aaL;refine Yf (adD (acg (name:=aam "__next__") (eM c) cG (abL cG (eM c) j4 ?_ (j9 _))));unfold aaa.«set_iterator.__next__»;refine Yf (Yp (Yf (ael c rfl ?_)));show Yq _ _ (agC a >>= _) _ _ _;refine Yf (acb ho hd j ?_);show Yq _ _ (if(((es.size:Nat):Int) !=((es.size:Nat):Int))=true then _ else _) _ _ _;rw[if_neg (by simp)];show Yq _ _ (aek a d.toNat ((i:Int)).toNat ((ep:Int)).toNat >>= _) _ _ _;rw[YQ,YQ];refine Yf (hn _ _ _ ?_);show Yq _ _ (agD (.ref I) 2 .none >>= _) _ _ _;refine Yf (acK c rfl (by simp) ?_);refine Ft (A:=A.in1) g λh' e kp k=>?_;obtain⟨l,m,n⟩:=k;refine Yf (afj (T:="StopIteration") (b:=true) ⟨l,m,n⟩ aiM ?_);exact Yp (h h' λb ob p e=>kp b ob ((Gr _ _ (Ne.symm p)).trans e))
theorem BE{k:Nat}{hk:Int}(b:s.heap.get? I=Ya (xx (.ref tp) i a es.size ep))(ho:s.heap.get? a=Ya o)(hd:o.data=.set es ep t)(d:t.fits es.size=true)(e:s.heap.get? tp=Ya {cls:=.type "tuple",dict:=Yb,data:=.seq (ps.map fun(i:Nat)=>aa9 i).toArray c,slots:=#[]})(hp:ps[i]?=Ya k)(f:es[k]?=Ya (hk,x))(h:∀h',h'.get? I=Ya (xx (.ref tp) (i+ 1) a es.size ep)->aab I s.heap h'->Q (Ya x) {s with heap:=h'}):Yq (Yt prog w) A (aaL (.ref I)) Q E s:=by
 unfold aaL;refine Yf (adD (acg (name:=aam "__next__") (eM b) cG (abL cG (eM b) j4 ?_ (j9 _))));unfold aaa.«set_iterator.__next__»;refine Yf (Yp (Yf (ael b rfl ?_)));show Yq _ _ (agC a >>= _) _ _ _;refine Yf (acb ho hd d ?_);show Yq _ _ (if(((es.size:Nat):Int) !=((es.size:Nat):Int))=true then _ else _) _ _ _;rw[if_neg (by simp)];show Yq _ _ (ag5 (.ref tp) >>= _) _ _ _;refine Yf (acI e rfl ?_);have g:((ps.map fun(i:Nat)=>aa9 i).toArray)[((i:Nat):Int).toNat]?=Ya (.int k 0):=by
  rw[YQ,adQ,Yy,hp];rfl
 dsimp only;rw[g];show Yq _ _ (ajf a ((k:Nat):Int).toNat ((ep:Nat):Int).toNat >>= _) _ _ _;rw[YQ,YQ];unfold ajf;refine Yf (Yf (aaf ho hd d ?_));show Yq _ _ (if(ep !=ep)=true then _ else _) _ _ _;rw[if_neg (by simp)];refine Yf (Yp ?_);rw[f];refine Yp ?_;show Yq _ _ (agD (.ref I) 1 (aa9 ((i:Int)+ 1)) >>= _) _ _ _;refine Yf (acK b rfl (by simp) (Yp ⟨_,rfl,Yp (h _ ?_ (aay ..))⟩));exact sX s.heap b 1 (aa9 ((i:Int)+ 1))
theorem Cf(g:A.handled=Yb)(d:s.heap.get? I=Ya (xx (.ref tp) i a es.size ep))(ho:s.heap.get? a=Ya o)(hd:o.data=.set es ep t)(j:t.fits es.size=true)(k:s.heap.get? tp=Ya {cls:=.type "tuple",dict:=Yb,data:=.seq (ps.map fun(i:Nat)=>aa9 i).toArray c,slots:=#[]})(hp:ps[i]?=Yb)(h:∀h',(∀b o,b≠I->s.heap.get? b=Ya o->h'.get? b=Ya o)->Q Yb {s with heap:=h'}):Yq (Yt prog w) A (aaL (.ref I)) Q E s:=by
 unfold aaL;refine Yf (adD (acg (name:=aam "__next__") (eM d) cG (abL cG (eM d) j4 ?_ (j9 _))));unfold aaa.«set_iterator.__next__»;refine Yf (Yp (Yf (ael d rfl ?_)));show Yq _ _ (agC a >>= _) _ _ _;refine Yf (acb ho hd j ?_);show Yq _ _ (if(((es.size:Nat):Int) !=((es.size:Nat):Int))=true then _ else _) _ _ _;rw[if_neg (by simp)];show Yq _ _ (ag5 (.ref tp) >>= _) _ _ _;refine Yf (acI k rfl ?_);have l:((ps.map fun(i:Nat)=>aa9 i).toArray)[((i:Nat):Int).toNat]?=none:=by
  rw[YQ,adQ,Yy,hp];rfl
 dsimp only;rw[l];show Yq _ _ (agD (.ref I) 0 (aa9 0) >>= _) _ _ _;refine Yf (acK d rfl (by simp) ?_);have h1:=sX s.heap d 0 (aa9 0);refine Yf (acK (s:={s with heap:=s.heap.update I (adC (·.setIfInBounds 0 (aa9 0)))}) h1 rfl (by simp) ?_);refine Ft (A:=A.in1) g λh' e kp m=>?_;obtain⟨n,p,q⟩:=m;refine Yf (afj (T:="StopIteration") (b:=true) ⟨n,p,q⟩ aiM ?_);exact Yp (h h' λb ob f e=>kp b ob ((Gr _ _ (Ne.symm f)).trans ((Gr _ _ (Ne.symm f)).trans e)))
theorem AK{Q:Option (Yd×Nat)->Ym->Prop}(b:FJ w=true)(ho:s.heap.get? a=Ya o)(hd:o.data=.set es ep t)(c:t.fits es.size=true)(h:Q (((adP (w.params.setOrder a ep) es)[i]?).map λe=>(e.2,sl)) s):Yq (Yt prog w) A (aek a sl i ep) Q E s:=by
 have d:w.params.followText "set-order"=true:=b;unfold aek;refine Yf (aaf ho hd c (Yf (Yf (ab6 (Yp ?_)))));show Yq _ _ (if w.params.followText "set-order"=true then _ else _) _ _ _;rw[d,if_pos rfl];show Yq _ _ (if(ep !=ep)=true then _ else _) _ _ _;rw[if_neg (by simp)];refine Yf ?_;unfold setWalk;refine Yf (aaf ho hd c (Yf (Yf (ab6 (Yp ?_)))));show Yq _ _ (if w.params.followText "set-order"=true then _ else _) _ _ _;rw[d,if_pos rfl];exact Yf (ab6 (Yp (Yp h)))
theorem Fi{Q:Option (Yd×Nat)->Ym->Prop}(b:FJ w=false)(d:(!t.plain&&decide (es.size>1))=false)(hl:t.led=true)(ho:s.heap.get? a=Ya o)(hd:o.data=.set es ep t)(c:t.fits es.size=true)(h:Q (match es[cb t.place sl]?,t.place[cb t.place sl]? with|some (_,x),Ya j=>Ya (x,j+ 1)|_,_=>Yb) s):Yq (Yt prog w) A (aek a sl i ep) Q E s:=by
 have e:w.params.followText "set-order"=false:=b;unfold aek;refine Yf (aaf ho hd c (Yf (Yf (ab6 (Yp ?_)))));show Yq _ _ (if w.params.followText "set-order"=true then _ else _) _ _ _;rw[e,if_neg YX];refine Yf (Yp ?_);show Yq _ _ (if(!t.plain&&decide (es.size>1))=true then _ else _) _ _ _;rw[d,if_neg YX];refine Yf ?_;show Yq _ _ (if(!t.led&& !es.isEmpty)=true then _ else _) _ _ _;rw[hl];show Yq _ _ (if(false&& !es.isEmpty)=true then _ else _) _ _ _;rw[ab0,if_neg YX];exact Yp (Yp h)
end
section
theorem yZ{Q:Yd->Ym->Prop}(b:s.heap.get? I=Ya (xx first i a es.size ep))(h:Q (.ref I) s):Yq (Yt prog w) A (adt (.ref I)) Q E s:=by
 refine acC (eM b) wo (abL wo (eM b) EO ?_ (Fl _));show Yq _ _ (ret (.ref I)) _ _ s;exact Yp ⟨_,rfl,"set_iterator",_,eM b,cG.lookup,h⟩
theorem J5(u:A.handled=Yb)(b:FJ w=true)(hd:o.data=.set es ep t)(j:t.fits es.size=true)(ne:a≠I):
  aeY prog w A I [I,a] [I] ((adP (w.params.setOrder a ep) es).toList.map (·.2)).length (λi v=>((adP (w.params.setOrder a ep) es).toList.map (·.2))[i]?=Ya v)
   (λi h=>(∃sl:Nat,h.get? I=Ya (xx (.int sl 0) i a es.size ep))/\h.get? a=Ya o) where
 sub:=λb y=>Yi.mp y▸Ys
 frame:=λi h k st n=>⟨let ⟨sl,e⟩:=st.1;⟨sl,n I (by simp) _ e⟩,n a (by simp) _ st.2⟩
 item:=λi s _ _ B st d=>by
  obtain⟨⟨sl,f⟩,ho⟩:=st;have g:i<(adP (w.params.setOrder a ep) es).size:=by simpa using B
  refine ur (x:=((adP (w.params.setOrder a ep) es)[i]).2) (nx:=sl) f ho hd j (λA E C q=>AK b ho hd j ?_) λk e p=>d _ k s.toks ?_ ⟨⟨sl,e⟩,(p.2 a ne).trans ho⟩ λc r l m=>(p.2 c (λz=>l (by simp[z]))).trans m
  ·rw[YI g];exact q
  ·rw[Yy,vc,YI g];rfl
 done:=λs Q E st d=>by
  obtain⟨⟨sl,f⟩,ho⟩:=st;refine tT u f ho hd j (λA E C q=>AK b ho hd j ?_) λk kp=>d k s.toks λc r l m=>kp c r (λz=>l (by simp[z])) m;rw[aaG (by simp)];exact q
 self:=λi s Q E st d=>let ⟨⟨_,f⟩,_⟩:=st;yZ f d
theorem Mw(C:A.handled=Yb)(b:FJ w=false)(d:(!t.plain&&decide (es.size>1))=false)(tb:Tb (!FJ w) t)(hd:o.data=.set es ep t)(g:t.fits es.size=true)(ne:a≠I):
  aeY prog w A I [I,a] [I] (es.toList.map (·.2)).length (λi v=>(es.toList.map (·.2))[i]?=Ya v)
   (λi h=>(∃sl:Nat,cb t.place sl=i/\h.get? I=Ya (xx (.int sl 0) i a es.size ep))/\h.get? a=Ya o) where
 sub:=λb D=>Yi.mp D▸Ys
 frame:=λi h n st u=>⟨let ⟨sl,j,e⟩:=st.1;⟨sl,j,u I (by simp) _ e⟩,u a (by simp) _ st.2⟩
 item:=λi s _ _ F st k=>by
  obtain⟨⟨sl,j,l⟩,ho⟩:=st;have m:i<es.size:=by simpa using F
  have hl:t.led=true:=by rw[tb.2,b];rfl
  have hp:t.place.size=es.size:=by
   simp only[ai3,adJ,beq_iff_eq,decide_eq_true_eq]at g;exact g.1
  have f:i<t.place.size:=by omega
  refine ur (x:=(es[i]).2) (nx:=t.place.getD i 0+ 1) l ho hd g (λA E G q=>Fi b d hl ho hd g ?_) λn e y=>k _ n s.toks ?_ ⟨⟨t.place.getD i 0+ 1,FO tb.1 f,e⟩,(y.2 a ne).trans ho⟩ λc B p r=>(y.2 c (λz=>p (by simp[z]))).trans r
  ·rw[YQ,j,YI m,YI f];rw[YE,YI f]at q;exact q
  ·rw[Yy,vc,YI m];rfl
 done:=λs Q E st k=>by
  obtain⟨⟨sl,j,l⟩,ho⟩:=st;have hl:t.led=true:=by rw[tb.2,b];rfl
  refine tT C l ho hd g (λA E G q=>Fi b d hl ho hd g ?_) λn kp=>k n s.toks λc B p r=>kp c B (λz=>p (by simp[z])) r;rw[YQ,j,aaG (by simp)];exact q
 self:=λi s Q E st k=>let ⟨⟨_,_,l⟩,_⟩:=st;yZ l k
theorem GI(u:A.handled=Yb)(y:ps.Perm (YR es.size))(hd:o.data=.set es ep t)(q:t.fits es.size=true)(ne:a≠I)(B:tp≠I):
  aeY prog w A I [I,a,tp] [I] (ps.map λi=>(es.getD i (0,.none)).2).length (λi v=>(ps.map λi=>(es.getD i (0,.none)).2)[i]?=Ya v)
   (λi h=>h.get? I=Ya (xx (.ref tp) i a es.size ep)/\h.get? a=Ya o/\h.get? tp=Ya {cls:=.type "tuple",dict:=Yb,data:=.seq (ps.map fun(i:Nat)=>aa9 i).toArray c,slots:=#[]}) where
 sub:=λb C=>Yi.mp C▸Ys
 frame:=λi h f st k=>⟨k I (by simp) _ st.1,k a (by simp) _ st.2.1,k tp (by simp) _ st.2.2⟩
 item:=λi s _ _ g st d=>by
  obtain⟨l,ho,j⟩:=st;rw[Yg]at g;have hm:ps[i]<es.size:=xu.mp (y.mem_iff.mp (aa5 g));refine BE (x:=(es[ps[i]]).2) (hk:=(es[ps[i]]).1) l ho hd q j (Yk g) (YI hm) λf e m=>d _ f s.toks ?_ ⟨e,(m.2 a ne).trans ho,(m.2 tp B).trans j⟩ λc r n p=>(m.2 c (λz=>n (by simp[z]))).trans p;rw[Yy,Yk g,abW,YE,YI hm];rfl
 done:=λs Q E st d=>by
  obtain⟨l,ho,j⟩:=st;exact Cf u l ho hd q j (abr (by rw[Yg];exact Yl _)) λf kp=>d f s.toks λc r n p=>kp c r (λz=>n (by simp[z])) p
 self:=λi s Q E st d=>yZ st.1 d
theorem GN(es:Array (Int×Yd)):(YR es.size).map (λi=>(es.getD i (0,aao)).2)=es.toList.map (·.2):=by
 apply ads;intro i;rw[Yy,Yy,vc (xs:=es)];by_cases h:i<es.size
 ·rw[Yk (by rw[oh];exact h),List.getElem_range,abW,YE,YI h];rfl
 ·rw[abr (by rw[oh];omega),aaG (by omega)];rfl
theorem Ob(r:A.handled=Yb)(ho:s.heap.get? a=Ya o)(q:o.ExactSet)(hd:o.data=.set es ep t)(f:t.fits es.size=true)(g:es.size<abG)(tb:Tb (!FJ w) t){Q:Yd->Ym->Prop}
  (h:∀(h':YT) (d':ah8) (I:Ye) (fp:List Ye) (vs:List Yd) (St:Nat->YT->Prop),(∀b o,s.heap.get? b=Ya o->h'.get? b=Ya o)->s.heap.objs.size<=I->(∀b∈fp,b=a∨s.heap.objs.size<=b)->vs.Perm (es.toList.map (·.2))->
   (∀A:xw,A.handled=Yb->aeY prog w A I fp [I] vs.length (λi v=>vs[i]?=Ya v) St)->St 0 h'->Q (.ref I) {s with heap:=h',drawn:=d'}):Yq (Yt prog w) A (adt (.ref a)) Q E s:=by
 have j:s.TypeIs (.ref a) "set":=⟨o,ho,q.1⟩;have p:=Yw ho;refine acC j agc (abL agc j Dz ?_ (PySem.F.args_set_iter_1 _));unfold aaa.«frozenset.__iter__» Builtin.Frozenset.slot0 Builtin.Frozenset.addrOf Builtin.Frozenset.sizeOf;refine Yf (Yf (Yp (Yp (Yf (Yf (acb ho hd f (Yp ?_)))))));refine Yf ?_;unfold setDrawn;refine Yf (aaf ho hd f (Yf (Yf (ab6 (Yp (Yp ?_))))));show Yq _ _ (if(!FJ w&&(!t.plain&&decide (es.size>1)))=true then _ else _) _ _ _;cases hc:(!FJ w&&(!t.plain&&decide (es.size>1)))with
 |false=>
  rw[if_neg YX];refine Yf (Yp (Yf ?_));unfold setEpoch;refine Yf (aaf ho hd f (Yp ?_));refine Yf (abX (Yp ⟨_,rfl,"set_iterator",_,⟨_,Yv _ rfl,rfl⟩,cG.lookup,?_⟩));have nI:a≠s.heap.objs.size:=YL p;have d:∀b∈[s.heap.objs.size,a],b=a∨s.heap.objs.size<=b:=λb g=>by
   simp only[Yn,aac,or_false]at g;rcases g with z|z
   ·exact .inr (adW z.symm)
   ·exact .inl z
  cases j:FJ w with
  |true=>
   refine h _ s.drawn s.heap.objs.size [s.heap.objs.size,a] _ _ (λb o e=>Yh _ e) (Yl _) d ((Kl (w.params.setOrder a ep) es).map _) (λA k=>J5 k j hd f nI) ⟨⟨0,Yv _ rfl⟩,Yh _ ho⟩
  |false=>
   have m:(!t.plain&&decide (es.size>1))=false:=by rw[j]at hc;exact hc
   refine h _ s.drawn s.heap.objs.size [s.heap.objs.size,a] _ _ (λb o e=>Yh _ e) (Yl _) d (.refl _) (λA k=>Mw k j m tb hd f nI) ⟨⟨0,Gq tb.1,Yv _ rfl⟩,Yh _ ho⟩
 |true=>
  rw[if_pos rfl];refine Yf (HE es.size (YR es.size) s _ (by rw[oh]) λps d' n=>Yf ?_);refine agd (Yf ?_) ?_
  ·unfold setEpoch;have l:(s.heap.push {cls:=.type "tuple",data:=.seq (ps.map fun(i:Nat)=>aa9 i).toArray}).get? a=Ya o:=Yh _ ho;refine Yf (aaf l hd f (Yp ?_));refine Yf (abX (Yp ⟨_,rfl,"set_iterator",_,⟨_,Yv _ rfl,rfl⟩,cG.lookup,?_⟩));have sz:(s.heap.push {cls:=.type "tuple",data:=.seq (ps.map fun(i:Nat)=>aa9 i).toArray}).objs.size=s.heap.objs.size+ 1:=aaU ..;refine h _ d' (s.heap.push {cls:=.type "tuple",data:=.seq (ps.map fun(i:Nat)=>aa9 i).toArray}).objs.size [(s.heap.push {cls:=.type "tuple",data:=.seq (ps.map fun(i:Nat)=>aa9 i).toArray}).objs.size,a,s.heap.objs.size] (ps.map λi=>(es.getD i (0,.none)).2) _
    (λb o e=>Yh _ (Yh _ e)) (by rw[sz];exact aaP _) (λb g=>?_) ?_ (λA k=>GI (c:=0) k n hd f (by rw[sz];exact YL (aba p)) (by rw[sz];exact YL (aa2 _)))
    ⟨Yv _ rfl,Yh _ l,Yh _ (Yv _ rfl)⟩
   ·simp only[Yn,aac,or_false]at g;rcases g with z|z|z
    ·exact .inr (by rw[z,sz];exact aaP _)
    ·exact .inl z
    ·exact .inr (adW z.symm)
   ·exact(n.map _).trans (by rw[GN])
  ·rw[Yg,n.length_eq,oh];exact aeT g
end
theorem yn{α:Type}[DecidableEq α]:∀{l m:List α},l.Nodup->(∀x∈l,x∈m)->m.length<=l.length->m.Perm l
 |[],m,_,_,h=>by
  have e:m=[]:=aaH (Nat.le_zero.mp h);rw[e]
 |x::l,m,nd,sub,h=>by
  rw[BD]at nd;have d:=sub x Ys;have b:=agE d;refine b.trans (ajQ x (yn nd.2 (λy c=>?_) ?_))
  ·have a:=sub y (Yr _ c);exact(acU (show y≠x from λz=>nd.1 (z▸c))).mpr a
  ·have:=b.length_eq;rw[Y5]at this h;omega
theorem wy(val:Nat->Int):∀i,(acs val i).Nodup
 |0=>af6
 |i+ 1=>by
  rw[agR];unfold step_dedup;have a:=wy val i;by_cases h:List.any (acs val i) (·==val i)
  ·rw[if_pos h];exact a
  ·rw[if_neg h,KW];refine⟨a,by simp,λx b y c e=>h ?_⟩;rw[abM];refine⟨x,b,?_⟩;have d:=Yi.mp c;rw[e,d,beq_self_eq_true]
theorem BO(val:Nat->Int)(i:Nat)(k:Int):k∈acs val i↔∃j,j<i/\val j=k:=by
 have h:=firstMet_any val i k;rw[abU,abM,abM]at h;constructor
 ·intro z;obtain⟨x,a,e⟩:=h.mp ⟨k,z,by simp⟩;obtain⟨j,b,c⟩:=YC.mp a;exact⟨j,xu.mp b,by rw[c];simpa using e⟩
 ·rintro⟨j,b,e⟩;obtain⟨x,a,d⟩:=h.mpr ⟨val j,YC.mpr ⟨j,xu.mpr b,rfl⟩,by simp[e]⟩;have:x=k:=by simpa using d
  rw[←this];exact a
section
theorem yS:∀{l:List (Int×Yd)},ajD (abf prog w) l->∃ns,RW (l.map (·.2)) ns/\∀k,k∈ns↔∃e∈l,(abf prog w).is k e.2=true
 |[],_=>⟨[],.nil,λk=>by simp⟩
 |e::l,h=>by
  obtain⟨ns,h1,h2⟩:=yS h.tail;obtain⟨⟨k,a,_⟩,_⟩:=h.head;obtain⟨t,d⟩:=ahk (k:=k) (v:=e.2) a;refine⟨k::ns,?_,λj=>?_⟩
  ·rw[YF,d];exact .cons k t h1
  ·rw[Yn,h2 j];constructor
   ·rintro(z|⟨b,c,q⟩)
    ·exact⟨e,Ys,by rw[z];exact a⟩
    ·exact⟨b,Yr _ c,q⟩
   ·rintro⟨b,c,q⟩;rcases Yn.mp c with z|z
    ·rw[z]at q;exact .inl ((abf prog w).inj e.2 j k q a)
    ·exact .inr ⟨b,z,q⟩
theorem J7{vs us:List Yd}(b:vs.Perm us)(h:RW us ns):∃a,RW vs a/\a.Perm ns:=by
 induction b generalizing ns with
 |nil=>exact⟨ns,h,.refl _⟩
 |cons x p ih=>
  cases h with
  |cons n t hr=>
   obtain⟨a,h1,h2⟩:=ih hr;exact⟨n::a,.cons n t h1,h2.cons n⟩
 |swap x y l=>
  cases h with
  |cons n t hr=>
   cases hr with
   |cons m u hr=>exact⟨_,.cons m u (.cons n t hr),agb ..⟩
 |trans p q ih1 ih2=>
  obtain⟨a,h1,h2⟩:=ih2 h;obtain⟨ks,h3,h4⟩:=ih1 h1;exact⟨ks,h3,h4.trans h2⟩
theorem Lj{Q:Bool->Ym->Prop}(c:s.TypeIs (.ref a) "set")(h:Q false s):Yq (Yt prog w) A (aiU (.ref a)) Q E s:=by
 show Yq _ _ (specialOf (.ref a) "__len__" >>= _) _ _ s;refine Yf (afD c PySem.F.slot_set_len.lookup ?_);generalize hid:("set.__len__":String)=id0
 wp_delta
 rw[show splitId id0=Ya ("set","__len__")from by subst hid;decide +kernel];subst hid;refine Yf (afj (T:="set") (b:=true) c (by rw[acJ];kernel_rfl) ?_);refine afG (λz=>absurd z (by decide)) (λ_=>?_);refine afG (λ_=>?_) (λz=>absurd (by decide +kernel) z);exact Yf (ag8 c (Yp h))
theorem M0{id:String}{B:aaa}{a:Args}(d:acq aep id=Ya B)(hp:af8 id=true)(h:Yq (Yt prog w) A.in1 (B a) (λf b=>match f with| .done f=>R (.ok f) b| .again c=>c.quiet=true/\Rk (Yt prog w) A c R b) (λe b=>R (.error e) b) s):Rk (Yt prog w) A (.builtin id a) R s:=
 afE d (by rw[Around.under_plainId hp];exact h)
theorem Eh{R:List Yd->Ym->Prop}(C:A.handled=Yb)(x:ti prog w s.heap a S n)(h:∀(h':YT) (d':ah8) (tk:Nat) (vs:List Yd) (ns:List Int),(∀b o,s.heap.get? b=Ya o->h'.get? b=Ya o)->RW vs ns->ns.length=n->(∀k,k∈ns↔S k=true)->R vs {s with heap:=h',drawn:=d',toks:=tk}):
  Yq (Yt prog w) A (ajC (.ref a)) R E s:=by
 obtain⟨o,es,ep,t,ho,D,hd,U,hm,y,V,hn,X⟩:=x;have L:=Yw ho;unfold ajC;refine Yf (wpAny_runValue (M0 entry_proto_collect' PySem.F.plain_proto_collect (Yf (abX (Yp ⟨abF afw _,M0 entry_list_iadd' afw ?_⟩)))));have m:(s.heap.push {cls:=.type "list",data:=.seq ([]:List Yd).toArray}).get? s.heap.objs.size=Ya {cls:=.type "list",data:=.seq #[]}:=Yv _ rfl;have c:(s.heap.push {cls:=.type "list",data:=.seq ([]:List Yd).toArray}).get? a=Ya o:=Yh _ ho;have g:(s.heap.push {cls:=.type "list",data:=.seq ([]:List Yd).toArray}).objs.size=s.heap.objs.size+ 1:=aaU ..;have p:∀b ob,s.heap.get? b=Ya ob->(s.heap.push {cls:=.type "list",data:=.seq ([]:List Yd).toArray}).get? b=Ya ob:=λb ob e=>Yh _ e;show Yq _ A.in1 (aiV (.ref s.heap.objs.size) (.ref a) (.ref s.heap.objs.size)) _ _ _;generalize s.heap.push {cls:=.type "list",data:=.seq ([]:List Yd).toArray}=H1 at m c g p⊢;show Yq _ _ (aii (.ref a) >>= _) _ _ _;refine Yf (ag8 (T:="set") ⟨o,c,D.1⟩ ?_);have n1:afk (.ref s.heap.objs.size) (.ref a)=false:=by simp[afk,abu L]
 have n2:(aaD "set"==aaD "list")=false:=by decide
 have n3:(aaD "set"==aaD "tuple")=false:=by decide
 simp only[n1,n2,n3,agO,nh,if_false];refine Yf (Ob (s:={s with heap:=H1}) (A:=A.in1) C c D hd V y X λh2 Y I Z vs St F lI G M W st=>?_);refine Yf (aau (Lj (s:={s with heap:=h2,drawn:=Y}) ⟨o,F _ _ c,D.1⟩ ?_));have r:=F _ _ m;have N:s.heap.objs.size∉Z:=λz=>by
  rcases G _ z with q|q
  ·exact absurd L (by rw[←q];exact Y8 _)
  ·rw[g]at q;exact absurd q (Nat.not_succ_le_self _)
 have d:vs.length=n:=by rw[M.length_eq,Yg,YO,hn]
 have nz:vs.length<=YB:=by rw[d,←hn];exact aeT y
 refine afG (λ_=>?_) (λz=>absurd (by decide) z);refine Yf (agA (Yf ?_));show Yq _ _ (updateSeq s.heap.objs.size (·.push .none) >>= λ_=>updateSeq s.heap.objs.size (·.pop)) _ _ _;refine Yf (ac4 r rfl ?_);have u:=aaz (aaJ (·.push aao)) r rfl;refine ac4 (hz:=by seq_fits) u rfl ?_;have H:=aaz (aaJ (·.pop)) u rfl;have v:∀b ob,b≠s.heap.objs.size->h2.get? b=Ya ob->((h2.update s.heap.objs.size (aaJ (·.push aao))).update s.heap.objs.size (aaJ (·.pop))).get? b=Ya ob:=λb ob O e=>(Gr _ _ (Ne.symm O)).trans ((Gr _ _ (Ne.symm O)).trans e);refine Yp ⟨abF PySem.F.plain_extend_loop _,codeAny_extend_loopS (W A.in1 C).toS nz _ N _ vs.length 0 _ #[] _ rfl (Y9 _) ((W A.in1 C).frame 0 _ _ st λb y ob e=>v b ob (λz=>N (z▸y)) e) H (ItemsOf.nil _) λs' i c' l J f=>?_⟩;apply Yf (wpAny_load J _);have ea:i.toList=vs:=by
  apply ads;intro j;rw[vc];by_cases P:j<i.size
  ·rw[YI P];exact(f.2 j _ (YI P)).symm
  ·rw[aaG (by omega),abr (by rw[←f.1];omega)]
 obtain⟨ab,q1,q2⟩:=yS U;obtain⟨ns,Q,q4⟩:=J7 M q1;have ln:ns.length=n:=by rw[←Q.length,d]
 have:=h s'.heap s'.drawn s'.toks vs ns (λb ob e=>l.heap b ob (λz=>?_) (v b ob (YL (Yw e)) (F b ob (p b ob e)))) Q ln (λk=>by rw[q4.mem_iff,q2 k,hm k])
 ·obtain⟨h',g',d',t',K⟩:=s';have eg:g'=s.gens:=l.gens;have eo:K=s.os:=l.os;subst eg eo;show Yq _ A (pure i.toList) _ _ _;rw[ea];exact Yp this
 ·have B:=Yw e;rcases Yn.mp z with z|z
  ·rw[z]at B;exact Y8 _ B
  ·rw[Yi.mp z]at B;have q:H1.objs.size<=I:=lI;rw[g]at q;exact absurd B (aeZ.mpr (xy (aaP _) q))
end
end GX
namespace L2
open PySem PySem.Spec PyProof.Rows
noncomputable def Le(P:YZ)(w:Y6)(a:Ye)(ks:List Int):HO:=.ext λh=>GX.ti P w h a (λk=>ks.any (·==k)) ks.length
section
variable{X:Cx}
theorem aM.draw{a:List (Ye×uc)}{σ:St}{H:Hp}{s:Ym}(I:aM X a σ H s)(d:ah8):aM X a σ H {s with drawn:=d}:=⟨I.ok,I.os,I.bare,I.base,I.loc,I.cell,I.free,I.freeC,I.pin,I.hok,I.len⟩
theorem AF(d:X.calm=true):c6 X (.type "set") (λxs H Q=>∃(p:Ye) (ns:List Int),xs=[.ref p]/\bc X.K H p (ns.map V.int)/\ns.length<=1000/\∀(q:Ye) (ks:List Int),H q=Yb->ks.Nodup->(∀k,k∈ks↔k∈ns)->Q (.ref q) (upd H q (Le X.prog X.w q ks))):=by
 intro z s σ H xs A Q I r h;obtain⟨p,ns,rfl,f,B,q⟩:=h;obtain⟨u,rfl,g⟩:=dW r;cases g;obtain⟨a,l,m,n⟩:=I.list f;have c:RW a ns:=jt l;have hl:a.length=ns.length:=c.length;refine GX.Fs (items:=a.toArray) (ns:=ns) (I.ok.hd d) m.isList (by simpa using c) (by rw[Yz,hl];unfold abG;omega) λt tk x kp=>?_;have sz:a.toArray.size=ns.length:=by rw[Yz,hl]
 rw[sz]at x;have new:cg X.prog X.w (upd H s.heap.objs.size (Le X.prog X.w s.heap.objs.size (acs (λi=>ns.getD i 0) ns.length))) t s.heap.objs.size (Le X.prog X.w s.heap.objs.size (acs (λi=>ns.getD i 0) ns.length)):=by
  refine⟨x,?_,λh1 h2 y k=>y.at k⟩;obtain⟨o,_,_,_,ho,_⟩:=x;exact⟨o,ho⟩
 refine⟨.ref s.heap.objs.size,_,I.laid (t':=tk) kp (Yl _) new,rfl,q _ _ (I.hok.fresh (Yl _)) (GX.wy _ _) λk=>?_⟩;rw[GX.BO];constructor
 ·rintro⟨j,b,e⟩;rw[YJ,Yk b]at e;have v:ns[j]=k:=e;rw[←v];exact aa5 b
 ·intro w;obtain⟨j,b,e⟩:=aca w;refine⟨j,b,?_⟩;rw[YJ,Yk b];exact e
theorem tO(o:X.calm=true):c6 X (.builtin "sorted") (λxs H Q=>∃(a:Ye) (ks:List Int),xs=[.ref a]/\H a=Ya (Le X.prog X.w a ks)/\ks.Nodup/\ks.length<64/\∀(l:Ye) (ns:List Int),H l=Yb->ns.Perm ks->ns.Pairwise (·<=·)->Q (.ref l) (upd H l (.lst (ns.map V.int)))):=by
 intro p s σ H xs E Q I r h;obtain⟨a,ks,rfl,ha,nd,b,q⟩:=h;obtain⟨u,rfl,t⟩:=dW r;cases t;have x:GX.ti X.prog X.w s.heap a (λk=>ks.any (·==k)) ks.length:=(I.hok a _ ha).1;refine GX.vD (ag6 _) (GX.Eh (A:=X.A.in1) (I.ok.hd o) x λd f tk v ns g i hl hm=>?_);have w:ns.Perm ks:=GX.yn nd (λk g=>(hm k).mpr (abM.mpr ⟨k,g,by simp⟩)) (adW hl);have j:v.length=ks.length:=by rw[i.length,hl]
 have m:aM X p σ H {s with heap:=d,drawn:=f,toks:=tk}:=(I.draw f).kept (t':=tk) g;refine Aq (s:={s with heap:=d,drawn:=f,toks:=tk}) i (by rw[j];exact b) (by rw[j];exact rl (aG (by omega))) λh2 out c e y z B n C=>?_;have D:c.length<=YB:=by rw[n.length_eq,hl];exact rl (aG (by omega))
 exact⟨.ref d.objs.size,_,m.lay_ints (tk:=tk) y z B D,rfl,q _ c (m.hok.fresh (Yl _)) (n.trans w) C⟩
theorem FZ(n:X.calm=true):c6 X (.type "list") (λxs H Q=>∃(d:Ye) (m:List (Int×Int)),xs=[.ref d]/\Rd H d (.dK (dI m))/\m.length<=1000/\∀(l:Ye),H l=Yb->Q (.ref l) (upd H l (.lst ((m.map (·.1)).map V.int)))):=by
 intro C s σ H xs D Q I r h;obtain⟨d,m,rfl,hd,i,q⟩:=h;obtain⟨u,rfl,o⟩:=dW r;cases o;obtain⟨z,p,k,b,dd⟩:=j7 I.hok hd;obtain⟨t,f⟩:=dd.dictAt;have hl:k.length=m.length:=by rw[←b.length,vX]
 refine adL (A:=X.A) (ahN (knd:=aY X.prog X.w) (kvs:=k) (ep:=t) p) (I.ok.hd n) f (by rw[hl];exact rl (aG (by omega))) λE tk g c x y a=>?_;have B:RW g.toList (m.map (·.1)):=vw (P:=X.prog) (w:=X.w) b (by rw[YO];exact a.1) λj v e=>a.2 j v (by rw[←vc];exact e);exact⟨.ref s.heap.objs.size,_,I.lay_ints (tk:=tk) (e:=c) x y B (by rw[Yg];exact rl (aG (by omega))),rfl,q _ (I.hok.fresh (Yl _))⟩
end
end L2
namespace GX
open PySem PyProof.Rows
section
variable{prog:YZ}{w:Y6}{A:xw}{E:Yd->Ym->Prop}{s:Ym}{I:Ye}{fp wr:List Ye}{N:Nat}{P:Nat->Yd->Prop}{St:Nat->YT->Prop}
end
end GX
namespace L2
open PySem PySem.Spec PyProof.Rows
variable{X:Cx}{H:Hp}
section
theorem zy:∀{vs:List Yd} {ns:List Int},RW vs ns->∃ps:List (Int×ac2),vs=ps.map (λp=>abn p.1 p.2)/\ps.map (·.1)=ns
 |_,_,.nil=>⟨[],rfl,rfl⟩
 |_,_,.cons n t h=>by
  obtain⟨ps,a,b⟩:=zy h;exact⟨(n,t)::ps,by rw[YF,←a],by rw[YF,b]⟩
theorem OU{ps:List (Int×ac2)}{ns:List Int}(b:ps.map (·.1)=ns){j:Nat}(c:j<ps.length):ahi ps.toArray j∈ns/\∀z∈ns,∃i,i<=ps.length-1/\ahi ps.toArray i=z:=by
 have d:∀i (a:i<ps.length),ahi ps.toArray i=(ps[i]).1:=λi a=>by simp[ahi,a]
 constructor
 ·rw[d j c,←b];exact YV (aa5 c)
 ·intro z f;rw[←b]at f;obtain⟨p,hp,e⟩:=YC.mp f;obtain⟨i,a,g⟩:=aca hp;exact⟨i,by omega,by rw[d i a,g,e]⟩
theorem Jy(l:X.calm=true):c6 X (.builtin "min") (λxs H Q=>∃(p:Ye) (ns:List Int),xs=[.ref p]/\bc X.K H p (ns.map V.int)/\ns≠[]/\∀b,b∈ns->(∀z∈ns,b<=z)->Q (.int b) H):=by
 intro G s σ H xs J Q I r h;obtain⟨p,ns,rfl,m,a,q⟩:=h;obtain⟨u,rfl,n⟩:=dW r;cases n;obtain⟨c,o,w,d⟩:=I.list m;obtain⟨ps,x,f⟩:=zy (jt o);have y:intItems ps.toArray=c.toArray:=by rw[x];simp[intItems]
 have A:0<ps.length:=by
  cases ps with
  |nil=>exact absurd f.symm a
  |cons _ _=>exact ab7 _
 refine min_intList (xs:=ps.toArray) (I.ok.hd l) (by rw[y];exact w.isList) (by rw[Yz];exact A) λv K tk g kp=>?_;obtain⟨B,k⟩:=argBest_lt (ahi ps.toArray) (ps.toArray.size-1);rw[Yz]at B k g;obtain⟨t,C⟩:=intItems_at g;obtain⟨D,E⟩:=OU f (show argBest (λi j=>decide (ahi ps.toArray i<ahi ps.toArray j)) (ps.length-1)<ps.length by omega);refine⟨.int _,H,I.kept (t':=tk) kp,⟨t,C⟩,q _ D λz d=>?_⟩;obtain⟨i,F,e⟩:=E z d;rw[←e];exact k i F
abbrev OO(H:Hp):List V->List (List (Int×Int))->Prop:=fm λx m=>∃d,x=.ref d/\Rd H d (.dK (dI m))
theorem OO.get:∀{xs:List V} {c:List (List (Int×Int))} {i:Nat} {x:V},OO H xs c->xs[i]?=Ya x->∃m,c[i]?=Ya m/\∃d,x=.ref d/\Rd H d (.dK (dI m)):=by
 intro a b i x w
 induction w generalizing i with
 |nil=>exact λe=>by simp at e
 |cons r _ ih=>
  intro e;cases i with
  |zero=>simp at e;subst e;exact⟨_,rfl,r⟩
  |succ i=>
   obtain⟨p,h1,h2⟩:=ih (i:=i) (by simpa using e);exact⟨p,by simpa using h1,h2⟩
end
section
theorem aM.thaw{i:List (Ye×uc)}{σ:St}{s:Ym}{a:Ye}{o:uc}{kvs:List (bJ×V)}(I:aM X i σ H s)(h:H a=Ya (.frz o (.dK kvs)))(n1:∀xs,X.H₀ a≠Ya (.tup xs))(n2:∀o u,X.H₀ a≠Ya (.frz o u))(n3:∀ps,X.H₀ a≠Ya (.tbl ps)):aM X i σ (upd H a (.dK kvs)) s:=by
 have ne:∀b,H b=Yb->b≠a:=λb q z=>by rw[z,h]at q;cases q
 have b:=I.base;refine⟨I.ok,I.os,I.bare,⟨b.keep,b.slot,λc g e n x=>?_,b.there,λc xs e=>?_,λc g u e=>?_,λc ps e=>?_⟩,I.loc,I.cell,by rw[ak (ne _ I.free)];exact I.free,λx c z=>by rw[ak (ne _ (I.freeC x c z))];exact I.freeC x c z,
  λp hp=>let ⟨p1,p2,p3⟩:=I.pin p hp;⟨p1,by rw[ak (ne _ p2)];exact p2,p3⟩,λc u e=>?_,I.len⟩
 ·have q:=b.free c g e n x;rw[ak (ne _ q)];exact q
 ·have f:c≠a:=λz=>n1 _ (z▸e);rw[ak f];exact b.tups c xs e
 ·have f:c≠a:=λz=>n2 _ _ (z▸e);rw[ak f];exact b.frzs c g u e
 ·have f:c≠a:=λz=>n3 _ (z▸e);rw[ak f];exact b.tbls c ps e
 ·by_cases j:c=a
  ·subst j;rw[ai]at e;cases e;exact(I.hok c _ h).2
  ·rw[ak j]at e;refine(I.hok c u e).stay (λ_ _ _ q=>q) (λd q=>?_) λd xs q=>?_
   ·rw[ak (λz=>by rw[z,h]at q;cases q)];exact q
   ·rw[ak (λz=>by rw[z,h]at q;cases q)];exact q
def R7(t:TS):TS:=λD σ H=>∃a b,H a=Ya (.dK b)/\t {D with nx:=λd c=>(∃o,c a=Ya (.frz o (.dK b)))/\D.nx d (upd c a (.dK b)),rt:=λv c=>(∃o,c a=Ya (.frz o (.dK b)))/\D.rt v (upd c a (.dK b))} σ H
theorem Hx{st:Y4}{t:TS}(h:PS X st t):PS X st (R7 t):=by
 intro g s σ H D I hw;obtain⟨a,i,ha,j⟩:=hw;have n1:∀b,X.H₀ a≠Ya (.tup b):=λb e=>by have:=I.base.tups a b e;rw[ha]at this;cases this
 have n2:∀o u,X.H₀ a≠Ya (.frz o u):=λo u e=>by have:=I.base.frzs a o u e;rw[ha]at this;cases this
 have n3:∀ps,X.H₀ a≠Ya (.tbl ps):=λps e=>by obtain⟨m,q⟩:=I.base.tbls a ps e;rw[ha]at q;cases q
 refine cu (h g s σ H _ I j) λf l q=>?_;cases f with
 |next=>
  obtain⟨c,k,d,⟨o,e⟩,n⟩:=q;exact⟨c,_,d.thaw e n1 n2 n3,n⟩
 |brk=>exact q
 |cont=>exact q
 |ret u=>
  obtain⟨v,c,k,d,r,⟨o,e⟩,n⟩:=q;exact⟨v,c,_,d.thaw e n1 n2 n3,r,n⟩
end
mutual
inductive Dp (K:Yc) (H:Hp):V->abJ->Prop
 |none:Dp K H .non .none
 |bool (b:Bool):Dp K H (.bl b) (.bool b)
 |int (i:Int):Dp K H (.int i) (.int i)
 |str (x:Yo):Dp K H (.str x) (.str x)
 |tup {a:Ye} {xs:List V} {ds:List abJ}:bI K H a xs->Ea K H xs ds->Dp K H (.ref a) (.tuple ds)
inductive Ea (K:Yc) (H:Hp):List V->List abJ->Prop
 |nil:Ea K H [] []
 |cons {x:V} {xs:List V} {d:abJ} {ds:List abJ}:Dp K H x d->Ea K H xs ds->Ea K H (x::xs) (d::ds)
end
def WL(K:Yc)(H c:Hp):Prop:=∀a b,bI K H a b->bI K c a b
theorem WL.same{K:Yc}{H b:Hp}(e:aH H b):WL K H b:=by
 rintro a c ((h|⟨o,h⟩)|h)
 ·exact .inl (.inl (e _ _ h))
 ·exact .inl (.inr ⟨o,e _ _ h⟩)
 ·exact .inr h
section
variable{X:Cx}{Za:List (Ye×uc)}{σ:St}{H:Hp}{s:Ym}
mutual
theorem Dp.reads(I:aM X Za σ H s):∀{x:V} {d:abJ} {u:Yd},Dp X.K H x d->RelV x u->∃a,Reads s.heap u d a
 |_,_,_,.none,r=>by cases r;exact⟨_,.none⟩
 |_,_,_,.bool b,r=>by cases r;exact⟨_,.bool b⟩
 |_,_,_,.int i,r=>by obtain⟨t,rfl⟩:=r;exact⟨_,.int i t⟩
 |_,_,_,.str z,r=>by obtain⟨t,rfl⟩:=r;exact⟨_,.str z t⟩
 |_,_,_,.tup h t,r=>by
  cases r;obtain⟨f,g,⟨o,e,c,n,dd⟩,_⟩:=I.tuple h;obtain⟨a,q⟩:=Ea.reads I t g;exact⟨_,.tuple e c dd (by simpa using q)⟩
theorem Ea.reads(I:aM X Za σ H s):∀{xs:List V} {ds:List abJ} {us:List Yd},Ea X.K H xs ds->Vals xs us->∃a,ReadsAll s.heap us ds a
 |_,_,_,.nil,r=>by cases r;exact⟨_,.nil⟩
 |_,_,_,.cons h t,r=>by
  cases r with
  |cons r1 r2=>
   obtain⟨a,q⟩:=Dp.reads I h r1;obtain⟨bs,b⟩:=Ea.reads I t r2;exact⟨_,.cons q b⟩
end
def Dl(K:Yc)(H:Hp)(x:V)(d:abJ):Prop:=Dp K H x d∨∃a b c,x=.ref a/\d=.list c/\bc K H a b/\Ea K H b c
theorem Dl.reads(I:aM X Za σ H s){x:V}{d:abJ}{u:Yd}(h:Dl X.K H x d)(r:RelV x u):∃b,Reads s.heap u d b:=by
 rcases h with h|⟨a,i,j,rfl,rfl,h,t⟩
 ·exact Dp.reads I h r
 ·cases r;obtain⟨f,g,⟨o,n,e,c,_,dd⟩,_⟩:=I.list h;obtain⟨b,q⟩:=Ea.reads I t g;exact⟨_,.list e c dd (by simpa using q)⟩
def TY(K:Yc):R2:=λx y H Q=>∃d e,Dl K H x d/\Dl K H y e/\d.canLay0=true/\e.canLay0=true/\min d.depth e.depth<=60/\Q (.bl (d.eqv e)) H
def Q2(K:Yc):R2:=λx y H Q=>∃d e,Dl K H x d/\Dl K H y e/\d.canLay0=true/\e.canLay0=true/\min d.depth e.depth<=60/\Q (.bl (!d.eqv e)) H
theorem Qg(i:X.A.units+ 64<aap):tE X (aaq .Eq) (TY X.K):=by
 intro j s σ H x y v u Q I a b h;obtain⟨d,e,h1,h2,c1,c,dp,q⟩:=h;obtain⟨k,f⟩:=h1.reads I a;obtain⟨bs,g⟩:=h2.reads I b;exact SeqAt.compareEq_reads f g c1 c (by omega) ⟨.bl _,H,I,rfl,q⟩
theorem Pz(i:X.A.units+ 64<aap):tE X (aaq .NotEq) (Q2 X.K):=by
 intro j s σ H x y v u Q I a b h;obtain⟨d,e,h1,h2,c1,c,dp,q⟩:=h;obtain⟨k,f⟩:=h1.reads I a;obtain⟨bs,g⟩:=h2.reads I b;exact SeqAt.compareNe_reads f g c1 c (by omega) ⟨.bl _,H,I,rfl,q⟩
def P7(K:Yc)(c:Bool):R2:=λx y H Q=>∃a e b d,y=.ref a/\(bc K H a e∨bI K H a e)/\Ea K H e b/\Dp K H x d/\aaK b=true/\d.canLay0=true/\d.depth<=60/\Q (.bl (if c then !(b.any λz=>z.eqv d)else b.any λz=>z.eqv d)) H
theorem XN(m:X.A.units+ 64<aap):tE X (aaq .In) (P7 X.K false):=by
 intro n s σ H x y v u Q I f g h;obtain⟨a,i,j,d,rfl,hs,hd,k,c1,c,dp,q⟩:=h;obtain⟨bs,e⟩:=k.reads I f;cases g;rcases hs with hs|hs
 ·obtain⟨l,b⟩:=Dl.reads I (x:=.ref a) (u:=.ref a) (.inr ⟨a,i,j,rfl,rfl,hs,hd⟩) rfl;exact SeqAt.in_list_reads b e c1 c (by omega) ⟨.bl _,H,I,rfl,q⟩
 ·obtain⟨l,b⟩:=Dp.reads I (x:=.ref a) (u:=.ref a) (.tup hs hd) rfl;exact SeqAt.in_tuple_reads b e c1 c (by omega) ⟨.bl _,H,I,rfl,q⟩
theorem JV(m:X.A.units+ 64<aap):tE X (aaq .NotIn) (P7 X.K true):=by
 intro n s σ H x y v u Q I f g h;obtain⟨a,i,j,d,rfl,hs,hd,k,c1,c,dp,q⟩:=h;obtain⟨bs,e⟩:=k.reads I f;cases g;rcases hs with hs|hs
 ·obtain⟨l,b⟩:=Dl.reads I (x:=.ref a) (u:=.ref a) (.inr ⟨a,i,j,rfl,rfl,hs,hd⟩) rfl;exact SeqAt.notIn_list_reads b e c1 c (by omega) ⟨.bl _,H,I,rfl,q⟩
 ·obtain⟨l,b⟩:=Dp.reads I (x:=.ref a) (u:=.ref a) (.tup hs hd) rfl;exact SeqAt.notIn_tuple_reads b e c1 c (by omega) ⟨.bl _,H,I,rfl,q⟩
end
theorem KI{K:Yc}{x y:V}{H:Hp}{Q:VK}{d:abJ}(h1:Dl K H x d)(h2:Dl K H y d)(c:d.canLay0=true)(dp:d.depth<=60)(q:Q (.bl true) H):TY K x y H Q:=
 ⟨d,d,h1,h2,c,c,by omega,by rw[SeqAt.eqv_refl d c];exact q⟩
theorem Jx{K:Yc}{x y:V}{H:Hp}{Q:VK}{d:abJ}(h1:Dl K H x d)(h2:Dl K H y d)(c:d.canLay0=true)(dp:d.depth<=60)(q:Q (.bl false) H):Q2 K x y H Q:=
 ⟨d,d,h1,h2,c,c,by omega,by rw[SeqAt.eqv_refl d c];exact q⟩
theorem aC{H:Hp}{l:Ye}{o:HO}(h:H l=Yb):aH H (upd H l o):=λb u e=>by rw[ak (ax e h)];exact e
def K2(d:Ye)(H a:Hp):Prop:=∀b,b≠d->a b=H b
theorem K2.upd{d:Ye}{H:Hp}{o:HO}:K2 d H (L2.upd H d o):=λb h=>ak h
theorem K2.at{d b:Ye}{H a:Hp}{o:Option HO}(e:K2 d H a)(n:b≠d)(h:H b=o):a b=o:=by rw[e b n];exact h
theorem K2.of{d b:Ye}{H a:Hp}{o u:HO}(e:K2 d H a)(hd:H d=Ya u)(h:H b=Ya o)(n:o≠u):a b=Ya o:=e.at (bU h hd n) h
def nwT(xs:List V)(H:Hp)(Q:VK):Prop:=xs.length<=YB/\∀p,H p=Yb->Q (.ref p) (upd H p (.tup xs))
def X6(xs:List V)(H:Hp)(Q:VK):Prop:=xs.length<=YB/\∀p,H p=Yb->Q (.ref p) (upd H p (.lst xs))
section
variable{D:oU}{σ:St}{H:Hp}{Q:VK}{K:Yc}
theorem zt{t u:TS}(h:t {D with nx:=u D} σ H):qf t u D σ H:=h
theorem U2{a:TE}{g:TG}{u:TS}(h:a σ H λx b=>g x σ b (u D)):qf (Ov a g) u D σ H:=h
theorem TX{a:TE}{u:TS}(h:a σ H λ_ b=>u D σ b):qf (Ml a) u D σ H:=h
theorem U5{td ty tv:TE}{u:TS}(h:HB td ty tv {D with nx:=u D} σ H):qf (HB td ty tv) u D σ H:=h
theorem Sy{a:TI}{g:TG}{tb u:TS}(h:PX a g tb {D with nx:=u D} σ H):qf (PX a g tb) u D σ H:=h
theorem TJ{c:TT}{tb u:TS}(h:Gz c tb {D with nx:=u D} σ H):qf (Gz c tb) u D σ H:=h
theorem UP{ta tv:TE}{f:Yo}{u:TS}(h:MY K ta tv f {D with nx:=u D} σ H):qf (MY K ta tv f) u D σ H:=h
theorem US{c:TT}{a:TE}{u:TS}(h:c σ H λb d=>if b=true then a σ d D.rt else u D σ d):qf (QB c (UO a) Hg) u D σ H:=h
theorem Be(I:St->Hp->Prop){t u:TS}(h2:∀a b,I a b->u D a b)(h:∀N:St->Hp->Prop,(∀a b,I a b->N a b)->t {D with nx:=N} σ H):qf t u D σ H:=h _ h2
theorem Oj(h:D.nx σ H):Hg D σ H:=h
theorem VN{a:TE}(h:a σ H D.rt):UO a D σ H:=h
theorem TB{a:TE}(h:a σ H λ_ b=>D.nx σ b):Ml a D σ H:=h
theorem Xh{a:TE}{g:TG}(h:a σ H λx b=>g x σ b D.nx):Ov a g D σ H:=h
theorem VS{c:TT}{t u:TS}(h:c σ H λb a=>if b=true then t D σ a else u D σ a):QB c t u D σ H:=h
theorem Vq(h:D.bk σ H):LD D σ H:=h
theorem SO{i:Nat}{v:V}{R:St->Hp->Prop}(h:R (σ.set i (Ya v)) H):zb i v σ H R:=h
theorem SA{R:St->Hp->Prop}(h:R σ H):Sv [] σ H R:=⟨rfl,h⟩
theorem Pp{t:TG}{u:OM}{v:V}{r:List V}{R:St->Hp->Prop}(h:t v σ H λa b=>u r a b R):HF t u (v::r) σ H R:=⟨v,r,rfl,h⟩
theorem Ud{n:Nat}{t:OM}{a:Ye}{xs:List V}{R:St->Hp->Prop}(h1:bI K H a xs)(h2:xs.length=n)(h:t xs σ H R):OR K n t (.ref a) σ H R:=⟨a,xs,rfl,h1,h2,h⟩
theorem V8{i:Nat}{v:V}(h1:σ[i]?=Ya (Ya v))(h:Q v H):Jv i σ H Q:=⟨v,h1,h⟩
theorem x_c{v:V}(h:Q v H):tC v σ H Q:=h
theorem XB{r:R2}{ta tb:TE}(h:ta σ H λx a=>tb σ a λy b=>r x y b Q):Vl r ta tb σ H Q:=h
theorem XH{g:Int->Int->V}{i j:Int}(h:Q (g i j) H):N6 g (.int i) (.int j) H Q:=⟨i,j,rfl,rfl,h⟩
theorem x_I{C:Int->Int->Prop}{g:Int->Int->V}{i j:Int}(a:C i j)(h:Q (g i j) H):rI C g (.int i) (.int j) H Q:=⟨i,j,rfl,rfl,a,h⟩
theorem VU(i j:Int):decide (V.int i=V.int j)=decide (i=j):=by
 by_cases h:i=j
 ·subst h;rw[decide_eq_true rfl,decide_eq_true rfl]
 ·rw[decide_eq_false h,decide_eq_false (λe=>h (V.int.inj e))]
theorem Wa(i j:Yo):decide (V.str i=V.str j)=decide (i=j):=by
 by_cases h:i=j
 ·subst h;rw[decide_eq_true rfl,decide_eq_true rfl]
 ·rw[decide_eq_false h,decide_eq_false (λe=>h (V.str.inj e))]
theorem Xg{i j:Int}(h:Q (.bl (decide (i=j))) H):XO (.int i) (.int j) H Q:=⟨rfl,by rw[VU];exact h⟩
theorem W0{i j:Int}(h:Q (.bl (!decide (i=j))) H):XU (.int i) (.int j) H Q:=⟨rfl,by rw[VU];exact h⟩
theorem VF{i j:Yo}(h:Q (.bl (decide (i=j))) H):XO (.str i) (.str j) H Q:=⟨rfl,by rw[Wa];exact h⟩
theorem WZ{i j:Yo}(h:Q (.bl (!decide (i=j))) H):XU (.str i) (.str j) H Q:=⟨rfl,by rw[Wa];exact h⟩
theorem Ui{t:TE}{R:Bool->Hp->Prop}(h:t σ H λx a=>∃k,x=.bl k/\R k a):N7 t σ H R:=h
theorem VY{t:TE}{R:Bool->Hp->Prop}(h:t σ H λx a=>∃k,MX K x a k/\R k a):Uj K t σ H R:=h
theorem x_b{t:TE}{R:Bool->Hp->Prop}(h:t σ H λx a=>∃k,x=.bl k/\R k a):tB t σ H R:=h
theorem Te{c:Bool}{P:Bool->Prop}(h:P c):∃k,V.bl c=.bl k/\P k:=⟨c,rfl,h⟩
theorem O6{c:Bool}{P:Bool->Prop}(h:P c):∃k,MX K (.bl c) H k/\P k:=⟨c,rfl,h⟩
theorem W4{t u:TT}{R:Bool->Hp->Prop}(h:t σ H λc a=>if c=true then u σ a R else R false a):Wb t u σ H R:=h
theorem XG{t u:TT}{R:Bool->Hp->Prop}(h:t σ H λc a=>if c=true then R true a else u σ a R):X5 t u σ H R:=h
theorem VT{t:TT}{R:Bool->Hp->Prop}(h:t σ H λc a=>R (!c) a):V9 t σ H R:=h
theorem Sm{ta tb:TE}(h:ta σ H λx a=>∃c,x=.bl c/\if c=true then tb σ a Q else Q (.bl false) a):Sd ta tb σ H Q:=h
theorem Wk{ta tb:TE}(h:ta σ H λx a=>∃c,x=.bl c/\if c=true then Q (.bl true) a else tb σ a Q):VX ta tb σ H Q:=h
theorem TC{ta:TE}(h:ta σ H λx a=>∃c,x=.bl c/\Q (.bl (!c)) a):R1 ta σ H Q:=h
theorem Ww{t:TT}{ta tb:TE}(h:t σ H λc a=>if c=true then ta σ a Q else tb σ a Q):X9 t ta tb σ H Q:=h
theorem W8{R:List V->Hp->Prop}(h:R [] H):BU σ H R:=h
theorem Va{ta:TE}{tr:TA}{R:List V->Hp->Prop}(h:ta σ H λx a=>tr σ a λxs b=>R (x::xs) b):zJ ta tr σ H R:=h
theorem WT{t:TA}(h:t σ H λxs a=>nwT xs a Q):S1 t σ H Q:=h
theorem WW{t:TA}(h:t σ H λxs a=>X6 xs a Q):VC t σ H Q:=h
theorem V2{xs:List V}(hl:xs.length<=YB)(h:∀p a,H p=Yb->aH H a->a p=Ya (.tup xs)->Q (.ref p) a):nwT xs H Q:=⟨hl,λp hp=>h p _ hp (aC hp) ai⟩
theorem Wz{xs:List V}(hl:xs.length<=YB)(h:∀p a,H p=Yb->aH H a->a p=Ya (.lst xs)->Q (.ref p) a):X6 xs H Q:=⟨hl,λp hp=>h p _ hp (aC hp) ai⟩
theorem S6(h:∀p a,H p=Yb->aH H a->a p=Ya (.dK (dI []))->Q (.ref p) a):Ls σ H Q:=λp hp=>h p _ hp (aC hp) ai
theorem SY{sp:Sp}{a:List V}{E:XK}{t:TA}(h:t σ H λvs b=>sp (vs++a) b Q E):HZ sp a E t σ H Q:=h
theorem X1{r:List V->Hp->VK->Prop}{t:TA}(h:t σ H λvs a=>r vs a Q):XF r t σ H Q:=h
theorem XY{r:V->Option Int->Option Int->Hp->VK->Prop}{a:TE}{tl b:TO}(h:a σ H λx c=>tl σ c λl d=>b σ d λu e=>r x l u e Q):tSl r a tl b σ H Q:=h
theorem NP{R:Option Int->Hp->Prop}(h:R Yb H):Ip σ H R:=h
theorem TR{t:TE}{R:Option Int->Hp->Prop}(h:t σ H λx a=>∃i,x=.int i/\R (Ya i) a):RU t σ H R:=h
theorem Pc{c:Int}{P:Int->Prop}(h:P c):∃k,V.int c=.int k/\P k:=⟨c,rfl,h⟩
theorem Vw{a:Ye}{xs:List V}{lo c:Option Int}(h1:bc K H a xs)(h:∀p b,H p=Yb->aH H b->b p=Ya (.lst (zk xs lo c))->Q (.ref p) b):UT K (.ref a) lo c H Q:=⟨a,xs,rfl,h1,λp hp=>h p _ hp (aC hp) ai⟩
theorem Xj{a:Ye}{xs:List V}{i:Int}{v:V}(h1:bc K H a xs)(h2:u5 xs i=Ya v)(h:Q v H):Ql K (.ref a) (.int i) H Q:=⟨a,xs,i,v,rfl,rfl,h1,h2,h⟩
theorem V3{a:Ye}{xs:List V}{i:Int}{v:V}(h1:bI K H a xs)(h2:u5 xs i=Ya v)(h:Q v H):QN K (.ref a) (.int i) H Q:=⟨a,xs,i,v,rfl,rfl,h1,h2,h⟩
theorem TH{td ty:TE}(h:td σ H λx c=>ty σ c λy b=>∃a v,x=.ref a/\iK b a y (Ya v)/\Q v b):Rz td ty σ H Q:=h
theorem U1{d:Ye}{m:List (Int×Int)}{k n:Int}{P:V->Prop}(hd:Rd H d (.dK (dI m)))(hk:vt m k=Ya n)(h:P (.int n)):∃a v,V.ref d=.ref a/\iK H a (.int k) (Ya v)/\P v:=
 ⟨d,.int n,rfl,.inl ⟨_,YN k,hd,rfl,by rw[sV,hk];rfl⟩,h⟩
theorem Q9{td ty b:TE}(h:td σ H λx c=>∃a,x=.ref a/\Vj c a/\ty σ c λy e=>b σ e λz d=>∃o,iK d a y o/\Q (o.getD z) d):Md td ty b σ H Q:=h
theorem UQ{d:Ye}{m:List (Int×Int)}{k:Int}{P:Option V->Prop}(hd:Rd H d (.dK (dI m)))(h:P ((vt m k).map V.int)):∃o,iK H d (.int k) o/\P o:=
 ⟨_,.inl ⟨_,YN k,hd,rfl,(sV m k).symm⟩,h⟩
theorem He(o:Option Int)(z:Int):(o.map V.int).getD (V.int z)=V.int (o.getD z):=by cases o<;>rfl
theorem AW(o:Option Int):(o.map V.int).isSome=o.isSome:=by cases o<;>rfl
theorem Wm{td ty:TE}(h:ty σ H λy c=>td σ c λx b=>∃a o,x=.ref a/\iK b a y o/\Q (.bl o.isSome) b):Ws ty td σ H Q:=h
theorem NB{td ty:TE}(h:ty σ H λy c=>td σ c λx b=>∃a o,x=.ref a/\iK b a y o/\Q (.bl (!o.isSome)) b):Hu ty td σ H Q:=h
theorem OT{d:Ye}{m:List (Int×Int)}{k:Int}{P:Option V->Prop}(hd:Rd H d (.dK (dI m)))(h:P ((vt m k).map V.int)):∃a o,V.ref d=.ref a/\iK H a (.int k) o/\P o:=
 ⟨d,_,rfl,.inl ⟨_,YN k,hd,rfl,(sV m k).symm⟩,h⟩
theorem SW{td ty tv:TE}(h:tv σ H λv c=>td σ c λx d=>ty σ d λy e=>∃a b,x=.ref a/\z5 e a y v b/\D.nx σ b):HB td ty tv D σ H:=h
theorem LS{d:Ye}{m:List (Int×Int)}{k n:Int}{P:Hp->Prop}(hd:H d=Ya (.dK (dI m)))(nd:(m.map (·.1)).Nodup)(hl:m.length<YB)(h:∀b,K2 d H b->b d=Ya (.dK (dI (d3 m k n)))->P b):∃a c,V.ref d=.ref a/\z5 H a (.int k) (.int n) c/\P c:=
 ⟨d,_,rfl,.inl ⟨_,YN k,hd,rfl,by rw[vX];exact hl,rfl⟩,h _ .upd (by rw[ai,Lz m k n nd])⟩
theorem VV{b:TI}{g:TG}{tb:TS}(h:b σ H λJ e=>∃W:Nat->Nat->St->Hp->Prop,(∃m,W 0 m σ e)/\∀i m σ H,W i m σ H->
 (J.stop i H/\D.nx σ H)∨(J.go i H/\∃N:St->Hp->Prop,(∀c a,N c a->∃d,d<m/\W (i+ 1) d c a)/\∀x a,J.yld i H x a->g x σ a λf j=>tb {D with nx:=N,ct:=N,bk:=D.nx} f j)):PX b g tb D σ H:=h
theorem Rp{tl:TE}{R:It->Hp->Prop}(h:tl σ H λx b=>∃a,x=.ref a/\(∃xs,bc K b a xs)/\R (Lp K a) b):NA K tl σ H R:=h
theorem Tu{a:Ye}{xs:List V}{P:Ye->Prop}(hd:bc K H a xs)(h:P a):∃b,V.ref a=.ref b/\(∃xs,bc K H b xs)/\P b:=⟨a,rfl,⟨xs,hd⟩,h⟩
theorem SN{tl:TE}{R:It->Hp->Prop}(h:tl σ H λx b=>∃a,x=.ref a/\(∃xs,bI K b a xs)/\R (MJ K a) b):Ur K tl σ H R:=h
theorem SX{a:Ye}{xs:List V}{P:Ye->Prop}(hd:bI K H a xs)(h:P a):∃b,V.ref a=.ref b/\(∃xs,bI K H b xs)/\P b:=⟨a,rfl,⟨xs,hd⟩,h⟩
theorem Wg{ta:TA}{R:It->Hp->Prop}(h:ta σ H λvs a=>∃j:Int,vs=[.int j]/\-(2^62)<=j/\j<2^62/\R (K3 0 j.toNat) a):Rw ta σ H R:=h
theorem XI{T:String}{r:V->List V->Hp->VK->Prop}{to:TE}{t:TA}(h:to σ H λx a=>Sx K T x a/\t σ a λxs b=>r x xs b Q):Xs K T r to t σ H Q:=h
theorem Vy{T:String}{r:V->List V->Hp->VK->Prop}{to:TE}(h:to σ H λx a=>Sx K T x a/\r x [] a Q):Wu K T r to σ H Q:=h
theorem WQ{a:Ye}{xs:List V}{P:Prop}(hd:H a=Ya (.lst xs))(h:P):Sx K "list" (.ref a) H/\P:=⟨.inl ⟨rfl,_,bc.of hd⟩,h⟩
theorem NM{a:Ye}{xs:List V}{y:V}(hd:H a=Ya (.lst xs))(hl:xs.length<YB)(h:∀b,K2 a H b->b a=Ya (.lst (xs++[y]))->Q .non b):xV (.ref a) [y] H Q:=⟨a,xs,y,rfl,rfl,hd,hl,h _ .upd ai⟩
theorem Ua{a:List (Option Nat)}{d:TI}{g:TG}{e:TT}{f:TE}(h:d σ H λJ j=>∀D,j D=Yb->∃W:Nat->Nat->St->Hp->Prop,(∃m,W 0 m (Es a σ) (upd j D (.lst [])))/\
 ∀i m k b,W i m k b->(J.stop i b/\Q (.ref D) b)∨(J.go i b/\∃N:St->Hp->Prop,(∀l n,N l n->∃o,o<m/\W (i+ 1) o l n)/\
  ∀x c,J.yld i b x c->fj g e f D N x k c)):Mz a d g e f σ H Q:=h
theorem UL{a:Ye}{kvs:List (bJ×V)}{P:List (bJ×V)->Prop}(hd:Rd H a (.dK kvs))(h:P kvs):∃p ys,[V.ref a]=[.ref p]/\Rd H p (.dK ys)/\P ys:=⟨a,kvs,rfl,hd,h⟩
end
theorem Xl{A B:Prop}(h:B):if(!true)=true then A else B:=h
theorem V0{A B:Prop}(h:A):if(!false)=true then A else B:=h
theorem WI:(10:Int)^(18:Int).toNat=1000000000000000000:=by decide
theorem Lr:(0:Int)<(10:Int)^(18:Int).toNat:=by rw[WI];decide
theorem Mc:(0:Int)<(10:Int)^(60:Int).toNat:=Int.pow_pos (by decide)
section
variable{X:Cx}{K:Yc}
theorem bA(a:X.K=K):K1 X (QN K):=by subst a;exact M8
theorem bT(a:X.K=K):K1 X (Ql K):=by subst a;exact HJ
theorem ud(a:X.K=K):XJ X (UT K):=by subst a;exact PJ
theorem L7(a:X.K=K)(b:X.A.units+ 64<aap):tE X (aaq .Eq) (TY K):=by subst a;exact Qg b
theorem Gu(a:X.K=K)(b:X.A.units+ 64<aap):tE X (aaq .NotEq) (Q2 K):=by subst a;exact Pz b
theorem Ii(a:X.K=K)(b:X.A.units+ 64<aap):tE X (aaq .NotIn) (P7 K true):=by subst a;exact JV b
def Sg(K:Yc):List V->Hp->VK->Prop:=λb H Q=>∃p a,b=[.ref p]/\(bc K H p a∨bI K H p a)/\Q (.int a.length) H
theorem de(a:X.K=K):c6 X (.builtin "len") (Sg K):=by subst a;exact Co
def Ic(K:Yc):List V->Hp->VK->Prop:=λb H Q=>∃p a,b=[.ref p]/\(bc K H p a∨bI K H p a)/\∀l,H l=Yb->Q (.ref l) (upd H l (.lst a))
theorem y3(a:X.K=K):c6 X (.type "list") (Ic K):=by subst a;exact B4
def Eb(K:Yc):List V->Hp->VK->Prop:=λb H Q=>∃p a,b=[.ref p]/\((bc K H p a/\∀l,H l=Yb->Q (.ref l) (upd H l (.tup a)))∨(bI K H p a/\Q (.ref p) H))
theorem iL(a:X.K=K):c6 X (.type "tuple") (Eb K):=by subst a;exact zS
def XE(K:Yc):List V->Hp->VK->Prop:=λa H Q=>∃(x:V) (t:Yd) (T:String) (b:Bool),a=[x,.ty T]/\um K H x t/\af2 K t (.type T)=Ya b/\Q (.bl b) H
theorem u9(a:X.K=K):c6 X (.builtin "isinstance") (XE K):=by subst a;exact CW
theorem mX{es:List cT}{k:Nat}{t:OM}{n:Nat}{pos:abE}(b:X.K=K)(c:X.calm=true)(h:We X es t)(hn:(acQ es X.env).length=n:=by rfl)(a:(acQ es X.env).findIdx? (·.1)=none:=by rfl):PG X (.Tuple es k pos) (OR K n t):=by subst b;exact Uz c h hn a
theorem bC{a l:cT}{tl:TE}(b:X.K=K)(hl:PE X l tl):PI X a l (NA K tl):=by subst b;exact Pq hl
theorem Ho{a l:cT}{tl:TE}(b:X.K=K)(hl:PE X l tl):PI X a l (Ur K tl):=by subst b;exact TZ hl
theorem Hw{a l:cT}{tl:TE}(b:X.K=K)(hl:PE X l tl):PI X a l (Uw K tl):=by subst b;exact TL hl
theorem Ee{x:Yo}{pos:abE}{t:TE}(a:X.K=K)(h:PE X (.Name x pos) t):PT X (.Name x pos) (Uj K t):=by
 subst a;exact FC h λ_=>rfl
theorem sU{o e:cT}{to:TE}{t:TA}{a b:abE}(c:X.K=K)(h:PE X (.Call (.Attribute o "append" a) [e] [] b) (Xs X.K "list" xV to t)):PE X (.Call (.Attribute o "append" a) [e] [] b) (Xs K "list" xV to t):=by subst c;exact h
end
section
variable{σ:St}{H:Hp}{Q:VK}{K:Yc}
theorem Pj{a:Ye}{xs:List V}(hd:bI K H a xs)(h:Q (.int xs.length) H):Sg K [.ref a] H Q:=⟨a,xs,rfl,.inr hd,h⟩
theorem N3{a:Ye}{xs:List V}(hd:bI K H a xs)(h:∀p b,H p=Yb->aH H b->b p=Ya (.lst xs)->Q (.ref p) b):Ic K [.ref a] H Q:=⟨a,xs,rfl,.inr hd,λp hp=>h p _ hp (aC hp) ai⟩
theorem Q8{a:Ye}{xs:List V}(hd:bc K H a xs)(h:∀p b,H p=Yb->aH H b->b p=Ya (.tup xs)->Q (.ref p) b):Eb K [.ref a] H Q:=⟨a,xs,rfl,.inl ⟨hd,λp hp=>h p _ hp (aC hp) ai⟩⟩
end
theorem cR{H b:Hp}{a:Ye}{u:HO}(s:aH H b)(h:Rd H a u):Rd b a u:=by
 rcases h with h|⟨o,h⟩
 ·exact .inl (s _ _ h)
 ·exact .inr ⟨o,s _ _ h⟩
theorem aQ{α:Type}{ls:List α}{i:Nat}{n:α}(h:ls[i]?=Ya n):ls.take (i+ 1)=ls.take i++[n]:=by
 rw[age,h];rfl
theorem gz{a:List Int}{i:Nat}{x:V}(h:(a.map V.int)[i]?=Ya x):∃n:Int,a[i]?=Ya n/\x=.int n:=by
 rw[Yy]at h;cases e:a[i]? with
 |none=>rw[e]at h;cases h
 |some n=>rw[e]at h;exact⟨n,rfl,(YK h).symm⟩
theorem IL{α:Type}{xs:List α}{i:Int}{v:α}(h0:0<=i)(h:xs[i.toNat]?=Ya v):u5 xs i=Ya v:=by
 obtain⟨n,rfl⟩:=aaR h0;exact cD h
abbrev Nm:=Int×Int×Int
noncomputable def sM(p:Nm):abJ:=.tuple [.int p.1,.int p.2.1,.int p.2.2]
def xk(H:Hp)(x:V)(p:Nm):Prop:=∃a,x=.ref a/\H a=Ya (.tup [.int p.1,.int p.2.1,.int p.2.2])
abbrev oT(H:Hp):List V->List Nm->Prop:=fm (xk H)
def dC(H c:Hp):Prop:=∀a b,H a=Ya (.tup b)->c a=Ya (.tup b)
theorem dC.trans{c d e:Hp}(a:dC c d)(b:dC d e):dC c e:=λ_ _ h=>b _ _ (a _ _ h)
theorem dC.same{H a:Hp}(e:aH H a):dC H a:=λ_ _ h=>e _ _ h
theorem dC.upd{H:Hp}{l:Ye}{o:HO}(h1:∀xs,H l≠Ya (.tup xs)):dC H (upd H l o):=λa xs h=>by
 have:a≠l:=λe=>h1 xs (e▸h);rw[ak this];exact h
theorem dC.lst{H:Hp}{l:Ye}{o:HO}{ys:List V}(h:H l=Ya (.lst ys)):dC H (L2.upd H l o):=.upd (λ_ z=>by rw[h]at z;cases z)
theorem xk.up{H b:Hp}(m:dC H b){x:V}{p:Nm}(h:xk H x p):xk b x p:=by
 obtain⟨a,e,h⟩:=h;exact⟨a,e,m _ _ h⟩
theorem oT.up{H a:Hp}(m:dC H a):∀{xs:List V} {ns:List Nm},oT H xs ns->oT a xs ns
 |_,_,.nil=>.nil
 |_,_,.cons r t=>.cons (r.up m) (oT.up m t)
theorem oT.get{H:Hp}:∀{xs:List V} {ns:List Nm} {i:Nat} {x:V},oT H xs ns->xs[i]?=Ya x->∃p,ns[i]?=Ya p/\xk H x p:=by
 intro a b i x w
 induction w generalizing i with
 |nil=>exact λe=>by simp at e
 |cons r _ ih=>
  intro e;cases i with
  |zero=>simp at e;subst e;exact⟨_,rfl,r⟩
  |succ i=>
   obtain⟨p,h1,h2⟩:=ih (i:=i) (by simpa using e);exact⟨p,by simpa using h1,h2⟩
theorem oT.len{H:Hp}{xs:List V}{ns:List Nm}(h:oT H xs ns):xs.length=ns.length:=Y7 h
theorem oT.at{H:Hp}{xs:List V}{ns:List Nm}{i:Nat}(h:oT H xs ns)(a:i<ns.length):∃x,xs[i]?=Ya x/\xk H x ns[i]:=by
 have b:i<xs.length:=by rw[h.len];exact a
 obtain⟨p,e,r⟩:=h.get (Yk b);rw[Yk a]at e;cases e;exact⟨_,Yk b,r⟩
theorem oT.snoc{H:Hp}:∀{xs:List V} {ns:List Nm} {x:V} {p:Nm},oT H xs ns->xk H x p->oT H (xs++[x]) (ns++[p]):=by
 intro a b c d w h
 induction w with
 |nil=>exact .cons h .nil
 |cons r _ ih=>exact .cons r ih
theorem xk.dp{K:Yc}{H:Hp}{x:V}{p:Nm}(h:xk H x p):Dp K H x (sM p):=by
 obtain⟨a,rfl,h⟩:=h;exact .tup (bI.of h) (.cons (.int _) (.cons (.int _) (.cons (.int _) .nil)))
theorem oT.dps{K:Yc}{H:Hp}:∀{xs:List V} {ns:List Nm},oT H xs ns->Ea K H xs (ns.map sM)
 |_,_,.nil=>.nil
 |_,_,.cons r t=>.cons r.dp (oT.dps t)
theorem Gm(p:Nm):(sM p).canLay0=true:=rfl
theorem uO:∀ns:List Nm,aaK (ns.map sM)=true
 |[]=>rfl
 |p::ns=>by rw[YF,abN,Gm,uO ns];rfl
theorem HM:∀ns:List Nm,ad2 (ns.map sM)<=1
 |[]=>by rw[ac9,PyData.depthAll.eq_1];omega
 |p::ns=>by
  have e:ad2 ((p::ns).map sM)=max (sM p).depth (ad2 (ns.map sM)):=rfl;rw[e];have:=HM ns;have:(sM p).depth=1:=rfl;omega
theorem Ll(ns:List Nm):(aeq (ns.map sM)).canLay0=true:=by rw[PyData.canLay0.eq_5];exact uO ns
theorem N0(ns:List Nm):(aeq (ns.map sM)).depth<=60:=by
 have e:(aeq (ns.map sM)).depth=ad2 (ns.map sM)+ 1:=rfl;have:=HM ns;omega
section
variable{σ:St}{H:Hp}{Q:VK}{K:Yc}{X:Cx}
theorem IE(a:X.K=K):K1 X (XX K):=by subst a;exact TM
theorem WY{a:Ye}{xs:List V}{i:Int}{v:V}(h1:bc K H a xs∨bI K H a xs)(h2:u5 xs i=Ya v)(h:Q v H):XX K (.ref a) (.int i) H Q:=by
 rcases h1 with h1|h1
 ·exact .inl ⟨a,xs,i,v,rfl,rfl,h1,h2,h⟩
 ·exact .inr (.inl ⟨a,xs,i,v,rfl,rfl,h1,h2,h⟩)
theorem Qw{a:Ye}{xs:List V}(hd:bc K H a xs∨bI K H a xs)(h:Q (.int xs.length) H):Sg K [.ref a] H Q:=⟨a,xs,rfl,hd,h⟩
end
theorem LY{P:Prop}(h:P):V.non=V.non/\P:=⟨rfl,h⟩
section
variable{X:Cx}{CX:LF}{k:Nat}{f C:Ye}{fd:YD}{ps:List Yo}{sp:Sp}{Zm:List V}{ds:List Yd}{E:XK}{x m:Yo}{p pos Ze:abE}{e o:cT}{es:List cT}{ta:TE}{t:TA}
structure Ng(K:Yc)(C:Ye)(m:Yo)(f:Ye):Prop where
 ga:ahn K (.ref C) "__getattribute__"=Ya (Ya (.builtin "type.__getattribute__"))
 rd:PySem.W.readsIn K C (.type "type")=true
 at_:PySem.W.findCls K (.ref C) (.type "type") m=Ya (.val (.ref f))
 hd:ae8 (.ref f)=true
 kp:abK K (.ref f)=true
theorem My{pl:aeI Bool}(w:Gl X x)(hm:X.mg x=Ya (.ref C))(c:Ng X.K C m f)(F:aF X.prog X.w X.K X.mg X.base bp k f fd ps sp)(y:Binds X.K fd ps [])(z:cQ k X.A)(ha:PA X (e::es) t)
  (a:(x==("__debug__":Yo))=false:=by decide)
  (b:YW (e::es) X.env=(false,pk e X.env)::YW es X.env:=by rfl) (d:(aal pos (YW es X.env)).any (·.1)=false:=by rfl)
  (A:pk (.Call (.Attribute (.Name x p) m Ze) (e::es) [] pos) X.env=(do
   let ov←pk (.Name x p) X.env
   adN Ze.atName
   let (f,first)←acF [ov] (ac6 ov m pl)
   aeg pos f first (aal pos (YW (e::es) X.env)) (abv pos (aaN [] X.env))):=by rfl):
  PE X (.Call (.Attribute (.Name x p) m Ze) (e::es) [] pos) (HZ sp [] E0 t):=by
 intro l s σ H Q I h;refine abp (pl:=pl) (cu (Im (v:=.ref C) w hm rfl a l s σ H (λv g=>v=.ref C/\t σ g λi n=>sp (i++[]) n Q E0) I ⟨rfl,h⟩) λu J B=>?_) A;obtain⟨x,g,j,D,ex,q⟩:=B;subst ex;obtain rfl:u=YG C:=D;refine PySem.W.method_cls j.kIn c.ga (PySem.W.cls_value j.kIn c.rd c.at_ c.hd ?_);refine abP (first:=[]) (h₀:=X.base) I.ok.mod.kin c.kp (cu (ha pos l _ σ g _ (j.tok _) q) λE K ⟨i,n,o,r,G⟩=>⟨o.kIn,?_⟩) b d;exact r9 (us:=E) (vs:=i) F z y .nil nQ o r G
def bV(P:YZ)(w:Y6)(K:Yc)(mg:Yo->Option Yd)(base:YT)(k:Nat)(m:Yo)(a:List (Ye×Sp)):Prop:=
 ∀cs∈a,∃f fd ps,Av K cs.1/\bx K cs.1 m f/\aF P w K mg base bp k f fd ps cs.2/\Binds K fd ps []
theorem bV.nil{P:YZ}{w:Y6}{K:Yc}{mg:Yo->Option Yd}{base:YT}:bV P w K mg base k m []:=λ_ h=>nomatch h
theorem bV.cons{P:YZ}{w:Y6}{K:Yc}{mg:Yo->Option Yd}{base:YT}{a:List (Ye×Sp)}(c:Av K C)(hm:bx K C m f)(F:aF P w K mg base bp k f fd ps sp)(b:Binds K fd ps [])(r:bV P w K mg base k m a):bV P w K mg base k m ((C,sp)::a):=by
 intro cs h;rcases Yn.mp h with rfl|h
 ·exact⟨f,fd,ps,c,hm,F,b⟩
 ·exact r cs h
def Vb(b:List (Ye×Sp))(m:Yo)(t:TA)(σ:St)(x:V)(H:Hp)(Q:VK):Prop:=
 ∃cs∈b,∃a c fs,x=.ref a/\H a=Ya (.ins cs.1 c fs)/\fs.lookup m=Yb/\t σ H λd e=>cs.2 (x::(d++[])) e Q E0
def Gg(a:List (Ye×Sp))(m:Yo)(ta:TE)(t:TA):TE:=λσ H Q=>ta σ H λx b=>Vb a m t σ x b Q
theorem bO{pl:aeI Bool}{i:List (Ye×Sp)}(M:bV X.prog X.w X.K X.mg X.base k m i)(v:PE X o ta)(w:cQ k X.A)(ha:PA X (e::es) t)
  (b:YW (e::es) X.env=(false,pk e X.env)::YW es X.env:=by rfl) (d:(aal pos (YW es X.env)).any (·.1)=false:=by rfl)
  (y:pk (.Call (.Attribute o m Ze) (e::es) [] pos) X.env=(do
   let ov←pk o X.env
   adN Ze.atName
   let (f,first)←acF [ov] (ac6 ov m pl)
   aeg pos f first (aal pos (YW (e::es) X.env)) (abv pos (aaN [] X.env))):=by rfl):
  PE X (.Call (.Attribute o m Ze) (e::es) [] pos) (Gg i m ta t):=by
 intro j s σ H Q I h;refine abp (pl:=pl) (cu (v j s σ H _ I h) λu z A=>?_) y;obtain⟨x,B,n,C,cs,g,a,L,fs,ex,D,l,q⟩:=A;subst ex;obtain rfl:u=YG a:=C;obtain⟨f,fd,ps,c,hm,F,E⟩:=M cs g;refine jm n D c hm l ?_;refine abP (first:=[.ref a]) (h₀:=X.base) I.ok.mod.kin hm.kp (cu (ha pos j z σ B _ n q) λG N ⟨J,O,p,r,K⟩=>⟨p.kIn,?_⟩) b d;exact r9 (us:=.ref a::G) (vs:=.ref a::J) F w E .nil nQ p (.cons rfl r) K
theorem bB{pl:aeI Bool}{e:List (Ye×Sp)}(M:bV X.prog X.w X.K X.mg X.base k m e)(g:PE X o ta)(i:cQ k X.A)
  (j:pk (.Call (.Attribute o m Ze) [] [] pos) X.env=(do
   let ov←pk o X.env
   adN Ze.atName
   let (f,first)←acF [ov] (ac6 ov m pl)
   aeg pos f first (aal pos (YW [] X.env)) (abv pos (aaN [] X.env))):=by rfl):
  PE X (.Call (.Attribute o m Ze) [] [] pos) (Gg e m ta BU):=by
 intro n s σ H Q I h;refine abp (pl:=pl) (cu (g n s σ H _ I h) λu w p=>?_) j;obtain⟨x,y,b,r,cs,d,a,z,fs,ex,t,l,q⟩:=p;subst ex;obtain rfl:u=YG a:=r;obtain⟨f,fd,ps,c,hm,F,v⟩:=M cs d;refine jm b t c hm l ?_;exact agU (first:=[.ref a]) b.kIn hm.kp (r9 (us:=[.ref a]) (vs:=[.ref a]) F i v .nil nQ b (.cons rfl .nil) q)
end
section
variable{X:Cx}{K:Yc}
theorem aJ{e:cT}{ta:TE}{f:Yo}{pos:abE}(a:X.K=K)(b:PE X e ta)(c:abk e f X.env (pk e X.env)=pk e X.env):PE X (.Attribute e f pos) (T6 K ta f):=by subst a;exact UD b c
theorem cE{o a:cT}{ta tv:TE}{f:Yo}{pos b:abE}(c:X.K=K)(ha:PE X o ta)(d:PE X a tv)(hs:adM a (Ya (.Attribute o f b)) pos.line X.env=pure false):PS X (.Assign [.Attribute o f b] a pos) (MY K ta tv f):=by subst c;exact UX ha d hs
end
section
variable{D:oU}{σ:St}{H:Hp}{Q:VK}{K:Yc}
def W5(K:Yc)(f:Yo)(x:V)(H:Hp)(Q:VK):Prop:=∃a C b fs v,x=.ref a/\H a=Ya (.ins C b fs)/\Av K C/\cz K C f/\fs.lookup f=Ya v/\Q v H
theorem Xe{ta:TE}{f:Yo}(h:ta σ H λx a=>W5 K f x a Q):T6 K ta f σ H Q:=h
theorem SQ{f:Yo}{a C b:Ye}{fs:List (Yo×V)}{v:V}(e:H a=Ya (.ins C b fs))(c:Av K C)(n:cz K C f)(l:fs.lookup f=Ya v)(h:Q v H):W5 K f (.ref a) H Q:=⟨a,C,b,fs,v,rfl,e,c,n,l,h⟩
def sfK(K:Yc)(f:Yo)(y x:V)(H:Hp)(R:Hp->Prop):Prop:=∃a C b fs,x=.ref a/\H a=Ya (.ins C b fs)/\Av K C/\cz K C f/\fs.length<1000/\R (upd H a (.ins C b (dz f y fs)))
theorem SM{ta tv:TE}{f:Yo}(h:tv σ H λy a=>ta σ a λx b=>sfK K f y x b λc=>D.nx σ c):MY K ta tv f D σ H:=h
theorem Wn{f:Yo}{y:V}{a C b:Ye}{fs:List (Yo×V)}{R:Hp->Prop}(e:H a=Ya (.ins C b fs))(c:Av K C)(n:cz K C f)(hl:fs.length<1000)(h:∀d,K2 a H d->d a=Ya (.ins C b (dz f y fs))->R d):sfK K f y (.ref a) H R:=⟨a,C,b,fs,rfl,e,c,n,hl,h _ .upd ai⟩
theorem PL{a:List (Ye×Sp)}{m:Yo}{ta:TE}{t:TA}(h:ta σ H λx b=>Vb a m t σ x b Q):Gg a m ta t σ H Q:=h
theorem vB{c:List (Ye×Sp)}{m:Yo}{t:TA}{C a b:Ye}{sp:Sp}{fs:List (Yo×V)}(e:H a=Ya (.ins C b fs))(l:fs.lookup m=Yb)(h:t σ H λvs d=>sp (.ref a::(vs++[])) d Q E0):Vb ((C,sp)::c) m t σ (.ref a) H Q:=
 ⟨(C,sp),Ys,a,b,fs,rfl,e,l,h⟩
theorem vg{a:List (Ye×Sp)}{m:Yo}{t:TA}{cs:Ye×Sp}{x:V}(h:Vb a m t σ x H Q):Vb (cs::a) m t σ x H Q:=by
 obtain⟨c,h1,h2⟩:=h;exact⟨c,Yr _ h1,h2⟩
def X4(C:Ye)(sp:Sp)(vs:List V)(H:Hp)(Q:VK):Prop:=∀x a,H x=Yb->H a=Yb->a≠x->sp (.ref x::(vs++[])) (upd (upd H a (.own x)) x (.ins C a [])) (λv b=>v=.non/\Q (.ref x) b) E0
theorem U7{C:Ye}{sp:Sp}{t:TA}(h:t σ H λvs a=>X4 C sp vs a Q):Sb C sp [] E0 t σ H Q:=h
theorem Xz{C:Ye}{sp:Sp}{vs:List V}(h:∀x a c,H x=Yb->aH H c->c x=Ya (.ins C a [])->sp (.ref x::(vs++[])) c (λv f=>v=.non/\Q (.ref x) f) E0):X4 C sp vs H Q:=by
 intro x a nx d g;refine h x a _ nx (λb o e=>?_) ai;rw[ak (ax e nx),ak (ax e d)];exact e
end
theorem XZ{f b c:St->Hp->Prop}{r:VK}{σ:St}{H:Hp}(h:f σ H):oU.nx ⟨f,r,b,c⟩ σ H:=h
theorem VO{σ:St}{H:Hp}{R:Bool->Hp->Prop}(h:R true H):Sw σ H R:=h
theorem SJ{g:TG}{c:TT}{d:TE}{D:Ye}{N:St->Hp->Prop}{x:V}{σ:St}{H:Hp}(h:g x σ H λa i=>c a i λb e=>if b=true then d a e λy f=>∃ys,f D=Ya (.lst ys)/\ys.length<YB/\N a (upd f D (.lst (ys++[y])))else N a e):fj g c d D N x σ H:=h
theorem UU{D:oU}{σ:St}{H:Hp}{c:TT}{u:TS}(h:c σ H λb a=>if b=true then False else u D σ a):qf (QB c MW Hg) u D σ H:=h
theorem LO{H b:Hp}(s:aH H b){xs:List V}{ps:List (Int×Int)}(r:jQ H xs ps):jQ b xs ps:=r.mono λa xs e=>s a _ e
theorem Mb{K:Yc}{H b:Hp}{a:Ye}{xs:List V}(e:aH H b)(h:bI K H a xs):bI K b a xs:=by
 rcases h with(h|⟨o,h⟩)|h
 ·exact .inl (.inl (e _ _ h))
 ·exact .inl (.inr ⟨o,e _ _ h⟩)
 ·exact .inr h
theorem Nz{H a:Hp}(s:aH H a){xs:List V}{b:List (List (Int×Int))}(r:OO H xs b):OO a xs b:=fm.mapP r λ_ _ ⟨d,e,q⟩=>⟨d,e,cR s q⟩
structure Ck(m:List (Int×Int)):Prop where
 nd:(m.map (·.1)).Nodup
 nn:∀p∈m,0<=p.2
 rg:∀p∈m,0<=p.1/\p.1<63
noncomputable def B9:List Int:=(YR 63).map fun(h:Nat)=>(h:Int)
theorem BH{k:Int}:k∈B9↔0<=k/\k<63:=by
 unfold B9;rw[YC];constructor
 ·rintro⟨n,hn,rfl⟩;have:=xu.mp hn;omega
 ·rintro⟨h0,h1⟩;exact⟨k.toNat,xu.mpr (by omega),by omega⟩
theorem nd_len{α:Type}[DecidableEq α]:∀{l m:List α},l.Nodup->(∀x∈l,x∈m)->l.length<=m.length
 |[],m,_,_=>Y9 _
 |x::l,m,nd,sub=>by
  rw[BD]at nd;have b:=sub x Ys;have c:=agE b;have:=nd_len (l:=l) (m:=m.erase x) nd.2 λy a=>(acU (show y≠x from λz=>nd.1 (z▸a))).mpr (sub y (Yr _ a));have q:=c.length_eq;rw[Y5]at q⊢;omega
theorem iO{l:List Int}(nd:l.Nodup)(h:∀k∈l,0<=k/\k<63):l.length<64:=by
 have:=nd_len nd (m:=B9) λk a=>BH.mpr (h k a);unfold B9 at this;rw[Yg,oh]at this;omega
theorem Ck.keys{m:List (Int×Int)}(c:Ck m):∀k∈m.map (·.1),0<=k/\k<63:=λk a=>by
 obtain⟨p,hp,e⟩:=YC.mp a;rw[←e];exact c.rg p hp
theorem Ck.len{m:List (Int×Int)}(c:Ck m):m.length<64:=by
 have:=iO c.nd c.keys;rw[Yg]at this;exact this
theorem Ck.nil:Ck []:=⟨af6,(λp hp=>nomatch hp),(λp hp=>nomatch hp)⟩
theorem Ck.ct{m:List (Int×Int)}(c:Ck m)(k:Int):0<=ct m k:=by
 unfold L2.ct;cases e:vt m k with
 |none=>exact aaW _
 |some v=>exact c.nn _ (GA e)
theorem kX{m:List (Int×Int)}{k:Int}(h:k∉m.map (·.1)):ct m k=0:=by
 unfold ct;rw[Il h];rfl
theorem W6{m:List (Int×Int)}{k:Int}(h:ct m k≠0):k∈m.map (·.1):=by
 by_cases z:k∈m.map (·.1)
 ·exact z
 ·exact absurd (kX z) h
theorem Xk{m:List (Int×Int)}{k:Int}(h:k∈m.map (·.1)):vt m k=Ya (ct m k):=by
 obtain⟨v,e⟩:=Qv h;unfold ct;rw[e];rfl
theorem ND{m:List (Int×Int)}(nd:(m.map (·.1)).Nodup){p:Int×Int}(h:p∈m):ct m p.1=p.2:=by
 unfold ct;rw[RM (k:=p.1) (v:=p.2) nd h];rfl
theorem Ck.put{m:List (Int×Int)}(c:Ck m){k v:Int}(h0:0<=k)(h1:k<63)(a:0<=v):Ck (d3 m k v):=
 ⟨Mv m k v c.nd,λp hp=>by
  rcases tF m k v p hp with z|z
  ·rw[z];exact a
  ·exact c.nn p z,λp hp=>by
  rcases tF m k v p hp with z|z
  ·rw[z];exact⟨h0,h1⟩
  ·exact c.rg p z⟩
theorem tD(m:List (Int×Int))(k v j:Int):ct (d3 m k v) j=if j=k then v else ct m j:=by
 unfold ct;rw[LP];split<;>rfl
structure Td(m:List (Int×Int)):Prop extends Ck m where
 ps:∀p∈m,0<p.2
theorem Td.nil:Td []:=⟨Ck.nil,(λp hp=>nomatch hp)⟩
theorem Td.pos{m:List (Int×Int)}(t:Td m){k:Int}(h:k∈m.map (·.1)):0<L2.ct m k:=by
 obtain⟨p,hp,e⟩:=YC.mp h;rw[←e,ND t.nd hp];exact t.ps p hp
def Lw(a:List (List (Int×Int)))(k b:Int):Prop:=(∃m∈a,ct m k=b)/\∀m∈a,ct m k<=b
def G8(a:List (List (Int×Int)))(k b:Int):Prop:=(∃m∈a,ct m k=b)/\∀m∈a,b<=ct m k
noncomputable def cov(m n:List (Int×Int)):Bool:=(YR 63).all fun(h:Nat)=>decide (ct n h<=ct m h)
theorem O8{m n:List (Int×Int)}(a:Ck m)(b:Ck n):cov m n=true↔∀k,ct n k<=ct m k:=by
 unfold cov;rw[afl];constructor
 ·intro h k;by_cases c:0<=k/\k<63
  ·have:=of_decide_eq_true (h k.toNat (xu.mpr (by omega)));rw[show((k.toNat:Nat):Int)=k by omega]at this;exact this
  ·rw[kX (λz=>c (b.keys k z))];exact a.ct k
 ·intro h n _;exact decide_eq_true (h n)
noncomputable def eU(ps:List (Int×Int)):List (Int×Int):=ps.filter λp=>decide (0<p.2)
theorem Qt{ps:List (Int×Int)}{p:Int×Int}(h:0<p.2):eU (ps++[p])=eU ps++[p]:=by
 unfold eU;rw[Y3,aak,decide_eq_true h];rfl
theorem UJ{ps:List (Int×Int)}{p:Int×Int}(h:¬ 0<p.2):eU (ps++[p])=eU ps:=by
 unfold eU;rw[Y3,aak,decide_eq_false h];exact sq _
theorem CI{ps:List (Int×Int)}(h:(ps.map (·.1)).Nodup):((eU ps).map (·.1)).Nodup:=by
 unfold eU;exact h.sublist ((aec).map _)
theorem PN(ps:List (Int×Int)):(eU ps).length<=ps.length:=Y0 _ _
noncomputable def NW(S:List Int)(f:Int->Int):List (Int×Int):=S.map λk=>(k,f k)
theorem lX(S:List Int)(f:Int->Int):(NW S f).map (·.1)=S:=by
 unfold NW;rw[gf];exact adv _
theorem Mi{S:List Int}{f:Int->Int}(nd:S.Nodup)(rg:∀k∈S,0<=k/\k<63):Td (eU (NW S f)):=by
 have mem:∀p∈eU (NW S f),0<p.2/\p.1∈S:=λp hp=>by
  have h:=cw.mp hp;refine⟨of_decide_eq_true h.2,?_⟩;have:=YV (f:=(·.1)) h.1;rw[lX]at this;exact this
 exact⟨⟨CI (by rw[lX];exact nd),λp hp=>ajg (mem p hp).1,λp hp=>rg _ (mem p hp).2⟩,λp hp=>(mem p hp).1⟩
theorem Lx{S:List Int}{f:Int->Int}(nd:S.Nodup)(k:Int)(hk:k∈S)(h0:0<=f k):ct (eU (NW S f)) k=f k:=by
 by_cases h:0<f k
 ·have hm:(k,f k)∈eU (NW S f):=cw.mpr ⟨YV (f:=λk=>(k,f k)) hk,decide_eq_true h⟩;exact ND (p:=(k,f k)) (CI (by rw[lX];exact nd)) hm
 ·have e:f k=0:=by omega
  rw[e];apply kX;intro z;obtain⟨p,hp,a⟩:=YC.mp z;have q:=cw.mp hp;obtain⟨b,_,c⟩:=YC.mp q.1;have:=of_decide_eq_true q.2;rw[←c]at a this;have a:b=k:=a;rw[a]at this;exact h this
theorem HC{S:List Int}{f:Int->Int}{k:Int}(hk:k∉S):ct (eU (NW S f)) k=0:=by
 apply kX;intro z;apply hk;have:k∈(NW S f).map (·.1):=((aec).map _).subset z;rw[lX]at this;exact this
theorem two{m n:List (Int×Int)}{k:Int}:(∃x∈[m,n],k∈x.map (·.1))↔k∈m.map (·.1)∨k∈n.map (·.1):=by simp
noncomputable def sW(m:List (Int×Int))(S:List Int):List (Int×Int):=(S.filter λk=>decide (0<ct m k)).map λk=>(k,ct m k)
theorem IK{m:List (Int×Int)}{S:List Int}{k:Int}(h:0<ct m k):sW m (S++[k])=sW m S++[(k,ct m k)]:=by
 unfold sW;rw[Y3,Yx,aak,decide_eq_true h];rfl
theorem Og{m:List (Int×Int)}{S:List Int}{k:Int}(h:¬ 0<ct m k):sW m (S++[k])=sW m S:=by
 unfold sW;rw[Y3,Yx,aak,decide_eq_false h];exact sq _
theorem PR(m:List (Int×Int))(S:List Int):(sW m S).length<=S.length:=by
 unfold sW;rw[Yg];exact Y0 _ _
theorem PQ(m:List (Int×Int))(h:Int):((eF (dI m) (YN h:bJ)).getD (.int 0))=V.int (ct m h):=by
 rw[sV];unfold ct;cases vt m h<;>rfl
noncomputable def u4(n c k w cs:V):List (Yo×V):=[("number",n),("caller",c),("count",k),("word",w),("causes",cs)]
theorem Qr(n c k w cs:V):dz "causes" cs (dz "word" w (dz "count" k (dz "caller" c (dz "number" n []))))=u4 n c k w cs:=by
 have e:∀(a b:Yo),decide (a=b)=false->a≠b:=λa b h=>of_decide_eq_false h;simp only[dz,u4,if_neg (e "number" "caller" (by decide +kernel)),if_neg (e "number" "count" (by decide +kernel)),if_neg (e "caller" "count" (by decide +kernel)),if_neg (e "number" "word" (by decide +kernel)),if_neg (e "caller" "word" (by decide +kernel)),if_neg (e "count" "word" (by decide +kernel)),if_neg (e "number" "causes" (by decide +kernel)),if_neg (e "caller" "causes" (by decide +kernel)),if_neg (e "count" "causes" (by decide +kernel)),if_neg (e "word" "causes" (by decide +kernel))]
theorem F8{n c k w cs:V}:(u4 n c k w cs).lookup ("number":Yo)=Ya n:=by kernel_rfl
theorem Gp{n c k w cs:V}:(u4 n c k w cs).lookup ("caller":Yo)=Ya c:=by kernel_rfl
theorem IZ{n c k w cs:V}:(u4 n c k w cs).lookup ("count":Yo)=Ya k:=by kernel_rfl
theorem K7{n c k w cs:V}:(u4 n c k w cs).lookup ("word":Yo)=Ya w:=by kernel_rfl
theorem GY{n c k w cs:V}:(u4 n c k w cs).lookup ("causes":Yo)=Ya cs:=by kernel_rfl
theorem L5{n c k w cs:V}:(u4 n c k w cs).lookup ("free":Yo)=none:=by kernel_rfl
theorem DP{n c k w cs:V}:(u4 n c k w cs).lookup ("in_turn":Yo)=none:=by kernel_rfl
theorem yW{n c k w cs:V}:(u4 n c k w cs).lookup ("asks_place":Yo)=none:=by kernel_rfl
theorem Nt{n c k w cs:V}:(u4 n c k w cs).lookup ("kind":Yo)=none:=by kernel_rfl
theorem uJ{n c k w cs:V}:(u4 n c k w cs).lookup ("name":Yo)=none:=by kernel_rfl
theorem Nh{n c k w cs:V}:(u4 n c k w cs).lookup ("rank":Yo)=none:=by kernel_rfl
theorem Oh{n c k w cs:V}:(u4 n c k w cs).lookup ("told":Yo)=none:=by kernel_rfl
theorem O3{K:Yc}{H:Hp}{Q:VK}{a:Ye}{kd:Yo}(h:kd="own"∨kd="heard"∨kd="one")(ha:bI K H a [.str "own",.str "heard",.str "one"])(q:Q (.bl false) H):P7 K true (.str kd) (.ref a) H Q:=by
 refine⟨a,_,_,_,rfl,.inr ha,.cons (.str _) (.cons (.str _) (.cons (.str _) .nil)),.str kd,by kernel_rfl,?_,by show 0<=60;decide,?_⟩
 ·rcases h with rfl|rfl|rfl<;>kernel_rfl
 ·have e:(([.str "own",.str "heard",.str "one"]:List abJ).any λz=>z.eqv (.str kd))=true:=by rcases h with rfl|rfl|rfl<;>kernel_rfl
  show Q (.bl (!_)) H;rw[e];exact q
theorem V7:decide (("heard":Yo)="own")=false:=by decide +kernel
theorem VG:decide (("one":Yo)="own")=false:=by decide +kernel
theorem Vv:decide (("one":Yo)="heard")=false:=by decide +kernel
theorem VP:decide (("own":Yo)="own")=true:=by decide +kernel
theorem Vt:decide (("heard":Yo)="heard")=true:=by decide +kernel
noncomputable def Xm(p:Int×Int):abJ:=.tuple [.int p.1,.int p.2]
theorem jQ.dps{K:Yc}{H:Hp}:∀{xs:List V} {ps:List (Int×Int)},jQ H xs ps->Ea K H xs (ps.map Xm)
 |_,_,.nil=>.nil
 |_,_,.cons r t=>by
  obtain⟨a,rfl,h⟩:=r;exact .cons (.tup (bI.of h) (.cons (.int _) (.cons (.int _) .nil))) (jQ.dps t)
theorem BN:∀ps:List (Int×Int),aaK (ps.map Xm)=true
 |[]=>rfl
 |p::ps=>by rw[YF,abN,BN ps];rfl
theorem HK{K:Yc}{H:Hp}{Q:VK}{a b:Ye}{xs:List V}{ds:List abJ}(ha:bc K H a xs)(c:Ea K H xs ds)(hl:aaK ds=true)(f:bc K H b [])(q:Q (.bl (!decide (ds=[]))) H):Q2 K (.ref a) (.ref b) H Q:=by
 refine⟨.list ds,.list [],.inr ⟨_,_,_,rfl,rfl,ha,c⟩,.inr ⟨_,_,_,rfl,rfl,f,.nil⟩,by rw[PyData.canLay0.eq_5];exact hl,rfl,by have:(aeq []).depth=1:=rfl;omega,?_⟩;have e:(aeq ds).eqv (.list [])=decide (ds=[]):=by
  cases ds with
  |nil=>rfl
  |cons d ds=>rw[decide_eq_false (by intro z;cases z)];rfl
 rw[e];exact q
theorem Lf{H:Hp}{Q:VK}{a b:Ye}{xs zs:List V}(h1:H a=Ya (.lst xs))(h2:H b=Ya (.lst zs))(hl:xs.length+ zs.length<=1000)(h:∀p c,H p=Yb->aH H c->c p=Ya (.lst (xs++zs))->Q (.ref p) c):VD (.ref a) (.ref b) H Q:=⟨a,b,xs,zs,rfl,rfl,h1,h2,rl (aG hl),λp hp=>h p _ hp (aC hp) ai⟩
def K0(d:Ye)(B H:Hp):Prop:=∀b o,b≠d->B b=Ya o->H b=Ya o
theorem K0.refl(d:Ye)(B:Hp):K0 d B B:=λ_ _ _ h=>h
structure i5(K:Yc)(C:Ye):Prop where
 cl:Av K C
 n1:cz K C "number"
 n2:cz K C "caller"
 n3:cz K C "count"
 n4:cz K C "word"
 n5:cz K C "causes"
noncomputable def dG(m:List (Int×V)):List (bJ×V):=m.map λp=>(YN p.1,p.2)
theorem sT(m:List (Int×V)):(dG m).length=m.length:=Yg ..
noncomputable def RV:List (Int×V)->Int->Option V
 |[],_=>Yb
 |p::m,k=>if p.1=k then Ya p.2 else RV m k
theorem Hc:∀(m:List (Int×V)) (k:Int),eF (dG m) (YN k:bJ)=RV m k
 |[],_=>rfl
 |p::m,k=>by
  show eF ((YN p.1,p.2)::dG m) (YN k)=_;unfold RV;by_cases e:p.1=k
  ·rw[if_pos e,dg (by rw[e])]
  ·rw[if_neg e,du (λz=>e (aaA z)),Hc m k]
noncomputable def xJ:List (Int×V)->Int->V->List (Int×V)
 |[],k,v=>[(k,v)]
 |p::m,k,v=>if p.1=k then(p.1,v)::m else p::xJ m k v
theorem u7:∀(m:List (Int×V)) (k:Int) (v:V) (p:Int×V),p∈xJ m k v->p=(k,v)∨p∈m
 |[],k,v,p,h=>.inl (by simpa [xJ]using h)
 |q::m,k,v,p,h=>by
  have a:p∈(if q.1=k then(q.1,v)::m else q::xJ m k v):=h;by_cases e:q.1=k
  ·rw[if_pos e]at a;rcases Yn.mp a with z|z
   ·exact .inl (by rw[z,e])
   ·exact .inr (Yr _ z)
  ·rw[if_neg e]at a;rcases Yn.mp a with z|z
   ·exact .inr (by rw[z];exact Ys)
   ·rcases u7 m k v p z with z|z
    ·exact .inl z
    ·exact .inr (Yr _ z)
theorem Nw(k:Int):∀m:List (Int×V),((dG m).any λkv=>decide (kv.1=(YN k:bJ)))=m.any λp=>decide (p.1=k)
 |[]=>rfl
 |p::m=>by
  show(decide ((YN p.1:bJ)=YN k)||(dG m).any _)=(decide (p.1=k)||m.any _);rw[Nw k m];congr 1;rw[decide_eq_decide];exact⟨λh=>aaA h,λh=>congrArg _ h⟩
theorem y6:∀(m:List (Int×V)) (k:Int) (v:V),(m.any λp=>decide (p.1=k))=false->xJ m k v=m++[(k,v)]
 |[],_,_,_=>rfl
 |p::m,k,v,h=>by
  rw[ach,agz]at h;show(if p.1=k then(p.1,v)::m else p::xJ m k v)=_;rw[if_neg (of_decide_eq_false h.1),y6 m k v h.2];rfl
theorem Ds:∀(m:List (Int×V)) (k:Int) (v:V),(m.map (·.1)).Nodup->(m.any λp=>decide (p.1=k))=true->xJ m k v=m.map λp=>if p.1=k then(p.1,v)else p
 |[],_,_,_,h=>by cases h
 |p::m,k,v,nd,h=>by
  rw[YF,BD]at nd;show(if p.1=k then(p.1,v)::m else p::xJ m k v)=(if p.1=k then(p.1,v)else p)::m.map _;by_cases e:p.1=k
  ·rw[if_pos e,if_pos e];congr 1;have:m.map (λp=>if p.1=k then(p.1,v)else p)=m.map id:=aax λq a=>by
    rw[if_neg (λz=>nd.1 (by rw[e,←z];exact YV a))];rfl
   rw[this,adv]
  ·rw[if_neg e,if_neg e,Ds m k v nd.2 (by
    rw[ach,decide_eq_false e,aeB]at h;exact h)]
theorem MB(m:List (Int×V))(k:Int)(v:V)(nd:(m.map (·.1)).Nodup):gL (dG m) (YN k:bJ) (v)=dG (xJ m k v):=by
 unfold gL;rw[Nw];cases e:m.any λp=>decide (p.1=k)with
 |false=>
  rw[y6 m k v e];unfold dG;rw[Yx];rfl
 |true=>
  rw[Ds m k v nd e];unfold dG;rw[gf,if_pos rfl,gf];apply aax;intro p _;show(if(YN p.1:bJ)=YN k then((YN p.1:bJ),v)else(YN p.1,p.2))=((YN (if p.1=k then(p.1,v)else p).1:bJ),(if p.1=k then(p.1,v)else p).2);by_cases z:p.1=k
  ·rw[if_pos (congrArg _ z),if_pos z]
  ·rw[if_neg (λq=>z (aaA q)),if_neg z]
section
variable{X:Cx}
theorem yw{α β:Type}{R:α->β->Prop}:∀{xs:List α} {ys:List β},xs.length=ys.length->(∀(i:Nat) x y,xs[i]?=Ya x->ys[i]?=Ya y->R x y)->fm R xs ys:=by
 intro xs
 induction xs with
 |nil=>
  intro ys h _;cases ys with
  |nil=>exact .nil
  |cons _ _=>cases h
 |cons x xs ih=>
  intro ys h k;cases ys with
  |nil=>cases h
  |cons y ys=>exact .cons (k 0 x y rfl rfl) (ih (ade h) λi a b ha c=>k (i+ 1) a b (by simpa using ha) (by simpa using c))
theorem FG:∀(ns:List Int) (n:Nat),n<=ns.length->preSum (λi=>ns.getD i 0) n=(ns.take n).sum:=by
 intro ns n
 induction n with
 |zero=>intro _;rfl
 |succ n ih=>
  intro h;show preSum _ n+ ns.getD n 0=_;rw[ih (by omega),age,afH];have:n<ns.length:=h;rw[YJ,Yk this];simp
theorem Kj(k:X.calm=true):c6 X (.builtin "sum") (λxs H Q=>∃(p:Ye) (ns:List Int),xs=[.ref p]/\bc X.K H p (ns.map V.int)/\Q (.int ns.sum) H):=by
 intro C s σ H xs D Q I r h;obtain⟨p,ns,rfl,l,q⟩:=h;obtain⟨u,rfl,m⟩:=dW r;cases m;obtain⟨a,f,d,E⟩:=I.list l;have hl:a.toArray.size=ns.length:=by rw[Yz,←f.length,Yg]
 have hp:p<s.heap.objs.size:=let ⟨_,z,_⟩:=d.isList;Yw z;refine call_sum_walkG (aaY d.isList ?_);refine⟨s.heap.objs.size,[s.heap.objs.size,p],[s.heap.objs.size],a.toArray.size,_,_,λi=>ns.getD i 0,rfl,adl (A:=X.A.in1) (I.ok.hd k) _ p (YL hp) a.toArray,
  ⟨⟨_,Yv _ rfl,rfl,rfl⟩,d.isList.push _⟩,λb c=>?_,λi v n=>?_,λF tk w kp=>?_⟩
 ·rw[aaU];rcases Yn.mp c with z|z
  ·rw[z];exact aa2 _
  ·rw[Yi.mp z];exact aba hp
 ·have g:a[i]?=Ya v:=by simpa using n
  have c:i<ns.length:=by
   have:=(Yj.mp g).1;rw[←hl,Yz];exact this
  obtain⟨u,j,y⟩:=f.get (i:=i) (x:=V.int ns[i]) (by rw[Yy,Yk c];rfl);rw[g]at j;cases j;obtain⟨t,rfl⟩:=y;refine⟨t,?_⟩;show abn ns[i] t=abn (ns.getD i 0) t;rw[YJ,Yk c,afh]
 ·refine⟨.int ns.sum,H,I.kept (t':=tk) λb o e=>kp b o ?_ (Yh _ e),⟨w,?_⟩,q⟩
  ·intro z;have B:b=s.heap.objs.size:=by simpa using z
   exact absurd (Yw e) (by rw[B];exact Y8 _)
  ·rw[hl,FG ns ns.length (Yl _),YY]
abbrev Dj(H:Hp):List V->List (Int×V)->Prop:=fm λx p=>∃a,x=.ref a/\H a=Ya (.tup [.int p.1,p.2])
theorem Jq{j:List (Ye×uc)}{σ:St}{H:Hp}{s:Ym}(I:aM X j σ H s):∀{xs:List V} {us:List Yd} {ps:List (Int×V)},Dj H xs ps->Vals xs us->
  ∃d:List (bJ×Yd),KV (dG ps) d/\d.length=us.length/\∀(i:Nat) v,us[i]?=Ya v->∃a f k x o c,v=.ref a/\d[i]?=Ya (k,x)/\(aY X.prog X.w).is k f=true/\s.heap.get? a=Ya o/\o.cls=.type "tuple"/\o.data=.seq #[f,x] c:=by
 intro xs us ps w
 induction w generalizing us with
 |nil=>
  intro w;cases w;exact⟨[],.nil,rfl,λi v e=>by simp at e⟩
 |@cons x p xs ps h t ih=>
  intro w;cases w with|cons r q=>
  rename_i u us;obtain⟨d,l,m,y⟩:=ih q;obtain⟨a,rfl,ha⟩:=h;obtain rfl:u=YG a:=r;obtain⟨_,b,z,o,ho,A,n,hd,_⟩:[V.int p.1,p.2].length<=YB/\∃b:List Yd,Vals [V.int p.1,p.2] b/\ox s.heap a b.toArray:=I.hok a _ ha;obtain⟨F,g,rfl,B,C⟩:=AD z;obtain⟨D,rfl⟩:=B;refine⟨(YN p.1,g)::d,.cons ⟨rfl,C⟩ l,congrArg (·+ 1) m,λi v e=>?_⟩;cases i with
  |zero=>
   have E:YG a=v:=YK e;subst E;exact⟨a,_,_,g,o,n,rfl,rfl,p7 X.prog X.w p.1 D,ho,A,hd⟩
  |succ i=>exact y i v e
theorem Bh:∀(ps a:List (Int×V)),((a++ps).map (·.1)).Nodup->vb (dG a) (dG ps)=dG (a++ps)
 |[],a,_=>by rw[sq];rfl
 |p::ps,a,h=>by
  have e:vb (dG a) (dG (p::ps))=vb (gL (dG a) (YN p.1:bJ) p.2) (dG ps):=rfl;have h1:(a.map (·.1)).Nodup:=by rw[Yx]at h;exact(KW.mp h).1
  have h2:p.1∉a.map (·.1):=by
   rw[Yx,YF]at h;intro z;exact(KW.mp h).2.2 _ z _ Ys rfl
  rw[e,MB a p.1 p.2 h1,y6 a p.1 p.2 (by
   rw[aeL];intro q b;exact λz=>h2 (by rw[←of_decide_eq_true z];exact YV b)),Bh ps (a++[p]) (by rw[abc];exact h),abc]
  rfl
theorem F5(d:X.calm=true):c6 X (.type "dict") (λxs H Q=>∃(a:Ye) (ys:List V) (ps:List (Int×V)),xs=[.ref a]/\H a=Ya (.lst ys)/\Dj H ys ps/\(ps.map (·.1)).Nodup/\ps.length<=1000/\∀p,H p=Yb->Q (.ref p) (upd H p (.dK (dG ps)))):=by
 intro o s σ H xs t Q I r h;obtain⟨a,ys,ps,rfl,ha,hp,nd,hl,q⟩:=h;obtain⟨u,rfl,f⟩:=dW r;cases f;obtain⟨z,g,n,i,b,e⟩:=I.lstM ha;obtain⟨j,k,l,m⟩:=Jq I hp i;refine GX.uL (knd:=aY X.prog X.w) (I.ok.hd d) e (by rw[←b];exact z) l m λv tk kp dd=>?_;have c:KV (dG ps) (afa [] j):=by
  have:=KV.merge k (show KV (dG []) []from .nil);rw[Bh ps [] (by simpa using nd)]at this;exact this
 refine⟨.ref s.heap.objs.size,_,I.laid (t':=tk) kp (Yl _) (GH ?_ (beq_eq_false_iff_ne.mpr (Ne.symm (YL I.big))) c dd),rfl,q _ (I.hok.fresh (Yl _))⟩;rw[sT];exact rl (aG hl)
end
section
variable{D:oU}{σ:St}{H:Hp}{Q:VK}
theorem thaw_same{d:Ye}{H A:Hp}{u:HO}(s:K0 d H A)(h:H d=Ya u):aH H (upd A d u):=λb o e=>by
 by_cases z:b=d
 ·subst z;rw[h]at e;cases e;exact ai
 ·rw[ak z];exact s b o z e
theorem V5{d:Ye}{m:List (Int×V)}{k:Int}{v:V}{P:V->Prop}(hd:Rd H d (.dK (dG m)))(hk:RV m k=Ya v)(h:P v):∃a v,V.ref d=.ref a/\iK H a (.int k) (Ya v)/\P v:=
 ⟨d,v,rfl,.inl ⟨_,YN k,hd,rfl,by rw[Hc,hk]⟩,h⟩
theorem Ul{d:Ye}{kvs:List (bJ×V)}{P:Ye->Prop}(hd:Rd H d (.dK kvs))(h:P d):∃a,V.ref d=.ref a/\Vj H a/\P a:=⟨d,rfl,.inl ⟨_,hd⟩,h⟩
theorem UR{d:Ye}{m:List (Int×V)}{k:Int}{P:Option V->Prop}(hd:Rd H d (.dK (dG m)))(h:P (RV m k)):∃a o,V.ref d=.ref a/\iK H a (.int k) o/\P o:=⟨d,_,rfl,.inl ⟨_,YN k,hd,rfl,(Hc m k).symm⟩,h⟩
theorem Qi{d:Ye}{m:List (Int×V)}{k:Int}{v:V}{P:Hp->Prop}(hd:H d=Ya (.dK (dG m)))(nd:(m.map (·.1)).Nodup)(hl:m.length<YB)(h:∀b,K2 d H b->b d=Ya (.dK (dG (xJ m k v)))->P b):∃a c,V.ref d=.ref a/\z5 H a (.int k) v c/\P c:=
 ⟨d,_,rfl,.inl ⟨_,YN k,hd,rfl,by rw[sT];exact hl,rfl⟩,h _ .upd (by rw[ai,MB m k v nd])⟩
end
theorem L1{n h:Int}(h0:0<=n)(h1:0<=h):(!decide (V.int (Builtin.bitAnd n (2^h.toNat))=V.int 0))=n.toNat.testBit h.toNat:=by
 have a:(0:Int)<=2^h.toNat:=G0 _;have b:((2:Int)^h.toNat).toNat=2^h.toNat:=by
  have:((2:Int)^h.toNat)=((2^h.toNat:Nat):Int):=by push_cast;rfl
  rw[this,YQ]
 rw[ajx h0 a,b];cases q:n.toNat.testBit h.toNat with
 |false=>
  rw[(GB.Hq _ _).mpr q];rfl
 |true=>
  have z:¬ (n.toNat &&& 2^h.toNat=0):=λz=>by rw[(GB.Hq _ _).mp z]at q;cases q
  have c:¬ V.int ((n.toNat &&& 2^h.toNat:Nat):Int)=V.int 0:=λe=>z (by injection e with e;omega);rw[decide_eq_false c];rfl
noncomputable def yO(n:Int)(i:Nat):List Int:=((YR i).filter λh=>n.toNat.testBit h).map (fun(h:Nat)=>(h:Int))
theorem MP(n:Int)(i:Nat):(yO n i).length<=i:=by
 unfold yO;rw[Yg];have:=Y0 (λh=>n.toNat.testBit h) (YR i);rw[oh]at this;exact this
theorem MO{n:Int}{i:Nat}(h:n.toNat.testBit i=true):yO n (i+ 1)=yO n i++[(i:Int)]:=by
 unfold yO;rw[abw,Y3,Yx,aak,h];rfl
theorem Pk{n:Int}{i:Nat}(h:n.toNat.testBit i=false):yO n (i+ 1)=yO n i:=by
 unfold yO;rw[abw,Y3,Yx,aak,h];exact sq _
theorem JU{n:Int}(h0:0<=n)(h1:n<9223372036854775808):aaI n<=63/\yO n (aaI n)=GB.hl n:=by
 have a:n.natAbs=n.toNat:=by omega
 have l:n.toNat<2^63:=by
  have:(2:Nat)^63=9223372036854775808:=by decide
  omega
 have b:aaI n<=63:=ajr (by rw[a];exact l);refine⟨b,?_⟩;unfold yO GB.hl;rw[GB.OW b];unfold aaI;by_cases z:n=0
 ·subst z;decide
 ·have c:(n==0)=false:=by simpa using z
  rw[c,a];exact Nat.lt_log2_self
theorem yj:∀{l m:List Nat},l.Pairwise (·<·)->m.Pairwise (·<·)->(∀x,x∈l↔x∈m)->l=m
 |[],[],_,_,_=>rfl
 |[],y::m,_,_,h=>absurd ((h y).mpr Ys) (by simp)
 |x::l,[],_,_,h=>absurd ((h x).mp Ys) (by simp)
 |x::l,y::m,hl,hm,h=>by
  rw[adb]at hl hm;have e:x=y:=by
   rcases Yn.mp ((h x).mp Ys)with z|z
   ·exact z
   ·rcases Yn.mp ((h y).mpr Ys)with w|w
    ·exact w.symm
    ·have:=hm.1 x z;have:=hl.1 y w;omega
  subst e;rw[yj hl.2 hm.2 λz=>?_];constructor
  ·intro a;rcases Yn.mp ((h z).mp (Yr _ a))with w|w
   ·subst w;exact absurd (hl.1 _ a) (Y8 _)
   ·exact w
  ·intro a;rcases Yn.mp ((h z).mpr (Yr _ a))with w|w
   ·subst w;exact absurd (hm.1 _ a) (Y8 _)
   ·exact w
theorem CP{α:Type}{P:List α->Prop}(h0:P [])(h1:∀l a,P l->P (l++[a]))(l:List α):P l:=by
 have b:∀r:List α,P r.reverse:=by
  intro r
  induction r with
  |nil=>exact h0
  |cons a r ih=>rw[aht];exact h1 _ _ ih
 have:=b l.reverse;rw[List.reverse_reverse]at this;exact this
theorem So:∀(l:List Nat) (b:Nat),l.Pairwise (·<·)->(∀x∈l,x<b)->(l.map λh=>2^h).sum<2^b:=by
 refine CP ?_ ?_
 ·intro b _ _;exact Nat.two_pow_pos b
 ·intro l h a b hp c;rw[ad1]at hp;have h1:=a h hp.1 λx d=>hp.2.2 x d h (by simp);have h2:h<b:=c h (by simp);rw[Yx,afH];have h3:2^(h+ 1)<=2^b:=agy (by decide) h2;rw[ajh]at h3;simp only[YF,ac9,aeE,aji];omega
theorem Rq:∀(l:List Nat),l.Pairwise (·<·)->(l.map λh=>2^h).sum=GB.G9 l:=by
 refine CP ?_ ?_
 ·intro _;rfl
 ·intro l h a hp;rw[ad1]at hp;have h1:=So l h hp.1 λx b=>hp.2.2 x b h (by simp);have e:=a hp.1;rw[Yx,afH];unfold GB.G9 at e⊢;rw[aeU,←e];simp only[YF,ac9,aeE,aji,abe,List.foldl_nil];have:=Nat.two_pow_add_eq_or_of_lt h1 1;rw[Nat.mul_one]at this;rw[ajj,Nat.add_comm,this,Nat.or_comm]
structure Hs(hs:List Int):Prop where
 up:hs.Pairwise (·<·)
 rg:∀h∈hs,0<=h/\h<63
theorem Hs.nat{hs:List Int}(c:Hs hs):∃l:List Nat,hs=l.map (fun(h:Nat)=>(h:Int))/\l.Pairwise (·<·)/\∀x∈l,x<63:=by
 refine⟨hs.map abR,?_,?_,?_⟩
 ·rw[gf]
  conv=>lhs;rw[←adv hs]
  refine aax λh d=>?_;have:=(c.rg h d).1;show h=((h.toNat:Nat):Int);omega
 ·rw[abb];refine c.up.imp_of_mem fun{a b} ha f h=>?_;have:=(c.rg a ha).1;omega
 ·intro x e;obtain⟨h,d,rfl⟩:=YC.mp e;have:=c.rg h d;omega
theorem FH:∀l:List Nat,(l.map fun(h:Nat)=>(h:Int)).sum=((l.sum:Nat):Int)
 |[]=>rfl
 |x::l=>by rw[YF,aeE,aeE,FH l];omega
theorem Hs.set{hs:List Int}(c:Hs hs):0<=(hs.map λh=>1*(2:Int)^h.toNat).sum/\(hs.map λh=>1*(2:Int)^h.toNat).sum<9223372036854775808/\GB.hl (hs.map λh=>1*(2:Int)^h.toNat).sum=hs:=by
 obtain⟨l,rfl,up,rg⟩:=c.nat
 have e:((l.map fun(h:Nat)=>(h:Int)).map λh=>1*(2:Int)^h.toNat).sum=((GB.G9 l:Nat):Int):=by
  rw[←Rq l up,←FH,gf,gf];congr 1;refine aax λh _=>?_;show 1*(2:Int)^((h:Int)).toNat=((2^h:Nat):Int);rw[YQ,ahD]
  push_cast
  rfl
 have lt:GB.G9 l<2^63:=GB.Qc rg;have a:(2:Nat)^63=9223372036854775808:=by decide
 rw[e];refine⟨by omega,by omega,?_⟩;unfold GB.hl;rw[YQ];congr 1;refine yj (GB.kF _) up λx=>?_;rw[GB.En,GB.Dw];constructor
 ·rintro⟨_,h⟩;exact of_decide_eq_true h
 ·intro h;exact⟨rg x h,decide_eq_true h⟩
structure GJ(K:Yc)(C:Ye):Prop where
 cl:Av K C
 n1:cz K C "learnt"
theorem Kn{d:V}:([(("learnt":Yo),d)]:List (Yo×V)).lookup ("learnt":Yo)=Ya d:=by kernel_rfl
theorem Mu{d:V}:([(("learnt":Yo),d)]:List (Yo×V)).lookup ("learn":Yo)=none:=by kernel_rfl
theorem Nu{d:V}:([(("learnt":Yo),d)]:List (Yo×V)).lookup ("floor":Yo)=none:=by kernel_rfl
theorem M6{d:V}:([(("learnt":Yo),d)]:List (Yo×V)).lookup ("reach":Yo)=none:=by kernel_rfl
theorem Ro{d:V}:([(("learnt":Yo),d)]:List (Yo×V)).lookup ("sure":Yo)=none:=by kernel_rfl
abbrev sQ(H:Hp):List (Int×V)->List (Int×List (Int×Int))->Prop:=fm λq e=>q.1=e.1/\∃r,q.2=.ref r/\H r=Ya (.dK (dI e.2))
structure lL(K:Yc)(mg:Yo->Option Yd)(H:Hp)(p d:Ye)(rs:List (Int×V))(tb:List (Int×List (Int×Int))):Prop where
 ob:∃C dx,mg "Known"=Ya (.ref C)/\H p=Ya (.ins C dx [("learnt",.ref d)])
 dc:H d=Ya (.dK (dG rs))
 rw:sQ H rs tb
 hs:Hs (tb.map (·.1))
 td:∀e∈tb,Td e.2
 ap:∀q∈rs,q.2≠V.ref d
theorem sQ.keys{H:Hp}:∀{rs:List (Int×V)} {tb:List (Int×List (Int×Int))},sQ H rs tb->rs.map (·.1)=tb.map (·.1):=by
 intro a b w
 induction w with
 |nil=>rfl
 |cons h _ ih=>rw[YF,YF,h.1,ih]
noncomputable def tbl:List (Int×List (Int×Int))->Int->Option (List (Int×Int))
 |[],_=>Yb
 |e::tb,h=>if e.1=h then Ya e.2 else tbl tb h
theorem sQ.lk{H:Hp}:∀{rs:List (Int×V)} {tb:List (Int×List (Int×Int))} (h:Int),sQ H rs tb->(RV rs h=Yb/\tbl tb h=Yb)∨∃r m,RV rs h=Ya (.ref r)/\tbl tb h=Ya m/\H r=Ya (.dK (dI m)):=by
 intro rs tb h w
 induction w with
 |nil=>exact .inl ⟨rfl,rfl⟩
 |@cons q e rs tb k t ih=>
  obtain⟨a,r,b,c⟩:=k;unfold RV tbl;by_cases z:e.1=h
  ·rw[if_pos (a.trans z),if_pos z];exact .inr ⟨r,e.2,by rw[b],rfl,c⟩
  ·rw[if_neg (λw=>z (a.symm.trans w)),if_neg z];exact ih
theorem tbl_mem:∀{tb:List (Int×List (Int×Int))} {h:Int} {m:List (Int×Int)},tbl tb h=Ya m->(h,m)∈tb
 |e::tb,h,m,q=>by
  unfold tbl at q;by_cases z:e.1=h
  ·rw[if_pos z]at q;cases q;rw[←z];exact Ys
  ·rw[if_neg z]at q;exact Yr _ (tbl_mem q)
theorem tbl_key:∀{tb:List (Int×List (Int×Int))} {h:Int},(tbl tb h).isSome=true↔h∈tb.map (·.1)
 |[],h=>by simp[tbl]
 |e::tb,h=>by
  unfold tbl;rw[YF,Yn];by_cases z:e.1=h
  ·rw[if_pos z];exact⟨λ_=>.inl z.symm,λ_=>rfl⟩
  ·rw[if_neg z,tbl_key];exact⟨.inr,λq=>q.resolve_left λw=>z w.symm⟩
noncomputable def uZ(tb:List (Int×List (Int×Int)))(h:Int)(m:List (Int×Int)):List (Int×List (Int×Int)):=tb.map λe=>if e.1=h then(e.1,m)else e
theorem va(tb:List (Int×List (Int×Int)))(h:Int)(m:List (Int×Int)):(uZ tb h m).map (·.1)=tb.map (·.1):=by
 unfold uZ;rw[gf];refine aax λe _=>?_;show(if e.1=h then(e.1,m)else e).1=e.1;split<;>rfl
theorem uS(h:Int)(m:List (Int×Int))(j:Int):∀tb:List (Int×List (Int×Int)),tbl (uZ tb h m) j=if j=h/\(tbl tb h).isSome then Ya m else tbl tb j
 |[]=>by simp[uZ,tbl]
 |e::tb=>by
  have a:=uS h m j tb;have b:uZ (e::tb) h m=(if e.1=h then(e.1,m)else e)::uZ tb h m:=rfl;rw[b];by_cases z:e.1=h
  ·rw[if_pos z];unfold tbl;rw[if_pos z];by_cases w:e.1=j
   ·rw[if_pos w,if_pos ⟨w.symm.trans z,rfl⟩]
   ·rw[if_neg w,if_neg w,a,if_neg (λq=>w (z.trans q.1.symm)),if_neg (λq=>w (z.trans q.1.symm))]
  ·rw[if_neg z];unfold tbl;rw[if_neg z];by_cases w:e.1=j
   ·rw[if_pos w,if_pos w,if_neg (λq=>z (w.trans q.1))]
   ·rw[if_neg w,if_neg w,a]
noncomputable def SD(d:Ye)(o:uc)(kvs:List (bJ×V)):It:=
 ⟨λi H=>i<kvs.length/\H d=Ya (.frz o (.dK kvs)),λi H x a=>a=H/\∃k,kvs[i]?=Ya (k,x),λi H=>kvs.length<=i/\H d=Ya (.frz o (.dK kvs))⟩
theorem J8{P:YZ}{w:Y6}{K:Yc}{L:cT}{d it:Ye}{o:uc}{kvs:List (bJ×V)}{vs:List (bJ×Yd)}{ep:Nat}(g:KV kvs vs)(B:∀h:YT,h.get? d=Ya o->h.DictAt (aY P w) d vs ep):
  Turn P w K L (SD d o kvs) [it] it (λi h=>h.IsValIter it d i vs.length ep) where
 mem:=by simp
 obj:=λi h st b a=>by
  have e:b=it:=by simpa using a
  subst e;obtain⟨o,e,c,dd⟩:=st;exact⟨o,e,λv z=>by rw[dd]at z;cases z⟩
 keep:=λi h l st k=>let ⟨o,e,c,dd⟩:=st;⟨o,k it (by simp) o e,c,dd⟩
 item:=by
  intro X n hw p C i D s σ H E I m st q;subst n hw p;obtain⟨F,hd⟩:=q;have f:s.heap.get? d=Ya o:=(show s.heap.get? d=Ya o/\_ from I.hok d _ hd).1;have G:kvs[i]?=Ya kvs[i]:=Yk F;obtain⟨u,M,N⟩:=g.get (k:=kvs[i].1) (v:=kvs[i].2) G;obtain⟨r,t,O,x,y,A⟩:=m it (by simp);refine wpAny_pyNext_values_item st (B _ f) M λl j Q=>?_;have R:aM X D σ H {s with heap:=l}:=I.turned (t':=s.toks) (λb o a e=>(Q.2 b a).trans e) r t x y A;obtain⟨T,e,c,dd⟩:=id j;exact⟨u,rfl,Fz (s:={s with heap:=l}) e c dd (by decide) ⟨kvs[i].2,H,R,N,⟨rfl,kvs[i].1,G⟩,j,λb a=>(m b a).1⟩⟩
 done:=by
  intro X n hw p C i D s σ H E I m st q;subst n hw p;obtain⟨F,hd⟩:=q;have f:s.heap.get? d=Ya o:=(show s.heap.get? d=Ya o/\_ from I.hok d _ hd).1;obtain⟨r,t,O,x,y,A⟩:=m it (by simp);have J:kvs.length=vs.length:=KV.length g;exact wpAny_pyNext_values_end (I.ok.hd C) st (B _ f) (abr (by omega)) λl S=>⟨rfl,I.turned (t':=s.toks) (λb o a e=>S b o a e) r t x y A⟩
 self:=λ_ _ _ _ _ st h=>agF st h
section
variable{X:Cx}
def Rv(td:TE):TI:=λσ H R=>td σ H λx b=>∃d a,x=.ref d/\b d=Ya (.dK a)/\∀o,R (SD d o a) (upd b d (.frz o (.dK a)))
theorem Qo{y e:cT}{r t:abE}{td:TE}(A:PE X e td)(f:abk e "values" X.env (pk e X.env)=pk e X.env:=by rfl)(g:(r.endLine==t.line)=true:=by rfl):
  PI X y (.Call (.Attribute e "values" r) [] [] t) (Rv td):=by
 intro l s σ H R I h;refine acf f g (cu (A l s σ H _ I h) λv a B=>?_);obtain⟨x,m,n,C,d,c,ex,hd,q⟩:=B;subst ex;obtain rfl:v=YG d:=C;obtain⟨z,u,k,i,dd⟩:=IM n.hok hd;obtain⟨h1,h2⟩:=vI (T:="dict") n (x:=.ref d) rfl (.inr (.inr (.inl ⟨rfl,.inl ⟨c,hd⟩⟩)));refine⟨"dict","dict.values",aaQ,aby,adg,h1,h2,aaV rfl (ac0 ?_)⟩;refine acH aby h1 ae0 (aeF _) (ahu (aY X.prog X.w) d u) ⟨⟨k,dd⟩,?_⟩;have j:(a.heap.push {cls:=.type "dict_values",data:=.fields #[.ref d]}).DictOf (aY X.prog X.w) d k:=dd.push _;obtain⟨o,D,E,ho,rr⟩:=id j;have w:∀h:YT,h.get? d=Ya o->h.DictAt (aY X.prog X.w) d k E:=λh F=>⟨o,D,F,rr⟩;have G:aM X l σ m {a with heap:=a.heap.push {cls:=.type "dict_values",data:=.fields #[.ref d]}}:=n.kept (t':=a.toks) λb ob e=>Yh _ e;have J:(a.heap.push {cls:=.type "dict_values",data:=.fields #[.ref d]}).IsValuesView a.heap.objs.size d:=⟨_,Yv _ rfl,rfl,rfl⟩;show Yq _ _ (adt (.ref a.heap.objs.size)) _ _ _;refine wpAny_pyIter_values J (w _ ho) ?_;have p:aM X l σ (upd m d (.frz o (.dK c))) {a with heap:=a.heap.push {cls:=.type "dict_values",data:=.fields #[.ref d]}}:=
  G.write (t':=a.toks) (x:=d) (e:=d) (by rw[hd];trivial) (.inl rfl) (λ_ _ _ e=>e) ⟨o,ho⟩ ⟨ho,z,u,k,i,j⟩
 refine⟨_,[_],_,SD d o c,upd m d (.frz o (.dK c)),rfl,p.kept (t':=a.toks) λb ob e=>Yh _ e,J8 i w,⟨_,Yv _ rfl,rfl,rfl⟩,λb K=>?_,q o⟩;have L:b=(a.heap.push {cls:=.type "dict_values",data:=.fields #[.ref d]}).objs.size:=by simpa using K
 subst L;exact p.fpOk (Yl _) (p.hok.fresh (Yl _))
end
theorem Kt{d:Ye}{o:uc}{kvs:List (bJ×V)}{g:TG}{j:TT}{l:TE}{σ:St}{H:Hp}{D:Ye}{Qe:Hp->Prop}(a:Nat->St->Hp->Prop)(h0:a 0 σ H)(hl:∀i σ H,i<=kvs.length->a i σ H->H d=Ya (.frz o (.dK kvs)))
  (hs:∀i k v σ H,kvs[i]?=Ya (k,v)->a i σ H->fj g j l D (a (i+ 1)) v σ H) (hd:∀σ H,a kvs.length σ H->Qe H):
  ∃W:Nat->Nat->St->Hp->Prop,(∃m,W 0 m σ H)/\∀i m h b,W i m h b->((SD d o kvs).stop i b/\Qe b)∨((SD d o kvs).go i b/\∃N:St->Hp->Prop,(∀n r,N n r->∃s,s<m/\W (i+ 1) s n r)/\
   ∀x c,(SD d o kvs).yld i b x c->fj g j l D N x h c):=by
 refine⟨λi m σ H=>m=kvs.length-i/\i<=kvs.length/\a i σ H,⟨kvs.length,by simp,Y9 _,h0⟩,?_⟩;rintro i m σ H ⟨rfl,t,p⟩;have q:=hl i σ H t p;by_cases f:i<kvs.length
 ·refine .inr ⟨⟨f,q⟩,a (i+ 1),λh b u=>⟨kvs.length-(i+ 1),by omega,rfl,f,u⟩,λx b y=>?_⟩;obtain⟨rfl,k,w⟩:=y;exact hs i k x σ _ w p
 ·have e:i=kvs.length:=by omega
  subst e;exact .inl ⟨⟨Yl _,q⟩,hd σ H p⟩
def XS(J:Ye->uc->List (bJ×V)->It)(x:V)(H:Hp)(R:It->Hp->Prop):Prop:=∃d a,x=.ref d/\H d=Ya (.dK a)/\∀o,R (J d o a) (upd H d (.frz o (.dK a)))
theorem Qa{td:TE}{σ:St}{H:Hp}{R:It->Hp->Prop}(h:td σ H λx a=>XS SD x a R):Rv td σ H R:=h
theorem VZ{J:Ye->uc->List (bJ×V)->It}{H:Hp}{d:Ye}{kvs:List (bJ×V)}{R:It->Hp->Prop}(hd:H d=Ya (.dK kvs))(h:∀o A,A d=Ya (.frz o (.dK kvs))->K0 d H A->R (J d o kvs) A):XS J (.ref d) H R:=
 ⟨d,kvs,rfl,hd,λo=>h o _ ai λb u n e=>by rw[ak n];exact e⟩
def X7(K:Yc)(x:V)(H:Hp)(R:It->Hp->Prop):Prop:=∃a,x=.ref a/\(((∃b,bc K H a b)/\R (Lp K a) H)∨((∃b,bI K H a b)/\R (MJ K a) H))
theorem Ux{K:Yc}{tl:TE}{σ:St}{H:Hp}{R:It->Hp->Prop}(h:tl σ H λx a=>X7 K x a R):Uw K tl σ H R:=h
theorem Ol{K:Yc}{a:Ye}{xs:List V}{g:TG}{tb:TS}{D:oU}{σ:St}{H:Hp}(e:bc K H a xs∨bI K H a xs)(c:Nat->St->Hp->Prop)(h0:c 0 σ H)(hl:∀i d b,i<=xs.length->c i d b->aH H b)
  (hs:∀i x σ H,xs[i]?=Ya x->c i σ H->g x σ H λf h=>tb {D with nx:=c (i+ 1),ct:=c (i+ 1),bk:=D.nx} f h) (hd:∀σ H,c xs.length σ H->D.nx σ H):
  X7 K (.ref a) H λJ l=>∃W:Nat->Nat->St->Hp->Prop,(∃m,W 0 m σ l)/\∀i m σ H,W i m σ H->
   (J.stop i H/\D.nx σ H)∨(J.go i H/\∃N:St->Hp->Prop,(∀d b,N d b->∃k,k<m/\W (i+ 1) k d b)/\∀x b,J.yld i H x b->g x σ b λf h=>tb {D with nx:=N,ct:=N,bk:=D.nx} f h):=by
 rcases e with e|e
 ·exact⟨a,rfl,.inl ⟨⟨_,e⟩,l9 c h0 (λi d b j p=>(hl i d b j p).seq e) hs hd⟩⟩
 ·exact⟨a,rfl,.inr ⟨⟨_,e⟩,CD c h0 (λi d b j p=>WL.same (hl i d b j p) _ _ e) hs hd⟩⟩
theorem NL{t:TS}{D:oU}{σ:St}{H:Hp}{d:Ye}{kvs:List (bJ×V)}(hd:H d=Ya (.dK kvs))(h:t {D with nx:=λb a=>(∃o,a d=Ya (.frz o (.dK kvs)))/\D.nx b (upd a d (.dK kvs)),rt:=λv a=>(∃o,a d=Ya (.frz o (.dK kvs)))/\D.rt v (upd a d (.dK kvs))} σ H):R7 t D σ H:=⟨d,kvs,hd,h⟩
section
variable{X:Cx}
end
section
variable{X:Cx}
noncomputable def Hf(v d:Ye):HO:=.ext λh=>h.IsValuesView v d
theorem FU:Vk X "dict.values" (λx vs H Q=>∃d kvs,x=.ref d/\vs=[]/\H d=Ya (.dK kvs)/\∀v,H v=Yb->Q (.ref v) (upd H v (Hf v d))):=by
 intro m s σ H x n v p Q I a c h;obtain⟨d,kvs,rfl,rfl,hd,q⟩:=h;cases a;cases c;obtain⟨z,f,vs,g,dd⟩:=IM I.hok hd;obtain⟨h1,h2⟩:=vI (T:="dict") I (x:=.ref d) rfl (.inr (.inr (.inl ⟨rfl,.inl ⟨kvs,hd⟩⟩)));refine acH aby h1 ae0 (aeF _) (ahu (aY X.prog X.w) d f) ⟨⟨vs,dd⟩,?_⟩;refine⟨.ref s.heap.objs.size,_,I.laid (o:=Hf s.heap.objs.size d) (t':=s.toks) (λb ob e=>Yh _ e) (Yl _) ⟨⟨_,Yv _ rfl,rfl,rfl⟩,⟨_,Yv _ rfl⟩,λh1 h2 ⟨o,i,j,l⟩ k=>⟨o,k o i,j,l⟩⟩,rfl,q _ (I.hok.fresh (Yl _))⟩
theorem G6(C:X.calm=true):c6 X (.type "list") (λxs H Q=>∃(v d:Ye) (kvs:List (bJ×V)),xs=[.ref v]/\H v=Ya (Hf v d)/\Rd H d (.dK kvs)/\kvs.length<=1000/\∀l,H l=Yb->Q (.ref l) (upd H l (.lst (kvs.map (·.2))))):=by
 intro K s σ H xs L Q I r h;obtain⟨v,d,kvs,rfl,D,hd,b,q⟩:=h;obtain⟨u,rfl,E⟩:=dW r;cases E;obtain⟨z,M,n,f,dd⟩:=j7 I.hok hd;obtain⟨F,t⟩:=dd.dictAt;have hl:n.length=kvs.length:=(KV.length f).symm;have w:s.heap.IsValuesView v d:=(I.hok v _ D).1;refine adL (A:=X.A) (PySem.W.kdl_values (knd:=aY X.prog X.w) (kvs:=n) (ep:=F)) (I.ok.hd C) ⟨w,t⟩ (by rw[hl];exact rl (aG (by omega))) λN tk g c y G a=>?_;refine⟨.ref s.heap.objs.size,_,I.laid (o:=.lst (kvs.map (·.2))) (t':=tk) y (Yl _) ⟨by rw[Yg];exact rl (aG b),g.toList,c,yw ?_ λi x u j B=>?_,G⟩,rfl,q _ (I.hok.fresh (Yl _))⟩
 ·have e:g.toList.length=n.length:=by rw[YO];exact a.1
  rw[Yg,e,hl]
 ·rw[vc]at B;obtain⟨k,y⟩:=a.2 i u B;rw[Yy]at j;cases e:kvs[i]? with
  |none=>rw[e]at j;cases j
  |some p=>
   rw[e]at j;cases j;obtain⟨O,m,J⟩:=f.get (k:=p.1) (v:=p.2) e;rw[y]at m;cases m;exact J
theorem WG{K:Yc}{H:Hp}{a:Ye}{kvs:List (bJ×V)}{P:Prop}(hd:H a=Ya (.dK kvs))(h:P):Sx K "dict" (.ref a) H/\P:=⟨.inr (.inr (.inl ⟨rfl,.inl ⟨kvs,hd⟩⟩)),h⟩
end
section
variable{X:Cx}
def WC:R2:=λx y H Q=>∃(a c:Ye) (m:List (Int×Int)),x=.ref a/\y=.ref c/\Rd H a (.dK (dI m))/\Rd H c (.dK [])/\Q (.bl (!m.isEmpty)) H
theorem Uq(e:X.A.units<aap):tE X (aaq .NotEq) WC:=by
 intro B s σ H x y v u Q I f g h;obtain⟨a,c,m,rfl,rfl,ha,i,q⟩:=h;cases f;cases g;obtain⟨_,j,k,b,l⟩:=j7 I.hok ha;obtain⟨_,n,o,d,t⟩:=j7 I.hok (show Rd H c (.dK (dI []))from i);have w:k.length=m.length:=by rw[←b.length,vX]
 have A:o.length=0:=by rw[←d.length,vX];rfl
 refine PySem.W.keq_ne j n l t e (r:=true) (λz=>Ib d b (λp hp=>?_)) ⟨.bl (!m.isEmpty),H,I,?_,q⟩
 ·have:m.length=0:=by omega
  rw[aaC.mp this]at hp;cases hp
 ·rw[w,A];cases m<;>rfl
end
theorem Ge{d:Ye}{o:uc}{kvs:List (bJ×V)}{g:TG}{n:TT}{r:TE}{σ:St}{H:Hp}{D:Ye}{Qe:Hp->Prop}(b:Nat->St->Hp->Prop)(h0:b 0 σ H)(hl:∀i σ H,i<=kvs.length->b i σ H->H d=Ya (.frz o (.dK kvs)))
  (hs:∀i k v t σ H j,kvs[i]?=Ya (k,v)->b i σ H->H t=Yb->aH H j->j t=Ya (.tup [kV k,v])->fj g n r D (b (i+ 1)) (.ref t) σ j) (hd:∀σ H,b kvs.length σ H->Qe H):
  ∃W:Nat->Nat->St->Hp->Prop,(∃m,W 0 m σ H)/\∀i m l c,W i m l c->((TQ d o kvs).stop i c/\Qe c)∨((TQ d o kvs).go i c/\∃N:St->Hp->Prop,(∀s u,N s u->∃w,w<m/\W (i+ 1) w s u)/\
   ∀x f,(TQ d o kvs).yld i c x f->fj g n r D N x l f):=by
 refine⟨λi m σ H=>m=kvs.length-i/\i<=kvs.length/\b i σ H,⟨kvs.length,by simp,Y9 _,h0⟩,?_⟩;rintro i m σ H ⟨rfl,A,p⟩;have q:=hl i σ H A p;by_cases h:i<kvs.length
 ·refine .inr ⟨⟨h,q⟩,b (i+ 1),λl c B=>⟨kvs.length-(i+ 1),by omega,rfl,h,B⟩,λx c y=>?_⟩;obtain⟨k,v,a,C,z,rfl,rfl⟩:=y;exact hs i k v a σ _ _ C p z (aC z) ai
 ·have e:i=kvs.length:=by omega
  subst e;exact .inl ⟨⟨Yl _,q⟩,hd σ H p⟩
theorem Nk{td:TE}{σ:St}{H:Hp}{R:It->Hp->Prop}(h:td σ H λx a=>XS TQ x a R):LI td σ H R:=h
theorem Ji{d:V}:([(("learnt":Yo),d)]:List (Yo×V)).lookup ("listed":Yo)=none:=by kernel_rfl
theorem Oe{d:V}:([(("learnt":Yo),d)]:List (Yo×V)).lookup ("merge":Yo)=none:=by kernel_rfl
theorem WX{H:Hp}{Q:VK}{a c:Ye}{m:List (Int×Int)}(ha:Rd H a (.dK (dI m)))(b:Rd H c (.dK []))(h:Q (.bl (!m.isEmpty)) H):WC (.ref a) (.ref c) H Q:=⟨a,c,m,rfl,rfl,ha,b,h⟩
end L2
namespace GX
open PySem
section
variable{prog:YZ}{w:Y6}{A:xw}{E:Yd->Ym->Prop}{s:Ym}{K:Type}[DecidableEq K]{knd:acZ prog w K}
end
end GX
namespace L2
open PySem PySem.Spec PyProof.Rows
section
variable{X:Cx}
end
end L2
namespace GX
open PySem PyProof.Rows
end GX
namespace L2
open PySem PySem.Spec PyProof.Rows
theorem dB{α β:Type}{F:α->β->Prop}:∀{l:List α} {m:List β} {i:Nat} {a:α},fm F l m->l[i]?=Ya a->∃b,m[i]?=Ya b/\F a b:=by
 intro a b i x w
 induction w generalizing i with
 |nil=>exact λe=>by simp at e
 |cons r _ ih=>
  intro e;cases i with
  |zero=>simp at e;subst e;exact⟨_,rfl,r⟩
  |succ i=>
   obtain⟨p,h1,h2⟩:=ih (i:=i) (by simpa using e);exact⟨p,by simpa using h1,h2⟩
section
variable{X:Cx}
end
end L2
namespace HT
open PySem PyProof.Rows
section
open PySem.SeqAt
open PySem.AutoSeq1 (wpAny_loadPart')
open PySem.MeetsSeq PySem.MeetsSeq2 PySem.MeetsSeq3
end
section
variable{prog:YZ}{w:Y6}{A:xw}{E:Yd->Ym->Prop}{s:Ym}
end
end HT
namespace L2
open PySem PySem.Spec PyProof.Rows
section
variable{X:Cx}
end
section
variable{me hd ba ye vo re ag v:V}
end
end L2
namespace GX
open PySem PyProof.Rows
variable{prog:YZ}{w:Y6}{A:xw}{n:Nat}{b:Ye}
section
variable{R:ack->Ym->Prop}{I d:Ye}{fp wr:List Ye}{P:Nat->Yd->Prop}{St:Nat->YT->Prop}{K:Type}[DecidableEq K]{knd:acZ prog w K}
noncomputable def i7(b:List (List K×Ye×Yd)):List (List K×Ye×Yd):=b.foldl (λa p=>acG a p.1 p.2.1 p.2.2) []
theorem BB(a:List (List K×Ye×Yd))(p:List K×Ye×Yd):i7 (a++[p])=acG (i7 a) p.1 p.2.1 p.2.2:=by
 unfold i7;rw[aeU];rfl
theorem D6{xs:List (List K×Ye×Yd)}{k:List K}{v:Yd}{x:List K×Ye×Yd}(h:x∈acG xs k b v):(∃y∈xs,y.1=x.1/\y.2.1=x.2.1)∨x=(k,b,v):=by
 unfold acG at h;by_cases z:(aeW xs k).isSome=true
 ·rw[if_pos z]at h;obtain⟨y,a,e⟩:=YC.mp h;refine .inl ⟨y,a,?_⟩;rw[←e];unfold putAt;split<;>exact⟨rfl,rfl⟩
 ·rw[if_neg z]at h;rcases YM.mp h with q|q
  ·exact .inl ⟨x,q,rfl,rfl⟩
  ·exact .inr (Yi.mp q)
theorem Eu(xs:List (List K×Ye×Yd))(k:List K)(b:Ye)(v:Yd):(acG xs k b v).length<=xs.length+ 1:=by
 unfold acG;split
 ·rw[Yg];omega
 ·rw[Yu];exact Yl _
theorem oW{G:List K->Ye->Prop}:∀(b a:List (List K×Ye×Yd)),(∀x∈a,G x.1 x.2.1)->(∀p∈b,G p.1 p.2.1)->(∀x∈b.foldl (λa p=>acG a p.1 p.2.1 p.2.2) a,G x.1 x.2.1)/\(b.foldl (λa p=>acG a p.1 p.2.1 p.2.2) a).length<=a.length+ b.length
 |[],a,ha,_=>⟨ha,Yl _⟩
 |p::b,a,ha,h=>by
  have hp:=h p Ys;have:=oW (G:=G) b (acG a p.1 p.2.1 p.2.2) (λx c=>by
   rcases D6 c with⟨y,d,f,g⟩|e
   ·have:=ha y d;rw[f,g]at this;exact this
   ·rw[e];exact hp) (λq i=>h q (Yr _ i))
  refine⟨this.1,?_⟩;have l:=Eu a p.1 p.2.1 p.2.2;have j:=this.2;simp only[abe,Y5];omega
theorem ED{h h':YT}{k:List K}(x:aad knd h k b)(e:∀o,h.get? b=Ya o->h'.get? b=Ya o):aad knd h' k b:=by
 obtain⟨o,a,n,ho,r⟩:=x;exact⟨o,a,n,e o ho,r⟩
def DT(knd:acZ prog w K)(h:YT)(d:Ye)(xs:List (List K×Ye×Yd)):Prop:=∃o a b,h.get? d=Ya o/\o.ExactDict/\o.data=.dict a b/\a.toList=xs.map (agq (abo knd))/\(xs.map (·.1)).Nodup
theorem JN(W:aeY prog w A.in1 I fp wr n P St)(nd:d∉fp)(h₀:YT)(f:List (List K×Ye×Yd))(hn:f.length=n)(hz:n<=YB)(T:(abo knd).room A.in1)
  (O:∀p∈f,aad knd h₀ p.1 p.2.1/\p.2.1≠d/\p.2.1∉wr)
  (U:∀i v,P i v->∃a k b x o c,v=.ref a/\f[i]?=Ya (k,b,x)/\h₀.get? a=Ya o/\o.cls=.type "tuple"/\o.data=.seq #[.ref b,x] c/\a≠d/\a∉wr):
  ∀(k i:Nat) (s:Ym) (t:ac2),n=i+ k->St i s.heap->(∀b o,b∉wr->b≠d->h₀.get? b=Ya o->s.heap.get? b=Ya o)->DT knd s.heap d (i7 (f.take i))->
  (∀h' tk,(∀b o,b∉wr->b≠d->h₀.get? b=Ya o->h'.get? b=Ya o)->DT knd h' d (i7 f)->R (.ok (.ret .none)) {s with heap:=h',toks:=tk})->
  Rk (Yt prog w) A (.builtin "dict.update.loop" ⟨[.ref d,.ref I,.int i t,.none],[]⟩) R s:=by
 have V:d∉wr:=λz=>nd (W.sub _ z);have l:∀(h:YT) (j:Nat),(∀b o,b∉wr->b≠d->h₀.get? b=Ya o->h.get? b=Ya o)->∀x∈i7 (f.take j),aad knd h x.1 x.2.1:=λh j kp=>(oW (G:=λk b=>aad knd h k b) (f.take j) [] (λx y=>(nomatch y)) (λp hp=>by
  obtain⟨C,E,F⟩:=O p (acV hp);exact ED C λo e=>kp _ o F E e)).1
 intro k i s t X st kp dd fin;refine MG (D:=λi h=>(∀b o,b∉wr->b≠d->h₀.get? b=Ya o->h.get? b=Ya o)/\DT knd h d (i7 (f.take i))) W nd ?_ ?_ k i s t X st ⟨kp,dd⟩ λh tk q=>fin h tk q.1 ?_
 ·rintro i h h' ⟨kp,od,m,u,ho,r⟩ q;exact⟨λb o B g e=>q b o B (kp b o B g e),od,m,u,q d od V ho,r⟩
 ·rintro i v s pv ⟨kp,od,m,u,ho,H,J,L,M⟩;obtain⟨a,k,b,x,o,c,rfl,y,ha,Y,hd,Z,N⟩:=U i v pv;obtain⟨C,E,F⟩:=O _ (YA y);have len:=(oW (G:=λ_ _=>True) (f.take i) [] (λ_ _=>trivial) λ_ _=>trivial).2;refine⟨a,o,.ref b,x,c,rfl,kp a o N Z ha,Y,hd,λQ q=>wpAny_dictSet_heap (knd:=abo knd) T (ED C λo e=>kp _ o F E e) ⟨od,m,u,ho,H,J,L,l s.heap i kp,M⟩ (λh2 d2 S=>q h2 ⟨λb o B g e=>(S.2 b g).trans (kp b o B g e),?_⟩ S.2 _) (xy len (by rw[xj,abd];omega))⟩;obtain⟨od,m,u,ho,H,J,L,_,M⟩:=d2;rw[age,y,Option.toList_some,BB];exact⟨od,m,u,ho,H,J,L,M⟩
 ·have z:=q.2;rwa [←hn,YY]at z
end
section
variable{E:Yd->Ym->Prop}{s:Ym}{K:Type}[DecidableEq K]{knd:acZ prog w K}
theorem zX{l:Ye}{vs:List Yd}{j:List (List K×Ye×Yd)}{Q:Yd->Ym->Prop}(L:A.handled=Yb)(O:(abo knd).room A.in1.in1)(hl:s.heap.get? l=Ya {cls:=.type "list",dict:=Yb,data:=.seq vs.toArray n,slots:=#[]})(hz:vs.length<=YB)(t:j.length=vs.length)(P:∀p∈j,aad knd s.heap p.1 p.2.1)(R:∀(i:Nat) v,vs[i]?=Ya v->∃a k b x o c,v=.ref a/\j[i]?=Ya (k,b,x)/\s.heap.get? a=Ya o/\o.cls=.type "tuple"/\o.data=.seq #[.ref b,x] c)(h:∀h' tk,(∀b o,s.heap.get? b=Ya o->h'.get? b=Ya o)->DT knd h' s.heap.objs.size (i7 j)->Q (.ref s.heap.objs.size) {s with heap:=h',toks:=tk}):
  Yq (Yt prog w) A (call (.type "dict") [.ref l]) Q E s:=by
 have f:(JH s.heap).get? l=Ya {cls:=.type "list",dict:=Yb,data:=.seq vs.toArray n,slots:=#[]}:=Yh _ hl;refine ze (T:="list") ⟨_,f,rfl⟩ (by decide) (HQ L f λh1 DW D=>⟨rfl,?_⟩);have u:=D l _ f;have F:l<h1.objs.size:=Yw u;have ld:l<s.heap.objs.size:=Yw hl;have M:h1.IsList l vs.toArray:=⟨_,u,rfl,n,rfl⟩;have N:DT knd h1 s.heap.objs.size []:=by
  obtain⟨od,B,C,ho,S,U,V,_,X⟩:=Heap.DictOfH.new (knd:=abo knd) s.heap;exact⟨od,B,C,D _ _ ho,S,U,V,X⟩
 have y:s.heap.objs.size<h1.objs.size:=by
  obtain⟨od,B,C,ho,r⟩:=N;exact Yw ho
 have Y:∀{b:Ye},b<h1.objs.size->b≠h1.objs.size:=λz=>YL z;have G:∀{b:Ye},b<s.heap.objs.size->b∉[h1.objs.size]:=fun{b} Z z=>by
  have g:b=h1.objs.size:=by simpa using z
  exact absurd (ae9 Z y) (by rw[g];exact Y8 _)
 refine aaY (s:={s with heap:=h1,toks:=DW}) M ?_;have W:=adl (prog:=prog) (w:=w) (A:=A.in1.in1) L h1.objs.size l (Y F) vs.toArray;refine JN (A:=A.in1) (knd:=knd) W (d:=s.heap.objs.size) ?_ s.heap j (by rw[t,Yz]) (by rw[Yz];exact hz) O (λp hp=>?_) (λi v hv=>?_) vs.toArray.size 0 _ 0 (by omega)
  ⟨⟨_,Yv _ rfl,rfl,rfl⟩,M.push _⟩ (λb o _ nb e=>Yh _ (D b o (Yh _ e))) ?_ λh2 H k2 d2=>?_
 ·intro z;have g:s.heap.objs.size=h1.objs.size∨s.heap.objs.size=l:=by simpa using z
  rcases g with g|g
  ·exact absurd y (by rw[g];exact Y8 _)
  ·exact absurd ld (by rw[g];exact Y8 _)
 ·have q:=P p hp;obtain⟨o,I,m,ho,r⟩:=id q;exact⟨q,YL (Yw ho),G (Yw ho)⟩
 ·obtain⟨a,k,b,x,o,c,e1,e2,J,e5,e6⟩:=R i v (by simpa using hv);exact⟨a,k,b,x,o,c,e1,e2,J,e5,e6,YL (Yw J),G (Yw J)⟩
 ·obtain⟨od,B,C,ho,r⟩:=N;exact⟨od,B,C,Yh _ ho,r⟩
 ·exact⟨rfl,h h2 H (λb o e=>k2 b o (G (Yw e)) (YL (Yw e)) e) d2⟩
end
end GX
namespace L2
open PySem PySem.Spec PyProof.Rows
variable{X:Cx}{Za:List (Ye×uc)}{σ:St}{H:Hp}{s:Ym}{l f a:Ye}{xs:List V}{its vs:List Yd}{ks:List (List Int)}{k n:Nat}{fd:YD}{ps:List Yo}{sp:Sp}{Q E:Yd->Ym->Prop}{A:xw}{te td:TE}{prog:YZ}{w:Y6}{P:aea->Ym->Prop}{p:Array Nat}
abbrev E3(H:Hp):List V->List (List bJ×V)->Prop:=fm λx q=>∃a b,x=.ref a/\H a=Ya (.tup [.ref b,q.2])/\H b=Ya (.tup (q.1.map kV))
noncomputable def jn(ps:List (List bJ×V)):List (List bJ×V):=ps.foldl (λa p=>gL a p.1 p.2) []
section
theorem JK(I:aM X Za σ H s):∀{xs:List V} {us:List Yd} {ps:List (List bJ×V)},E3 H xs ps->Vals xs us->
  ∃d:List (List bJ×Ye×Yd),fm (fun(p:List bJ×V) (q:List bJ×Ye×Yd)=>p.1=q.1/\H q.2.1=Ya (.tup (p.1.map kV))/\RelV p.2 q.2.2) ps d/\d.length=us.length/\∀(i:Nat) v,us[i]?=Ya v->∃a k b x o c,v=.ref a/\d[i]?=Ya (k,b,x)/\s.heap.get? a=Ya o/\o.cls=.type "tuple"/\o.data=.seq #[.ref b,x] c:=by
 intro xs us ps w
 induction w generalizing us with
 |nil=>
  intro w;cases w;exact⟨[],.nil,rfl,λi v e=>by simp at e⟩
 |@cons x p xs ps h t ih=>
  intro w;cases w with|cons r q=>
  rename_i u us;obtain⟨d,g,j,l⟩:=ih q;obtain⟨a,b,rfl,ha,m⟩:=h;obtain rfl:u=YG a:=r;obtain⟨_,its,y,o,ho,z,n,hd,_⟩:[V.ref b,p.2].length<=YB/\∃its:List Yd,Vals [V.ref b,p.2] its/\ox s.heap a its.toArray:=I.hok a _ ha;obtain⟨A,f,rfl,B,C⟩:=AD y;obtain rfl:A=YG b:=B;refine⟨(p.1,b,f)::d,.cons ⟨rfl,m,C⟩ g,congrArg (·+ 1) j,λi v e=>?_⟩;cases i with
  |zero=>
   have D:YG a=v:=YK e;subst D;exact⟨a,p.1,b,f,o,n,rfl,rfl,ho,z,hd⟩
  |succ i=>exact l i v e
theorem QM:∀{ps:List (List bJ×V)} {b:List (List bJ×Ye×Yd)},fm (fun(p:List bJ×V) (q:List bJ×Ye×Yd)=>p.1=q.1/\H q.2.1=Ya (.tup (p.1.map kV))/\RelV p.2 q.2.2) ps b->∀{a:List (List bJ×V)} {xs:List (List bJ×Ye×Yd)},KT H a xs->
  KT H (ps.foldl (λa p=>gL a p.1 p.2) a) (b.foldl (λa p=>acG a p.1 p.2.1 p.2.2) xs):=by
 intro ps b w
 induction w with
 |nil=>exact λh=>h
 |@cons p q ps b w t ih=>
  obtain⟨c,d,e⟩:=w;intro a xs h;rw[abe,abe];refine ih ?_;rw[←c];exact h.put p.1 d e
theorem FP(ps:List (List bJ×V)):∀a:List (List bJ×V),(ps.foldl (λa p=>gL a p.1 p.2) a).length<=a.length+ ps.length:=by
 induction ps with
 |nil=>intro a;exact Yl _
 |cons p ps ih=>
  intro a;have h1:=ih (gL a p.1 p.2);have h2:=pA a p.1 p.2;simp only[abe,Y5];omega
theorem wX(k:X.calm=true)(v:X.A.units+ 2<aap):c6 X (.type "dict") (λxs H Q=>∃(a:Ye) (ys:List V) (ps:List (List bJ×V)),xs=[.ref a]/\H a=Ya (.lst ys)/\E3 H ys ps/\ps.length<=1000/\∀p,H p=Yb->Q (.ref p) (upd H p (.dT (jn ps)))):=by
 intro w s σ H xs O Q I r h;obtain⟨a,ys,ps,rfl,ha,hp,hl,q⟩:=h;obtain⟨u,rfl,y⟩:=dW r;cases y;obtain⟨z,A,n,B,d,e⟩:=I.lstM ha;obtain⟨g,i,C,D⟩:=JK I hp B;have E:∀p∈g,aad (aY X.prog X.w) s.heap p.1 p.2.1:=by
  have all:∀{l:List (List bJ×V)} {m:List (List bJ×Ye×Yd)},fm (fun(p:List bJ×V) (q:List bJ×Ye×Yd)=>p.1=q.1/\H q.2.1=Ya (.tup (p.1.map kV))/\RelV p.2 q.2.2) l m->∀x∈m,aad (aY X.prog X.w) s.heap x.1 x.2.1:=by
   intro l m q
   induction q with
   |nil=>intro x f;exact nomatch f
   |@cons a b as bs h t ih=>
    intro x f;rcases Yn.mp f with z|z
    ·rw[z,←h.1];exact key_of I.hok h.2.1
    ·exact ih x z
  exact all i
 refine GX.zX (knd:=aY X.prog X.w) (I.ok.hd k) ?_ e (by rw[←d];exact z) C E D λF tk kp dd=>?_
 ·exact v
 have P:aM X w σ H {s with heap:=F,toks:=tk}:=I.kept kp;obtain⟨o,G,J,ho,K,L,M,N⟩:=dd;refine⟨.ref s.heap.objs.size,_,I.laid (o:=.dT (jn ps)) (t':=tk) kp (Yl _) ⟨?_,beq_eq_false_iff_ne.mpr (Ne.symm (YL I.big)),GX.i7 g,?_,o,G,J,ho,K,L,M,N⟩,rfl,q _ (I.hok.fresh (Yl _))⟩
 ·have:=FP ps [];rw[abd]at this;exact rl (aG (by unfold jn;omega))
 ·refine(QM i .nil).keeps λc R j=>?_;rw[ak (ax j (I.hok.fresh (Yl _)))];exact j
end
noncomputable abbrev Cx.one(X:Cx):Cx:={X with A:=X.A.in1,xe:=λ_ _=>False}
section
theorem aM.one(I:aM X Za σ H s):aM X.one Za σ H s:=
 ⟨⟨I.ok.mod,I.ok.kind,I.ok.glob,I.ok.blt,I.ok.above,I.ok.inj,I.ok.has,I.ok.cab,I.ok.hd,I.ok.frames,I.ok.stk,I.ok.exf,I.ok.bs,I.ok.bsz,I.ok.noex,I.ok.exfs,I.ok.funs,I.ok.frf⟩,I.os,I.bare,I.base,I.loc,I.cell,I.free,I.freeC,I.pin,I.hok,I.len⟩
theorem aM.back(ok:X.Ok)(I:aM X.one Za σ H s):aM X Za σ H s:=
 ⟨ok,I.os,I.bare,I.base,I.loc,I.cell,I.free,I.freeC,I.pin,I.hok,I.len⟩
end
theorem IJ:∀a:List Int,HT.eD a a=false
 |[]=>rfl
 |x::a=>by rw[HT.nv,if_pos rfl];exact IJ a
theorem C9:∀{a b:List Int},HT.eD a b=true->HT.eD b a=false
 |[],[],h=>by cases h
 |[],_::_,_=>rfl
 |_::_,[],h=>by cases h
 |x::a,y::b,h=>by
  rw[HT.nv]at h⊢;by_cases z:x=y
  ·rw[if_pos z]at h;rw[if_pos z.symm];exact C9 h
  ·rw[if_neg z]at h;rw[if_neg (λw=>z w.symm)];have h:=of_decide_eq_true h;exact decide_eq_false (by omega)
theorem Ia:∀{a b c:List Int},HT.eD a b=true->HT.eD c b=false->HT.eD a c=true
 |[],[],_,h,_=>by cases h
 |_::_,[],_,h,_=>by cases h
 |[],_::_,[],_,h=>by cases h
 |[],_::_,_::_,_,_=>rfl
 |x::a,y::b,[],h,h2=>by cases h2
 |x::a,y::b,z::c,h,h2=>by
  rw[HT.nv]at h h2⊢;by_cases e:x=y
  ·rw[if_pos e]at h;by_cases d:z=y
   ·rw[if_pos d]at h2;rw[if_pos (e.trans d.symm)];exact Ia h h2
   ·rw[if_neg d]at h2;have h2:=of_decide_eq_false h2;rw[if_neg (λw=>d (w.symm.trans e))];exact decide_eq_true (by omega)
  ·rw[if_neg e]at h;have h:=of_decide_eq_true h;by_cases d:z=y
   ·rw[if_neg (λw=>e (w.trans d))];exact decide_eq_true (by omega)
   ·rw[if_neg d]at h2;have h2:=of_decide_eq_false h2;rw[if_neg (by omega)];exact decide_eq_true (by omega)
section
theorem T9(a v d:Yd):ab4 "min" ⟨[a],[(aam "key",v),(aam "default",d)]⟩:=by unfold ab4;kernel_rfl
theorem Sn(d:Yd)(hh:X.A.handled=Yb)(hu:X.A.units+ 2<aap)(F:aF X.prog X.w X.K X.mg X.base bp k f fd ps sp)(hr:cQ k X.A.in1)(B:Binds X.K fd ps [])(M:aM X Za σ H s)(rv:Vals xs its)(lk:xs.length=ks.length)(lst:∀s g,aM X Za σ g s->aH H g->s.heap.IsList l its.toArray)(KY:∀(i:Nat) x k S (Q':VK),xs[i]?=Ya x->ks[i]?=Ya k->aH H S->(∀C t,aH S C->bI X.K C t (k.map V.int)->Q' (.ref t) C)->sp [x] S Q' E0)(hD:xs=[]->∀s',aM X Za σ H s'->Q d s')(hR:∀(i:Nat) v T s' g,its[i]?=Ya v->ks[i]?=Ya T->(∀(j':Nat) D,ks[j']?=Ya D->HT.eD D T=false/\(j'<i->HT.eD T D=true))->aM X Za σ g s'->aH H g->Q v s'):
  Yq (Yt X.prog X.w) X.A (call (.builtin "min") [.ref l] [(aam "key",.ref f),(aam "default",d)]) Q E s:=by
 have lx:=rv.length;have fp:∀x g,x=s.heap.objs.size∨x=s.heap.objs.size+ 1->g x=Yb->uw X Za g x:=λx g w n=>M.fpOk (by rcases w with rfl|rfl<;>omega) n;refine GX.An GX.AS GX.DX afR afS (ko:=Ya (.ref f)) (d:=Ya d) (vs:=its) hh rfl (T9 _ _ _) (lst s H M (.refl _)) (bt:=λi j=>HT.eD (ks.getD i []) (ks.getD j []))
  (G:=λL s'=>∃g,aM X Za σ g s'/\(aH H g/\(L=[]->g=H))/\(∀x,x=s.heap.objs.size∨x=s.heap.objs.size+ 1->g x=Yb)/\∀p∈L,∃t k,p.2=.ref t/\ks[p.1]?=Ya k/\bI X.K g t (k.map V.int))
  ⟨λi=>IJ _,λi j=>C9,λa b c=>Ia,?_,?_,?_,?_,?_,?_⟩ ?_ ?_ ?_
 ·exact λp q L s' ⟨g,a,b,c,e⟩=>⟨g,a,⟨b.1,λz=>nomatch z⟩,c,λq U=>e q (Yr _ U)⟩
 ·exact λp L s' ⟨g,a,b,c,e⟩=>⟨g,a,⟨b.1,λz=>nomatch z⟩,c,λq U=>e q (Yi.mp U▸Ys)⟩
 ·rintro x L s' h tk w ⟨g,a,b,c,e⟩ kp;obtain⟨f0,f1,f2,f3,f4,f5⟩:=fp x g w (c x w);exact⟨g,a.turned (it:=x) kp f0 f1 f3 f4 f5,b,c,e⟩
 ·exact λL s' ⟨g,a,b,_⟩=>lst s' g a b.1
 ·rintro L s' j v a c m ⟨g,I,⟨N,_⟩,nn,J⟩ O hS hI;obtain⟨oI,gI,cI,dI⟩:=id hI;have w:j<xs.length:=by have:=(Yj.mp O).1;omega
  obtain⟨v',W,rx⟩:=rv.get (Yk w);cases O.symm.trans W;have hk:ks[j]?=Ya (ks[j]'(lk▸w)):=Yk _;have Y:∀b∈[s.heap.objs.size+ 1,s.heap.objs.size],b=s.heap.objs.size∨b=s.heap.objs.size+ 1:=λb B=>by simp at B;exact B.symm
  have IP:=I.pinned (fp:=[s.heap.objs.size+ 1,s.heap.objs.size]) (λb B=>fp b g (Y b B) (nn b (Y b B))) λb B=>by
   rcases Y b B with rfl|rfl
   ·exact⟨oI,gI,λz e=>by rw[dI]at e;cases e⟩
   ·exact⟨_,hS,λz e=>nomatch e⟩
  refine xi (r9 (X:=X.one) (vs:=[xs[j]]) (us:=[v]) (Q:=λz C=>∃t,z=.ref t/\aH g C/\bI X.K C t ((ks[j]'(lk▸w)).map V.int)) (E:=E0) (Zm:=[]) (ds:=[]) F hr B .nil (λ_ _ _ _ _ _ _ q=>q.elim) IP.one (.cons rx .nil) (by
   rw[sq];exact KY j _ _ g _ (Yk w) hk N λC t P h4=>⟨t,rfl,P,h4⟩)) ?_ λ_ _ q=>q.elim
  rintro u s2 ⟨z,C,R,rz,t,rfl,P,ht⟩;cases rz;have R:=aM.back M.ok R;have at_:∀b o,b∈[s.heap.objs.size+ 1,s.heap.objs.size]->s'.heap.get? b=Ya o->s2.heap.get? b=Ya o/\C b=none:=λb o B e=>
   let r:=R.pin (b,o) (YH _ (YH _ (hG B e)))
   ⟨r.1,r.2.1⟩
  have aS:=at_ _ _ (by simp) hS;have aI:=at_ _ _ (by simp) gI;refine⟨⟨C,R.unpinned,⟨N.trans P,λz=>nomatch z⟩,λx w=>?_,λp hp=>?_⟩,aS.1,oI,aI.1,cI,dI⟩
  ·rcases w with rfl|rfl
   ·exact aI.2
   ·exact aS.2
  ·rcases Yn.mp hp with rfl|hp
   ·exact⟨t,_,rfl,hk,ht⟩
   ·obtain⟨t',D,K,Z,e3⟩:=J p hp;exact⟨t',D,K,Z,WL.same P _ _ e3⟩
 ·rintro i j y y' s' ⟨g,I,_,nn,J⟩;obtain⟨t1,k1,rfl,K,h1⟩:=J (j,y) (by simp);obtain⟨t2,k2,rfl,Z,h2⟩:=J (i,y') (by simp);obtain⟨ia,ra,pa,_⟩:=I.tuple h1;obtain⟨ib,rb,pb,_⟩:=I.tuple h2;refine HT.F7 (A:=X.A.in1) pa pb (jt ra) (jt rb) (by show X.A.units+ 1<aap;omega) ⟨?_,rfl⟩;simp[YJ,K,Z]
 ·exact λh kp=>⟨H,M.kept (t':=s.toks) kp,⟨.refl _,λ_=>rfl⟩,λx w=>M.hok.fresh (by rcases w with rfl|rfl<;>omega),by simp⟩
 ·exact λe=>⟨d,rfl,λs' ⟨g,a,b,_⟩=>hD (aaH (by rw[lx,e];rfl)) s' (b.2 rfl▸a)⟩
 ·rintro i v y s' O ft ⟨g,I,⟨N,_⟩,nn,J⟩;obtain⟨t,D,_,K,_⟩:=J (i,y) (by simp);refine hR i v D s' g O K (λj k2 hj=>?_) I N;have b:=ft j (by have:=(Yj.mp hj).1;omega);simpa [YJ,K,hj]using b
end
theorem cQ.one(r:cQ (k+ 1) A):cQ k A.in1:=⟨r.hd,by have:=r.dp;show A.depth+ 3*k+ 5<aeh;omega,by have:=r.un;show A.units+ 1+ 16*k+ 200<aap;omega⟩
def UI(K:Yc)(sp:Sp)(x y:V)(b:Hp)(Q:VK):Prop:=∃(l:Ye) (a:List V) (ks:List (List Int)),x=.ref l/\bc K b l a/\a.length=ks.length/\(∀x∈a,∃p,x=V.ref p)/\
 (∀(i:Nat) (x:V) (k:List Int) (c:Hp) (g:VK),a[i]?=Ya x->ks[i]?=Ya k->aH b c->(∀d t,aH c d->bI K d t (k.map V.int)->g (.ref t) d)->sp [x] c g E0)/\(a=[]->Q y b)/\
 ∀(i:Nat) (v:V) (e:List Int) (h:Hp),a[i]?=Ya v->ks[i]?=Ya e->(∀(j:Nat) f,ks[j]?=Ya f->HT.eD f e=false/\(j<i->HT.eD e f=true))->aH b h->Q v h
def RQ(K:Yc)(sp:Sp)(a td:TE):TE:=λσ H Q=>a σ H λx b=>td σ b λy c=>UI K sp x y c Q
theorem Kq:∀{xs:List V} {a b:List Yd},Vals xs a->Vals xs b->(∀x∈xs,∃p,x=V.ref p)->a=b:=by
 intro xs a b w
 induction w generalizing b with
 |nil=>
  intro w _;cases w;rfl
 |cons r1 t1 ih=>
  intro w h;cases w with|cons r2 t2=>
  obtain⟨p,rfl⟩:=h _ Ys;rw[ih t2 λy c=>h y (Yr _ c)];cases r1;cases r2;rfl
section
theorem Kp{K:Yc}{e dflt:cT}{p U pos V W:abE}{d:Yo}(Y:X.K=K)(Z:X.calm=true)(hu:X.A.units+ 2<aap)(ha:PA X [e] (zJ te BU))(hd:PE X dflt td)(hg:Gl X "min")(hm:X.mg "min"=Yb)(G:aF X.prog X.w X.K X.mg X.base bp k f fd ps sp)(n:X.mg d=Ya (.ref f))(o:Binds X.K fd ps [])(r:Gl X d)(hr:cQ (k+ 1) X.A)(t:(d==("__debug__":Yo))=false:=by decide)(h1:aal pos (YW [e] X.env)=(false,pk e X.env)::aal pos (YW [] X.env):=by rfl)(h2:(aal pos (YW [e] X.env)).any (·.1)=false:=by rfl):
  PE X (.Call (.Name "min" p) [e] [⟨Ya "key",.Name d U,V⟩,⟨Ya "default",dflt,W⟩] pos) (RQ K sp te td):=by
 subst Y;intro M s σ H Q I h;refine aa3 (qc I hg hm acL ?_);refine ad7 ?_ h1 h2;refine cu (ha pos M s σ H (λg z=>match g with|[x]=>td σ z λy j=>UI X.K sp x y j Q|_=>False) I h) λus s1 A=>?_;obtain⟨g,z,N,r1,O⟩:=A;obtain⟨x,rfl⟩:∃x,g=[x]:=by
  match g,O with
  |[x],_=>exact⟨x,rfl⟩
 obtain⟨u,rfl,rx⟩:=dW r1;refine adR (mJ N r n ?_ t);refine adR (cu (hd M s1 σ z _ N O) λw s2 A=>?_);obtain⟨y,j,B,ry,l,P,ks,ex,hl,lk,C,KY,q0,q⟩:=A;subst ex;cases rx;refine agG ?_;obtain⟨ab,m,pl,hz⟩:=B.list hl;have lx:=m.length;show Yq _ _ (call (.builtin "min") [YG l] [(aam "key",.ref f),(aam "default",w)]) _ _ _;refine Sn (H:=j) w (B.ok.hd Z) hu G (cQ.one hr) o B m lk (λs' D a E=>?_) KY (λe s' a=>⟨y,j,a,ry,q0 e⟩) (λi v kb s' D R F b a E=>?_)
 ·obtain⟨S,J,L,_⟩:=a.list (E.seq hl);rw[Kq m J C];exact L.isList
 ·have T:i<P.length:=by rw[lx];exact(Yj.mp R).1
  obtain⟨u',c,ru⟩:=m.get (Yk T);rw[R]at c;cases c;exact⟨P[i],D,a,ru,q i _ kb D (Yk T) F b E⟩
end
theorem SR{K:Yc}{Q:VK}(h:te σ H λx a=>td σ a λy b=>UI K sp x y b Q):RQ K sp te td σ H Q:=h
section
theorem Bo{a:List (Yo×Yd)}(hl:s.heap.IsList l vs.toArray)(h64:vs.length<64)(i:ab4 "sorted" ⟨[.ref l],a⟩)(j:∀D,ab4 "list.sort" ⟨[D],a⟩)(h:∀h1:YT,GX.qZ s.heap h1->h1.get? (s.heap.objs.size+ 1)=Ya (seqObj "list" vs.toArray 0)->Yq (Yt prog w) A.in1.in1 (aaa.«list.sort» ⟨[.ref (s.heap.objs.size+ 1)],a⟩) (λf d=>f=.done (.ret .none)/\Q (.ref (s.heap.objs.size+ 1)) d) E {s with heap:=h1}):
  Yq (Yt prog w) A (call (.builtin "sorted") [.ref l] a) Q E s:=by
 have z:vs.length<=YB:=by rw[aaM];omega
 refine GX.vD i (collect_list hl (Yf (agP ?_ z)) z);have g:GX.qZ s.heap ((s.heap.push (seqObj "list" #[] 0)).update s.heap.objs.size (aaJ (·++vs.toArray))):=λb o q=>(Gr _ _ (abu (Yw q))).trans (Yh _ q);have sz:((s.heap.push (seqObj "list" #[] 0)).update s.heap.objs.size (aaJ (·++vs.toArray))).objs.size=s.heap.objs.size+ 1:=(Heap.size_after_update ..).trans (aaU ..);generalize (s.heap.push (seqObj "list" #[] 0)).update s.heap.objs.size (aaJ (·++vs.toArray))=h0 at g sz⊢;have c:(h0.push (seqObj "list" vs.toArray 0)).get? (s.heap.objs.size+ 1)=Ya (seqObj "list" vs.toArray 0):=ahs sz.symm rfl;have:=h _ (λb o q=>Yh _ (g b o q)) c;show Yq _ _ (acF [.ref h0.objs.size] (call (.builtin "list.sort") [.ref h0.objs.size] a) >>= λ_=>ret (.ref h0.objs.size)) _ _ {s with heap:=h0.push (seqObj "list" vs.toArray 0)};rw[sz];refine Yf (aau (wpAny_call_entry_kw aiH ⟨_,c,rfl⟩ ain (xi this (λf d q=>?_) λ_ _ e=>e) (j _)));exact⟨_,q.1,Yp ⟨_,rfl,q.2⟩⟩
theorem HH{k:Array Yd->Nat->Yd->aeI aea}(ho:s.heap.get? a=Ya (seqObj "list" vs.toArray n))(h64:vs.length<64)(h:∀(h2:YT) (e:Nat),(∀b o,b≠a->s.heap.get? b=Ya o->h2.get? b=Ya o)->h2.get? a=Ya (seqObj "list" #[] e)->Yq (Yt prog w) A (k vs.toArray e (.ref h2.objs.size)) P E {s with heap:=h2.push (seqObj "list" #[] 0)}):
  Yq (Yt prog w) A (ajy (.ref a) >>= λits=>afx (.ref a) (λ_=>#[]) >>= λ_=>seqEpoch a >>= λe=>newTuple its.toList >>= λt=>ahh [] >>= λks=>acF [t,ks] (k its e ks)) P E s:=by
 have z:vs.toArray.size<=YB:=by rw[Yz,aaM];omega
 obtain⟨e,c⟩:∃e,(s.heap.update a (aaJ λ_=>(#[]:Array Yd))).get? a=Ya (seqObj "list" #[] e):=⟨_,air ho λ_=>#[]⟩;refine Yf (ajk ho rfl (Yf (aeG ho rfl (Yf (seqEpoch_at c rfl (Yf (agd (Yf (agP (aau (h _ e (λb o d q=>?_) (Yh _ c))) (Y9 _))) ?_)))) z (Y9 _))))
 ·exact Yh _ ((Gr _ _ (Ne.symm d)).trans q)
 ·simpa using z
theorem yL{e:Nat}{out:Array Yd}{tl:Nat->aeI aea}(ho:s.heap.get? a=Ya (seqObj "list" #[] e))(hz:out.size<=YB)(h:∀(h1:YT) (c:Nat),(∀b o,b≠a->s.heap.get? b=Ya o->h1.get? b=Ya o)->h1.get? a=Ya (seqObj "list" out c)->Yq (Yt prog w) A (tl e) P E {s with heap:=h1}):
  Yq (Yt prog w) A (seqEpoch a >>= λx=>afx (.ref a) (λ_=>out) >>= λ_=>tl x) P E s:=
 Yf (seqEpoch_at ho rfl (Yf (aeG ho rfl (h _ _ (λb o d q=>(Gr _ _ (Ne.symm d)).trans q) (air ho λ_=>out)) (Y9 _) (acD hz))))
end
def Lv{α:Type}(n:Nat)(P:α->Prop):abi α->Prop
 | .ret a=>P a
 | .ask i j k=>i<n/\j<n/\∀b,Lv n P (k b)
theorem qP{α β:Type}{n:Nat}{P:α->Prop}{c:β->Prop}{f:α->abi β}(d:∀a,P a->Lv n c (f a)):∀t:abi α,Lv n P t->Lv n c (t.bind f)
 | .ret a,h=>d a h
 | .ask i j k,h=>⟨h.1,h.2.1,λb=>qP d (k b) (h.2.2 b)⟩
def jI(n:Nat)(p:Array Nat):Prop:=p.toList.Perm (YR n)
theorem cY(h:jI n p)(hn:0<n)(i:Nat):p.getD i 0<n:=by
 by_cases z:i<p.size
 ·have e:p.getD i 0=p[i]:=by simp[ajM,z]
  rw[e];have:p[i]∈p.toList:=Array.getElem_mem_toList z;exact xu.mp (h.mem_iff.mp this)
 ·have e:p.getD i 0=0:=by simp[ajM,z]
  rw[e];exact hn
theorem lH(h:jI n p)(i j:Nat):jI n (abz p i j):=(aeH.mp (mirror_perm p i j _)).trans h
theorem NU(h:jI n p)(i j:Nat):jI n (bubble p i j):=(aeH.mp (bubble_perm p i j)).trans h
section
variable(hn:0<n)
include hn
theorem GC{p:Array Nat}(h:jI n p):∀f m:Nat,Lv n (λ_=>True) (ais p f m)
 |0,m=>trivial
 |f+ 1,m=>by
  refine⟨cY h hn _,cY h hn _,λb=>?_⟩;cases b
  ·exact GC h f (m+ 1)
  ·exact trivial
theorem x4:∀(f:Nat) {p:Array Nat} (m q:Nat),jI n p->Lv n (λr=>jI n r.1) (ahT f p m q)
 |0,p,m,q,h=>h
 |f+ 1,p,m,q,h=>by
  refine⟨cY h hn _,cY h hn _,λb=>?_⟩;cases b
  ·refine⟨cY h hn _,cY h hn _,λd=>?_⟩;cases d
   ·exact x4 f (m+ 1) (q+ 1) h
   ·exact h
  ·show Lv n _ (if q>0 then _ else _);by_cases z:q>0
   ·rw[if_pos z];exact x4 f (m+ 1) 0 (lH h _ _)
   ·rw[if_neg z];exact x4 f (m+ 1) 0 h
theorem CS(h:jI n p)(m r:Nat):Lv n (λr=>jI n r.2) (ahv m r p):=by
 refine qP (P:=λ_=>True) (λa _=>?_) _ (GC hn (lH h _ _) _ _);exact lH h _ _
theorem wa(h:jI n p)(m r:Nat):Lv n (λr=>jI n r.2) (agH m r p):=by
 refine qP (P:=λr=>jI n r.1) (λa ha=>?_) _ (x4 hn _ _ _ h);by_cases z:a.2.2>0
 ·rw[if_pos z];exact CS hn (lH ha _ _) _ _
 ·rw[if_neg z];exact CS hn ha _ _
theorem L4(h:jI n p)(r:Nat):Lv n (λr=>jI n r.2) (ahw r p):=by
 refine qP (P:=λ_=>True) (λa _=>?_) _ (GC hn h _ _);by_cases z:(a==r)=true
 ·rw[if_pos z];exact h
 ·rw[if_neg z];by_cases y:a>1
  ·rw[if_pos y];refine⟨cY h hn _,cY h hn _,λb=>?_⟩;cases b
   ·exact wa hn (lH h _ _) _ _
   ·exact h
  ·rw[if_neg y];exact wa hn h _ _
theorem yP{p:Array Nat}(h:jI n p)(k:Nat):∀f l r:Nat,Lv n (λ_=>True) (ahx p k f l r)
 |0,l,r=>trivial
 |f+ 1,l,r=>by
  show Lv n _ (if l≥r then _ else _);by_cases z:l≥r
  ·rw[if_pos z];exact trivial
  ·rw[if_neg z];refine⟨cY h hn _,cY h hn _,λb=>?_⟩;cases b
   ·exact yP h k f _ _
   ·exact yP h k f _ _
theorem Nf:∀(f:Nat) {p:Array Nat} (k:Nat),jI n p->Lv n (jI n) (ait f p k)
 |0,p,k,h=>h
 |f+ 1,p,k,h=>qP (P:=λ_=>True) (λa _=>Nf f (k+ 1) (NU h _ _)) _ (yP hn h k _ _ _)
theorem Qj:Lv n (jI n) (afm n):=by
 refine qP (P:=λr=>jI n r.2) (λa ha=>?_) _ (L4 hn (ado _) n);by_cases z:a.1<n
 ·rw[if_pos z];exact Nf hn _ _ ha
 ·rw[if_neg z];exact ha
end
theorem LX(h:jI vs.length p):(p.toList.map λi=>vs.getD i aao).Perm vs:=by
 have e:(YR vs.length).map (λi=>vs.getD i aao)=vs:=by
  refine afg (by simp) λi h1 h2=>?_;simp at h1⊢;simp[h1]
 have:=h.map λi=>vs.getD i aao;rw[e]at this;exact this
section
def XM(h:YT)(v:Yd):Prop:=∃a o b n f ns,v=.ref a/\h.get? a=Ya o/\o.cls=.type "tuple"/\o.data=.seq b n/\RW b.toList (f::ns)
theorem Dt{h:YT}:∀{vs:List Yd},(∀v∈vs,XM h v)->∃fs:List Yd,aiu h vs fs/\(∀v∈fs,∃n t,v=abn n t)/\fs.length=vs.length
 |[],_=>⟨[],PySem.W.KatTups.nil,by simp,rfl⟩
 |v::vs,hv=>by
  obtain⟨fs,h1,h2,h3⟩:=Dt (vs:=vs) λv b=>hv v (Yr _ b);obtain⟨a,o,c,n,f,ns,rfl,e,g,i,d⟩:=hv v Ys;obtain⟨w,hw,tk,j⟩:∃w,c[0]?=Ya w/\∃tk,w=abn f tk:=by
   rw[←vc];generalize c.toList=l at d⊢;cases d with
   |cons _ t r=>exact⟨_,rfl,_,rfl⟩
  refine⟨w::fs,PySem.W.KatTups.cons e g i hw h1,λu k=>?_,by rw[Y5,Y5,h3]⟩;rcases Yn.mp k with z|z
  ·rw[z,j];exact⟨_,_,rfl⟩
  ·exact h2 u z
end
section
end
section
variable{H0:Hp}{h':YT}
theorem aM.adopt{it:Ye}{o:HO}{t':Nat}(I:aM X Za σ H s)(k:∀b o,b≠it->s.heap.get? b=Ya o->h'.get? b=Ya o)(h:uw X Za H it)
  (new:cg X.prog X.w (upd H it o) h' it o):aM X Za σ (upd H it o) {s with heap:=h',toks:=t'}:=by
 obtain⟨i,g,y,j,l,p⟩:=h;have a:∀b u,H b=Ya u->b≠it:=λb u e z=>by rw[z,i]at e;cases e
 refine I.step (g':=s.gens) (d':=s.drawn) (ch:=[it]) (λb f=>?_) (λb o _ _ d e _=>k b o (λz=>d (by simp[z])) e) (λb o _ _ d e _=>⟨o.slots,k b o (λz=>d (by simp[z])) e⟩) (λb ob d e n=>by rw[ak (λz=>d (by simp[z]))];exact n)
  (λb o d e=>⟨o,k b o (λz=>d (by simp[z])) e⟩) (λb t e=>by rw[ak (a b _ e)];exact e) (λb o u e=>by rw[ak (a b _ e)];exact e) (λb ps e=>⟨#[],by rw[ak (a b _ e),e];simp⟩) (λm hm=>?_) (λb u e=>?_) I.bare
 ·have e:b=it:=by simpa using f
  subst e;exact⟨j,g,l,p⟩
 ·obtain⟨ob,w,x,ho,r⟩:=hm;exact⟨ob,w,x,k _ ob (Ne.symm g) ho,r⟩
 ·by_cases f:b=it
  ·subst f;rw[ai]at e;cases e;exact new
  ·rw[ak f]at e;refine(I.hok b u e).stay (λc v d q=>k c v ?_ q) (λc q=>by rw[ak (a c _ q)];exact q) λc t q=>by rw[ak (a c _ q)];exact q
   rcases d with z|z
   ·rw[z];exact a b u e
   ·exact a c _ z
end
theorem cQ.two(r:cQ (k+ 1) A):cQ k A.in1.in1:=⟨r.hd,by have:=r.dp;show A.depth+ 3*k+ 5<aeh;omega,by have:=r.un;show A.units+ 1+ 1+ 16*k+ 200<aap;omega⟩
theorem NG{x:V}{v:Yd}:Vals xs its->RelV x v->Vals (xs++[x]) (its++[v]):=λh r=>h.append (.cons r .nil)
section
variable{D:Ye}
end
section
end
section
end
section
end
section
variable{K:Yc}
end
end L2
namespace GX
open PySem PySem.Spec PyProof.Rows
variable{prog:YZ}{w:Y6}{A:xw}{s:Ym}{E:Yd->Ym->Prop}{it d:Ye}{h:YT}{es:Array xl}{ep i:Nat}{Q:Option Yd->Ym->Prop}
section
variable{l:Ye}
end
noncomputable abbrev ke(es:Array xl)(ep:Nat):uc:={cls:=.type "dict",data:=.dict es ep}
noncomputable abbrev G1(d:Ye)(i n ep:Nat):uc:={cls:=.type "dict_valueiterator",data:=.fields #[.ref d,.int i 0,.int n 0,.int ep 0]}
theorem MV(it d:Ye)(i ep:Nat)(es:Array xl)(e:xl)(a:es[i]?=Ya e):
  acz (aaa.«dict_valueiterator.__next__» ⟨[.ref it],[]⟩) (λ_ R s=>s.heap.get? it=Ya (G1 d i es.size ep)/\s.heap.get? d=Ya (ke es ep)/\
   ∀g,g.get? it=Ya (G1 d (i+ 1) es.size ep)->aab it s.heap g->R (.ok (.ret e.val)) {s with heap:=g}):=
 .of_wp λprog w A R s ⟨h1,h2,q⟩=>by
  obtain⟨h,g,b,tk,os⟩:=s;have c:GV {heap:=h,gens:=g,drawn:=b,toks:=tk,os:=os} (.ref it) "dict_valueiterator":=⟨_,h1,rfl⟩
  wp_walk
  rw[if_neg (by omega),YQ,a]
  wp_walk
  have ow:aa8 ((Manifest.find? "dict_valueiterator").elim "dict_valueiterator" λx=>x.tpName)=false:=by decide +kernel
  refine⟨_,rfl,q _ ?_ (aay ..)⟩;rw[aaz _ h1 rfl,ow];simp[adC,aa9];intro x a hm;exfalso
  revert x a hm
  decide +kernel
theorem Pl(d:Ye)(es:Array xl)(ep:Nat)(hd:(d==aah)=false):
  acz (aaa.«dict.values» ⟨[.ref d],[]⟩) (λ_ R s=>s.heap.get? d=Ya (ke es ep)/\R (.ok (.ret (.ref s.heap.objs.size))) {s with heap:=s.heap.push {cls:=.type "dict_values",data:=.fields #[.ref d]}}):=
 .of_wp λprog w A R s ⟨h1,q⟩=>by
  obtain⟨h,g,a,tk,os⟩:=s;have b:GV {heap:=h,gens:=g,drawn:=a,toks:=tk,os:=os} (.ref d) "dict":=⟨_,h1,rfl⟩
  wp_walk
  exact⟨_,rfl,q⟩
theorem Py(it d:Ye)(i ep:Nat)(es:Array xl)(a:es.size<=i):
  acz (aaa.«dict_valueiterator.__next__» ⟨[.ref it],[]⟩) (λA R s=>A.handled=Yb/\s.heap.get? it=Ya (G1 d i es.size ep)/\s.heap.get? d=Ya (ke es ep)/\
   ∀g e,adw it s.heap g->GV {s with heap:=g} (.ref e) "StopIteration"->R (.error (.ref e)) {s with heap:=g}):=
 .of_wp λprog w A R s ⟨h0,h1,h2,q⟩=>by
  obtain⟨h,g,c,tk,os⟩:=s;have k:GV {heap:=h,gens:=g,drawn:=c,toks:=tk,os:=os} (.ref it) "dict_valueiterator":=⟨_,h1,rfl⟩;have f:A.in1.handled=none:=h0
  wp_walk
  rw[if_neg (by omega),YQ,aaG a]
  wp_walk
  simp only[ahS]
  wp_walk
  exact q _ _ (λb o j e=>Yh _ (Yh _ (((aay ..).2 b j).trans e))) ⟨_,Yv _ rfl,rfl⟩
theorem J2(v d:Ye)(ep:Nat)(es:Array xl)(dd:Option Ye)(a:Array (Option Yd)):
  acz (aaa.«dict_values.__iter__» ⟨[.ref v],[]⟩) (λA R s=>s.heap.get? v=Ya {cls:=.type "dict_values",dict:=dd,data:=.fields #[.ref d],slots:=a}/\s.heap.get? d=Ya (ke es ep)/\
   R (.ok (.ret (.ref s.heap.objs.size))) {s with heap:=s.heap.push (G1 d 0 es.size ep)}):=
 .of_wp λprog w A R s ⟨h1,h2,q⟩=>by
  obtain⟨h,g,b,tk,os⟩:=s;have c:GV {heap:=h,gens:=g,drawn:=b,toks:=tk,os:=os} (.ref v) "dict_values":=⟨_,h1,rfl⟩
  wp_walk
  have ow:aa8 "dict_valueiterator"=false:=by decide +kernel
  rw[ow];exact⟨_,rfl,q⟩
def fS(h:YT)(d:Ye)(es:Array xl)(ep:Nat):Prop:=h.get? d=Ya (ke es ep)
def yV(h:YT)(it d:Ye)(i n ep:Nat):Prop:=h.get? it=Ya (G1 d i n ep)
theorem fS.of{o:uc}(e:h.get? d=Ya o)(x:o.ExactDict)(dt:o.data=.dict es ep):fS h d es ep:=by
 obtain⟨c,b,a,f⟩:=o;obtain⟨rfl,rfl,rfl⟩:=x;cases dt;exact e
theorem fS.at{g:YT}(x:fS h d es ep)(k:∀o,h.get? d=Ya o->g.get? d=Ya o):fS g d es ep:=k _ x
theorem fS.lt(x:fS h d es ep):d<h.objs.size:=Yw x
theorem yV.is{n:Nat}(x:yV h it d i n ep):h.IsValIter it d i n ep:=⟨_,x,rfl,rfl⟩
section
variable{v:Ye}
theorem Gs{Q:Yd->Ym->Prop}(a:(d==aah)=false)(rd:fS s.heap d es ep)
  (q:Q (.ref s.heap.objs.size) {s with heap:=s.heap.push {cls:=.type "dict_values",data:=.fields #[.ref d]}}):Yq (Yt prog w) A (call (.builtin "dict.values") [.ref d]) Q E s:=
 acS F.slot_dict_values ⟨_,rd,rfl⟩ F.entry_dict_values (F.args_dict_values_1 _) (Pl d es ep a) ⟨rd,q⟩
theorem K4{Q:Yd->Ym->Prop}(a:s.heap.IsValuesView v d)(rd:fS s.heap d es ep)
  (q:Q (.ref s.heap.objs.size) {s with heap:=s.heap.push (G1 d 0 es.size ep)}):Yq (Yt prog w) A (adt (.ref v)) Q E s:=by
 obtain⟨⟨c,b,f,g⟩,e,rfl,rfl⟩:=id a;apply acC a.typeIs F.slot_dict_values_iter;apply acS F.slot_dict_values_iter a.typeIs F.entry_dict_values_iter (F.args_dict_values_iter_1 _) (J2 v d ep es b g);exact⟨e,rd,"dict_valueiterator",_,⟨_,Yv _ rfl,rfl⟩,F.slot_dict_valueiterator_next.lookup,q⟩
theorem LJ{R:ack->Ym->Prop}{S:xw->(ack->Ym->Prop)->Ym->Prop}(a:s.TypeIs (.ref it) "dict_valueiterator")(m:acz (aaa.«dict_valueiterator.__next__» ⟨[.ref it],[]⟩) S)(h:S A R s):
  Rk (Yt prog w) A (.call (.builtin "dict_valueiterator.__next__") ⟨[.ref it],[]⟩) R s:=
 aaS F.slot_dict_valueiterator_next.plain F.entry_dict_valueiterator_next (F.slot_dict_valueiterator_next.check _ _ _ _ _ _ _ _ a (F.args_dict_valueiterator_next_1 _) (m prog w A R s h))
theorem NC{e:xl}(c:yV s.heap it d i es.size ep)(rd:fS s.heap d es ep)(f:es[i]?=Ya e)(h:∀g,yV g it d (i+ 1) es.size ep->aab it s.heap g->Q (Ya e.val) {s with heap:=g}):Yq (Yt prog w) A (aaL (.ref it)) Q E s:=by
 have j:s.TypeIs (.ref it) "dict_valueiterator":=⟨_,c,rfl⟩;have k:=F.slot_dict_valueiterator_next.lookup;have l:=F.slot_dict_valueiterator_next.bind (.ref it);unfold aaL
 repeat' first|assumption|wp_step
 exact LJ j (MV it d i ep es e f) ⟨c,rd,λg a b=>Yp (Yp (h g a b))⟩
theorem QE(f:A.handled=Yb)(c:yV s.heap it d i es.size ep)(rd:fS s.heap d es ep)(h:es.size<=i)(fin:∀g,adw it s.heap g->Q Yb {s with heap:=g}):Yq (Yt prog w) A (aaL (.ref it)) Q E s:=by
 have j:s.TypeIs (.ref it) "dict_valueiterator":=⟨_,c,rfl⟩;have l:=F.slot_dict_valueiterator_next.lookup;have m:=F.slot_dict_valueiterator_next.bind (.ref it);have k:aiW (.type "StopIteration") (.type "StopIteration")=pure true:=by rw[acJ];kernel_rfl
 unfold aaL
 repeat' first|assumption|wp_step
 refine LJ j (Py it d i ep es h) ⟨f,c,rd,λg e a b=>?_⟩;have n:=fin g a
 repeat' first|assumption|wp_step
end
theorem KP(l:A.handled=Yb)(nd:d≠it):
  aeY prog w A it [it,d] [it] es.size (λi x=>∃y:xl,es[i]?=Ya y/\x=y.val) (λi h=>yV h it d i es.size ep/\fS h d es ep):=by
 constructor
 case sub=>intro b f;simp at f;simp[f]
 case frame=>exact λi h g x k=>⟨k it (by simp) _ x.1,k d (by simp) _ x.2⟩
 case self=>exact λi s Q E x q=>agF x.1.is q
 case done=>exact λs Q E x q=>QE l x.1 x.2 (Yl _) λg k=>q g s.toks λb o c e=>k b o (by simpa using c) e
 case item=>
  intro i s Q E j x q;exact NC x.1 x.2 (YI j) λg a k=>q _ g s.toks ⟨_,YI j,rfl⟩ ⟨a,(k.2 d nd).trans x.2⟩ λb o c e=>(k.2 b (by simpa using c)).trans e
section
variable{K:Type}[DecidableEq K]{knd:HeapKind prog w K}{a:Ye}{xs:List (K×Ye×Yd)}{k:K}{j:Nat}{p:Ye×Yd}
end
end GX
namespace L2
open PySem PySem.Spec PyProof.Rows
variable{X:Cx}{P:YZ}{w:Y6}{d D f a C:Ye}{H H':Hp}{h h' base B:YT}{kvs:List (List bJ×V)}{n k m:Nat}{b:Nat->Nat->Bool}{s s':Ym}{p:Array Nat}{xs vs Zx:List V}{its us:List Yd}{ks:List (List Int)}{A:xw}{E:Yd->Ym->Prop}{Q:Bool->Ym->Prop}{Za:List (Ye×uc)}{σ:St}{fd:YD}{ps N:List Yo}{sp:Sp}{e:cT}{te:TE}{pos:abE}{t:TS}{CX:LF}{mg:Yo->Option Yd}{Zb:Yo}{scope:aci}{cd:Yd}{cl:List (Yo×Ye)}{outer:List acw}{ix:List Nat}{Zd:String}
section
variable{tg:cT}
end
theorem TV{r:Ye}{es:Array xl}{ep:Nat}:
  aiN P w "dict_values" r d es.size (λi x=>∃y:xl,es[i]?=Ya y/\x=y.val) (λh=>h.IsValuesView r d/\GX.fS h d es ep):=by
 constructor
 case iter=>
  intro A s a ⟨b,rd⟩;refine⟨GX.G1 d 0 es.size ep,λi h=>GX.yV h s.heap.objs.size d i es.size ep/\GX.fS h d es ep,λE Q q=>GX.K4 b rd q,GX.KP a (YL rd.lt),Yv _ rfl,rd.at λo e=>Yh _ e⟩
 case hint=>exact λA E s Q x q=>PySem.W.kdl_hint_values x.1.typeIs q
 case keep=>
  intro h g ⟨⟨o,e,c,dt⟩,rd⟩ k;exact⟨⟨o,k r (Or.inl rfl) o e,c,dt⟩,rd.at (k d (Or.inr rfl))⟩
 case there=>
  intro h ⟨⟨o,e,_⟩,rd⟩;exact And.intro (Yw e) rd.lt
 case type=>exact λs x=>x.1.typeIs
 case notList=>rfl
 case notTuple=>rfl
theorem Lm(ok:mE P w H h)(e:Rd H d (.dT kvs)):
  (d==aah)=false/\∃(es:Array xl) (ep:Nat),GX.fS h d es ep/\es.size=kvs.length/\∀(i:Nat) (k:List bJ) (v:V),kvs[i]?=Ya (k,v)->∃y:xl,es[i]?=Ya y/\RelV v y.val:=by
 obtain⟨_,b,j,a,o,es,ep,h1,h2,h3,h4,_⟩:=rm ok e;refine⟨b,es,ep,.of h1 h2 h3,?_,λi k v c=>?_⟩
 ·rw[←YO,h4,Yg];exact(Y7 a).symm
 ·obtain⟨q,f,_,_,g⟩:=dB a c;refine⟨agq (abo (aY P w)) q,?_,g⟩;rw[←vc,h4,Yy,f];rfl
section
theorem OF:Vk X "dict.values" (λx vs H Q=>∃d kvs,x=.ref d/\vs=[]/\H d=Ya (.dT kvs)/\∀v,H v=Yb->Q (.ref v) (upd H v (Hf v d))):=by
 intro l s σ H x m v n Q I a c h;obtain⟨d,kvs,rfl,rfl,hd,q⟩:=h;cases a;cases c;obtain⟨f,p,r,rd,_⟩:=Lm I.hok (.inl hd);refine GX.Gs f rd ?_;exact⟨.ref s.heap.objs.size,_,I.laid (o:=Hf s.heap.objs.size d) (t':=s.toks) (λb ob e=>Yh _ e) (Yl _) ⟨⟨_,Yv _ rfl,rfl,rfl⟩,⟨_,Yv _ rfl⟩,λh1 h2 ⟨o,g,i,j⟩ k=>⟨o,k o g,i,j⟩⟩,rfl,q _ (I.hok.fresh (Yl _))⟩
theorem EA(w:X.calm=true):c6 X (.type "list") (λxs H Q=>∃(v d:Ye) (kvs:List (List bJ×V)),xs=[.ref v]/\H v=Ya (Hf v d)/\Rd H d (.dT kvs)/\kvs.length<=1000/\∀l,H l=Yb->Q (.ref l) (upd H l (.lst (kvs.map (·.2))))):=by
 intro J s σ H xs K Q I r h;obtain⟨v,d,kvs,rfl,z,hd,b,q⟩:=h;obtain⟨u,rfl,B⟩:=dW r;cases B;obtain⟨L,n,C,rd,sz,k⟩:=Lm I.hok hd;have m:s.heap.IsValuesView v d:=(I.hok v _ z).1;refine adL (A:=X.A) (TV (es:=n) (ep:=C)) (I.ok.hd w) ⟨m,rd⟩ (by rw[sz];exact rl (aG (by omega))) λM tk f c D E a=>?_;refine⟨.ref s.heap.objs.size,_,I.laid (o:=.lst (kvs.map (·.2))) (t':=tk) D (Yl _) ⟨by rw[Yg];exact rl (aG b),f.toList,c,yw ?_ λi x u g t=>?_,E⟩,rfl,q _ (I.hok.fresh (Yl _))⟩
 ·have e:f.toList.length=n.size:=by rw[YO];exact a.1
  rw[Yg,e,sz]
 ·rw[vc]at t;obtain⟨y,F,rfl⟩:=a.2 i u t;rw[Yy]at g;cases e:kvs[i]? with
  |none=>rw[e]at g;cases g
  |some p=>
   rw[e]at g;cases g;obtain⟨N,j,G⟩:=k i p.1 p.2 e;rw[F]at j;cases j;exact G
end
section
end
section
end
def Lo{α:Type}(n:Nat)(b:Nat->Nat->Bool)(P:α->Prop):abi α->Prop
 | .ret a=>P a
 | .ask i j k=>i<n/\j<n/\Lo n b P (k (b i j))
theorem qM{α β:Type}{n:Nat}{b:Nat->Nat->Bool}{P:α->Prop}{c:β->Prop}{f:α->abi β}(d:∀a,P a->Lo n b c (f a)):∀t:abi α,Lo n b P t->Lo n b c (t.bind f)
 | .ret a,h=>d a h
 | .ask i j k,h=>⟨h.1,h.2.1,qM d (k (b i j)) h.2.2⟩
theorem MA{α:Type}{n:Nat}{b:Nat->Nat->Bool}{P:α->Prop}{cmp:Nat->Nat->(Bool->Ym->Prop)->Ym->Prop}{G:α->Ym->Prop}{s:Ym}(c:∀i j C,i<n->j<n->C (b i j) s->cmp i j C s)(d:∀a,P a->G a s):∀t:abi α,Lo n b P t->t.kasWp cmp G s
 | .ret a,h=>d a h
 | .ask i j k,h=>c i j _ h.1 h.2.1 (MA c d (k (b i j)) h.2.2)
theorem vk{α:Type}{n:Nat}{b:Nat->Nat->Bool}{P c:α->Prop}(hp:∀a,P a->c a):∀t:abi α,Lo n b P t->Lo n b c t
 | .ret a,h=>hp a h
 | .ask i j k,h=>⟨h.1,h.2.1,vk hp (k (b i j)) h.2.2⟩
theorem t8(h:jI n p):p.size=n:=by
 have:=h.length_eq;rw[oh,YO]at this;exact this
theorem uP{i j:Nat}(a:j<=p.size)(k:Nat):(abz p i j).getD k 0=if i<=k/\k<j then p.getD (i+ j-1-k) 0 else p.getD k 0:=by
 rw[YE,YE,YE];unfold abz;rw[getElem?_mirror_all a];split<;>rfl
theorem IQ{l:Nat}(hk:k<p.size)(hl:l<=k)(i:Nat):(bubble p k (k-l)).getD i 0=if i=l then p.getD k 0 else if l<i/\i<=k then p.getD (i-1) 0 else p.getD i 0:=by
 rw[YE,YE,YE,YE,getElem?_bubble hk _ (by omega),show k-(k-l)=l by omega];split
 ·rfl
 ·split<;>rfl
section
variable(ky:Nat->Int)
noncomputable abbrev bk(i j:Nat):Bool:=decide (ky i<ky j)
def Up(p:Array Nat)(m:Nat):Prop:=∀i j,i<=j->j<m->ky (p.getD i 0)<=ky (p.getD j 0)
def Dn(p:Array Nat)(m:Nat):Prop:=∀i j,i<=j->j<m->ky (p.getD j 0)<=ky (p.getD i 0)
variable{ky}(hn:0<n)
theorem S5(h1:1<=m)(h:Up ky p m)(e:ky (p.getD (m-1) 0)<=ky (p.getD m 0)):Up ky p (m+ 1):=λi j a b=>by
 by_cases z:j<m
 ·exact h i j a z
 ·obtain rfl:j=m:=by omega
  by_cases w:i=j
  ·rw[w];exact aaW _
  ·exact ab8 (h i (j-1) (by omega) (by omega)) e
theorem yu(h1:1<=m)(h:Dn ky p m)(e:ky (p.getD m 0)<=ky (p.getD (m-1) 0)):Dn ky p (m+ 1):=λi j a b=>by
 by_cases z:j<m
 ·exact h i j a z
 ·obtain rfl:j=m:=by omega
  by_cases w:i=j
  ·rw[w];exact aaW _
  ·exact ab8 e (h i (j-1) (by omega) (by omega))
include hn
theorem GF{p:Array Nat}(h:jI n p):∀f m:Nat,1<=m->Up ky p m->Lo n (bk ky) (λr=>m<=r/\r<=m+ f/\Up ky p r/\(r<m+ f->ky (p.getD r 0)<ky (p.getD (r-1) 0))) (ais p f m)
 |0,m,h1,u=>⟨Yl _,Yl _,u,λz=>absurd z (Y8 _)⟩
 |f+ 1,m,h1,u=>by
  refine⟨cY h hn _,cY h hn _,?_⟩;by_cases c:ky (p.getD m 0)<ky (p.getD (m-1) 0)
  ·rw[show bk ky (p.getD m 0) (p.getD (m-1) 0)=true from decide_eq_true c];exact⟨Yl _,by omega,u,λ_=>c⟩
  ·rw[show bk ky (p.getD m 0) (p.getD (m-1) 0)=false from decide_eq_false c];have:=GF h f (m+ 1) (by omega) (S5 h1 u (by omega));rw[show m+ 1+ f=m+ (f+ 1) by omega]at this;refine(vk ?_ _ this);exact λr a=>⟨by omega,a.2.1,a.2.2⟩
theorem x6:∀(f:Nat) {p:Array Nat} (m q:Nat),jI n p->m+ f<=n->1<=m->Dn ky p m->q+ 1<=m->(∀i,m-(q+ 1)<=i->i<m->ky (p.getD i 0)=ky (p.getD (m-1) 0))->
  Lo n (bk ky) (λr=>jI n r.1/\Dn ky r.1 r.2.1/\1<=r.2.1/\r.2.1<=m+ f/\r.2.2+ 1<=r.2.1/\∀i,r.2.1-(r.2.2+ 1)<=i->i<r.2.1->ky (r.1.getD i 0)=ky (r.1.getD (r.2.1-1) 0)) (ahT f p m q)
 |0,p,m,q,h,hm,h1,d,hq,e=>⟨h,d,h1,Yl _,hq,e⟩
 |f+ 1,p,m,q,h,hm,h1,d,hq,e=>by
  have hs:=t8 h;refine⟨cY h hn _,cY h hn _,?_⟩;by_cases c:ky (p.getD m 0)<ky (p.getD (m-1) 0)
  ·rw[show bk ky (p.getD m 0) (p.getD (m-1) 0)=true from decide_eq_true c];show Lo n _ _ (if q>0 then _ else _);by_cases z:q>0
   ·rw[if_pos z];have u:∀k,ky ((abz p (m-(q+ 1)) m).getD k 0)=ky (p.getD k 0):=λk=>by
     rw[uP (by omega)];split
     ·rename_i w;rw[e _ (by omega) (by omega),e k (by omega) (by omega)]
     ·rfl
    have:=x6 f (p:=abz p (m-(q+ 1)) m) (m+ 1) 0 (lH h _ _) (by omega) (by omega) (yu h1 (λi j a b=>by rw[u,u];exact d i j a b) (by rw[u,u];omega)) (by omega) λi a b=>by
     obtain rfl:i=m:=by omega
     rfl
    refine vk (λr g=>?_) _ this;obtain⟨l,o,s,v,t⟩:=g;exact⟨l,o,s,by omega,t⟩
   ·rw[if_neg z];have:=x6 f (p:=p) (m+ 1) 0 h (by omega) (by omega) (yu h1 d (by omega)) (by omega) λi a b=>by
     obtain rfl:i=m:=by omega
     rfl
    refine vk (λr g=>?_) _ this;obtain⟨l,o,s,v,t⟩:=g;exact⟨l,o,s,by omega,t⟩
  ·rw[show bk ky (p.getD m 0) (p.getD (m-1) 0)=false from decide_eq_false c];refine⟨cY h hn _,cY h hn _,?_⟩;by_cases x:ky (p.getD (m-1) 0)<ky (p.getD m 0)
   ·rw[show bk ky (p.getD (m-1) 0) (p.getD m 0)=true from decide_eq_true x];exact⟨h,d,h1,by show m<=m+ (f+ 1);omega,hq,e⟩
   ·rw[show bk ky (p.getD (m-1) 0) (p.getD m 0)=false from decide_eq_false x];have:=x6 f (p:=p) (m+ 1) (q+ 1) h (by omega) (by omega) (yu h1 d (by omega)) (by omega) λi a b=>by
     rw[show m+ 1-1=m by omega];by_cases w:i=m
     ·rw[w]
     ·rw[e i (by omega) (by omega)];omega
    refine vk (λr g=>?_) _ this;obtain⟨l,o,s,v,t⟩:=g;exact⟨l,o,s,by omega,t⟩
abbrev Xy(ky:Nat->Int)(n:Nat)(r:Nat×Array Nat):Prop:=jI n r.2/\Up ky r.2 r.1/\1<=r.1/\r.1<=n
theorem Fd(h:jI n p)(h1:1<=m)(hm:m<=n)(d:Dn ky p m):Lo n (bk ky) (Xy ky n) (ahv m n p):=by
 have hs:=t8 h;have u:Up ky (abz p 0 m) m:=λi j b c=>by
  rw[uP (by omega),uP (by omega),if_pos ⟨by omega,by omega⟩,if_pos ⟨by omega,c⟩];exact d _ _ (by omega) (by omega)
 refine qM (λa ha=>?_) _ (GF hn (lH h 0 m) (n-m) m h1 u);exact⟨lH h 0 m,ha.2.2.1,by have:=ha.1;omega,by have:=ha.2.1;omega⟩
theorem wG(h:jI n p)(h1:1<=m)(hm:m+ 1<=n)(d:Dn ky p (m+ 1)):Lo n (bk ky) (Xy ky n) (agH m n p):=by
 have hd:=x6 hn (n-(m+ 1)) (m+ 1) 0 h (by omega) (by omega) d (by omega) λi a b=>by
  obtain rfl:i=m:=by omega
  rfl
 refine qM (λa ha=>?_) _ hd;obtain⟨c,f,g,r,s,l⟩:=ha;have hs:=t8 c;by_cases z:a.2.2>0
 ·rw[if_pos z];refine Fd hn (lH c _ _) g (by omega) λi j e q=>?_;have o:∀k,ky ((abz a.1 (a.2.1-(a.2.2+ 1)) a.2.1).getD k 0)=ky (a.1.getD k 0):=λk=>by
   rw[uP (by omega)];split
   ·rename_i w;rw[l _ (by omega) (by omega),l k (by omega) (by omega)]
   ·rfl
  rw[o,o];exact f i j e q
 ·rw[if_neg z];exact Fd hn c g (by omega) f
theorem Lk(h:jI n p):Lo n (bk ky) (Xy ky n) (ahw n p):=by
 have hs:=t8 h;refine qM (λa ha=>?_) _ (GF hn h (n-1) 1 (Yl _) λi j a b=>by
  obtain rfl:i=j:=by omega
  exact aaW _)
 obtain⟨d,s,e,q⟩:=ha;by_cases z:(a==n)=true
 ·rw[if_pos z];exact⟨h,e,d,by omega⟩
 ·rw[if_neg z];have z:a≠n:=λw=>z (by rw[w];exact beq_self_eq_true n);have c:=q (by omega);by_cases y:a>1
  ·rw[if_pos y];refine⟨cY h hn _,cY h hn _,?_⟩;by_cases m:ky (p.getD 0 0)<ky (p.getD (a-1) 0)
   ·rw[show bk ky (p.getD 0 0) (p.getD (a-1) 0)=true from decide_eq_true m];exact⟨h,e,d,by omega⟩
   ·rw[show bk ky (p.getD 0 0) (p.getD (a-1) 0)=false from decide_eq_false m];have f:∀k,k<a->ky (p.getD k 0)=ky (p.getD (a-1) 0):=λk r=>by
     have t:=e 0 k (by omega) r;have u:=e k (a-1) (by omega) (by omega);omega
    have g:∀k,ky ((abz p 0 a).getD k 0)=ky (p.getD k 0):=λk=>by
     rw[uP (by omega)];split
     ·rename_i w;rw[f _ (by omega),f k (by omega)]
     ·rfl
    refine wG hn (lH h 0 a) d (by omega) (yu d (λi j l o=>?_) (by rw[g,g];omega));rw[g,g,f i (by omega),f j o];exact aaW _
  ·rw[if_neg y];obtain rfl:a=1:=by omega
   refine wG hn h (Yl _) (by omega) (yu (Yl _) (λi j l o=>?_) (by omega));obtain rfl:i=j:=by omega
   exact aaW _
theorem zB{p:Array Nat}(h:jI n p){k:Nat}(u:Up ky p k):∀f l r:Nat,l<=r->r<=k->r-l<=f->(∀i,i<l->ky (p.getD i 0)<=ky (p.getD k 0))->(∀i,r<=i->i<k->ky (p.getD k 0)<ky (p.getD i 0))->
  Lo n (bk ky) (λx=>x<=k/\(∀i,i<x->ky (p.getD i 0)<=ky (p.getD k 0))/\∀i,x<=i->i<k->ky (p.getD k 0)<ky (p.getD i 0)) (ahx p k f l r)
 |0,l,r,h1,h2,h3,a,b=>⟨by omega,a,λi e d=>b i (by omega) d⟩
 |f+ 1,l,r,h1,h2,h3,a,b=>by
  show Lo n _ _ (if l≥r then _ else _);by_cases z:l≥r
  ·rw[if_pos z];exact⟨by omega,a,λi e d=>b i (by omega) d⟩
  ·rw[if_neg z];refine⟨cY h hn _,cY h hn _,?_⟩;by_cases c:ky (p.getD k 0)<ky (p.getD ((l+ r) / 2) 0)
   ·rw[show bk ky (p.getD k 0) (p.getD ((l+ r) / 2) 0)=true from decide_eq_true c];exact zB h u f l ((l+ r) / 2) (by omega) (by omega) (by omega) a λi e d=>by
     have:=u ((l+ r) / 2) i e d;omega
   ·rw[show bk ky (p.getD k 0) (p.getD ((l+ r) / 2) 0)=false from decide_eq_false c];exact zB h u f ((l+ r) / 2+ 1) r (by omega) h2 (by omega) (λi e=>by
     have:=u i ((l+ r) / 2) (by omega) (by omega);omega) b
theorem K8:∀(f:Nat) {p:Array Nat} (k:Nat),jI n p->k+ f=n->Up ky p k->Lo n (bk ky) (λp=>jI n p/\Up ky p n) (ait f p k)
 |0,p,k,h,e,u=>by
  obtain rfl:k=n:=by omega
  exact⟨h,u⟩
 |f+ 1,p,k,h,e,u=>by
  have hs:=t8 h;refine qM (λl hl=>?_) _ (zB hn h u k 0 k (Y9 _) (Yl _) (by omega) (λi r=>absurd r (ad3 _)) λi a b=>by omega);obtain⟨g,s,t⟩:=hl;refine K8 f (k+ 1) (NU h _ _) (by omega) λi j d v=>?_;rw[IQ (by omega) g,IQ (by omega) g];by_cases m:i=l
  ·rw[if_pos m];by_cases c:j=l
   ·rw[if_pos c];exact aaW _
   ·rw[if_neg c,if_pos ⟨by omega,by omega⟩];exact ajg (t _ (by omega) (by omega))
  ·rw[if_neg m];by_cases o:l<i/\i<=k
   ·rw[if_pos o,if_neg (by omega),if_pos ⟨by omega,by omega⟩];exact u _ _ (by omega) (by omega)
   ·rw[if_neg o];by_cases c:j=l
    ·rw[if_pos c];exact s i (by omega)
    ·rw[if_neg c];by_cases q:l<j/\j<=k
     ·rw[if_pos q];exact u _ _ (by omega) (by omega)
     ·rw[if_neg q];exact u _ _ d (by omega)
theorem QS:Lo n (bk ky) (λp=>jI n p/\Up ky p n) (afm n):=by
 refine qM (λa ha=>?_) _ (Lk hn (p:=aan (YR n)) (ado _));obtain⟨c,b,d,e⟩:=ha;by_cases z:a.1<n
 ·rw[if_pos z];rw[show max a.1 1=a.1 by omega];exact K8 hn _ _ c (by omega) b
 ·rw[if_neg z];rw[show a.1=n by omega]at b;exact⟨c,b⟩
end
theorem Oy{α:Type}{n:Nat}{P c:α->Prop}(hp:∀a,P a->c a):∀t:abi α,Lv n P t->Lv n c t
 | .ret a,h=>hp a h
 | .ask i j k,h=>⟨h.1,h.2.1,λb=>Oy hp (k b) (h.2.2 b)⟩
noncomputable def Ue(f:Bool):List Int->List Int->Bool
 |x::r,y::q=>if x=y then Ue f r q else decide (x<y)
 |_,_=>f
noncomputable def GG(a b:List Int):Bool:=Ue (decide (a.length<b.length)) a b
theorem jq{α:Type}(l:List α)(d:α):((aan (YR l.length)).toList.map λi=>l.getD i d)=l:=by
 refine afg (by simp) λi h1 h2=>?_;simp at h1⊢;simp[h1]
theorem EU(h:Vals xs its)(hp:jI its.length p):(p.toList.map λi=>xs.getD i V.non).Perm xs/\Vals (p.toList.map λi=>xs.getD i V.non) (p.toList.map λi=>its.getD i aao):=by
 have c:=h.length;constructor
 ·have:=hp.map λi=>xs.getD i V.non;rw[←c]at this;have e:=jq xs V.non;rw[show(aan (YR xs.length)).toList=YR xs.length from rfl]at e;rw[e]at this;exact this
 ·have a:∀i∈p.toList,i<its.length:=λi b=>xu.mp (hp.mem_iff.mp b);generalize p.toList=l at a
  induction l with
  |nil=>exact .nil
  |cons i l ih=>
   have b:=a i Ys;refine .cons ?_ (ih λj d=>a j (Yr _ d));obtain⟨u,f,r⟩:=h.get (Yk (show i<xs.length by omega));show RelV (xs.getD i V.non) (its.getD i aao);rw[YJ,YJ,Yk (show i<xs.length by omega),f];exact r
def vH(ks:List (List Int))(n:Nat)(p:Array Nat):Prop:=(∃g:Nat->Int,∀i j,i<n->j<n->GG (ks.getD i []) (ks.getD j [])=decide (g i<g j))->∀i j,i<=j->j<n->GG (ks.getD (p.getD j 0) []) (ks.getD (p.getD i 0) [])=false
def tP(ks:List (List Int))(xs a:List V):Prop:=∃p:Array Nat,jI xs.length p/\a=(p.toList.map λi=>xs.getD i V.non)/\vH ks xs.length p
theorem AX(h:n<2):vH ks n (aan (YR n)):=by
 rintro⟨g,a⟩ i j b c;obtain rfl:i=j:=by omega
 have pg:=cY (p:=aan (YR n)) (ado _) (by omega) i;rw[a _ _ pg pg];exact decide_eq_false (ai4 _)
theorem K5{α:Type}{n:Nat}{b:Nat->Nat->Bool}{P:α->Prop}:∀t:abi α,Lv n P t->Lo n b P t
 | .ret a,h=>h
 | .ask i j k,h=>⟨h.1,h.2.1,K5 (k (b i j)) (h.2.2 _)⟩
theorem HV{α:Type}{n:Nat}{b c:Nat->Nat->Bool}(e:∀i j,i<n->j<n->b i j=c i j){P:α->Prop}:∀t:abi α,Lo n b P t->Lo n c P t
 | .ret a,h=>h
 | .ask i j k,h=>⟨h.1,h.2.1,by rw[←e i j h.1 h.2.1];exact HV e (k (b i j)) h.2.2⟩
theorem MC(hn:0<n):Lo n (λi j=>GG (ks.getD i []) (ks.getD j [])) (λp=>jI n p/\vH ks n p) (afm n):=by
 by_cases a:∃g:Nat->Int,∀i j,i<n->j<n->GG (ks.getD i []) (ks.getD j [])=decide (g i<g j)
 ·obtain⟨g,a⟩:=a;refine HV (λi j d b=>(a i j d b).symm) _ (vk (λp hp=>⟨hp.1,λ_ i j c b=>?_⟩) _ (QS (ky:=g) hn));rw[a _ _ (cY hp.1 hn _) (cY hp.1 hn _)];have:=hp.2 i j c b;exact decide_eq_false (by omega)
 ·exact K5 _ (Oy (λp hp=>⟨hp,λz=>absurd z a⟩) _ (Qj hn))
def Vn(h:YT)(v:Yd)(k:List Int):Prop:=k≠[]/\∃a o b n,v=.ref a/\h.get? a=Ya o/\o.cls=.type "tuple"/\o.data=.seq b n/\RW b.toList k
theorem Vn.tpI{v:Yd}{k:List Int}(x:Vn h v k):XM h v:=by
 obtain⟨b,a,o,c,n,d,e,g,i,j⟩:=x;cases k with
 |nil=>exact absurd rfl b
 |cons f ns=>exact⟨a,o,c,n,f,ns,d,e,g,i,j⟩
theorem pd:∀{vs:List Yd} {ns:List Int},RW vs ns->vs.length=ns.length
 |_,_,.nil=>rfl
 |_,_,.cons _ _ r=>congrArg (·+ 1) (pd r)
section
variable{prog:YZ}
theorem HS{a b:Int}{t u:ac2}{c:Bool}(h:Q (decide (a<b)) s):Yq (Yt prog w) A (oneLt' c (.int a t) (.int b u)) Q E s:=by
 cases c with
 |true=>exact oneLt_int h
 |false=>exact PySem.W.kat_one _ _ (ah7 h)
theorem QT{b fin:Bool}:∀{xs ys:List Yd} {ns a:List Int} (i:Nat),RW xs ns->RW ys a->Q (Ue fin ns a) s->agf prog w A b fin Q (xs.zip ys) i s:=by
 intro xs ys ns a i c
 induction c generalizing ys a i with
 |nil=>exact λ_ h=>afI h
 |cons x t r ih=>
  intro d h;cases d with
  |nil=>exact afI h
  |cons y u q=>
   refine afn (ae6 ?_);refine agg (λz=>afJ (ih (i:=i+ 1) q ?_)) λz=>aiO (HS ?_)
   ·have h:Q (if x=y then _ else _) s:=h;rw[if_pos (by simpa using z)]at h;exact h
   ·have h:Q (if x=y then _ else _) s:=h;rw[if_neg (by simpa using z)]at h;exact h
theorem Qd{x y:Yd}{k l:List Int}{b:Bool}(g:Vn s.heap x k)(i:Vn s.heap y l)(h:Q (GG k l) s):Yq (Yt prog w) A (keyLt' (agI b) x y) Q E s:=by
 obtain⟨_,a,o,t,n,rfl,j,u,m,c⟩:=g;obtain⟨_,v,z,p,B,rfl,q,C,r,d⟩:=i;refine agh j m q r (QT 0 c d ?_);have e:=pd c;have f:=pd d;rw[YO]at e f;rw[e,f];exact h
end
theorem tP.perm{a:List V}(h:tP ks xs a):a.Perm xs:=by
 obtain⟨p,hp,rfl,_⟩:=h;have:=hp.map λi=>xs.getD i V.non;have e:=jq xs V.non;rw[show(aan (YR xs.length)).toList=YR xs.length from rfl]at e;rw[e]at this;exact this
section
theorem JB{P:aea->Ym->Prop}(F:aF X.prog X.w X.K X.mg X.base bp k f fd ps sp)(hr:cQ k X.A.in1.in1)(Z:Binds X.K fd ps [])(IV:aM X Za σ H s)(fD:uw X Za H D)(hD:s.heap.get? D=Ya (seqObj "list" its.toArray n))(rv:Vals xs its)(h64:xs.length<64)(lk:xs.length=ks.length)(kn:∀k∈ks,k≠[])(KY:∀(i:Nat) x k H3 (Q':VK),xs[i]?=Ya x->ks[i]?=Ya k->aH H H3->(∀g t,aH H3 g->bI X.K g t (k.map V.int)->Q' (.ref t) g)->sp [x] H3 Q' E0)(hR:∀ws H' s',tP ks xs ws->aH H H'->H' D=Yb->aM X Za σ (upd H' D (.lst ws)) s'->P (.done (.ret .none)) s'):
  Yq (Yt X.prog X.w) X.A.in1.in1 (ksk_tree D (.ref f) false) P E s:=by
 have lv:=rv.length;unfold ksk_tree;refine HH (k:=λits e ks=>ksk_rest D (.ref f) false its e ks) hD (by omega) λh2 e1 k2 ab=>?_;obtain⟨f0,f1,f2,f3,f4,f5⟩:=id fD;have I2:aM X Za σ H {s with heap:=h2}:=IV.turned (t':=s.toks) (it:=D) k2 f0 f1 f3 f4 f5;have l:h2.objs.size≠D:=abu (Yw ab);have I:H h2.objs.size=none:=aM.fresh I2;have I3:aM X Za σ (upd H h2.objs.size (.lst [])) {s with heap:=h2.push (seqObj "list" #[] 0)}:=aM.lnew (s:={s with heap:=h2}) (its:=[]) (t':=s.toks) I2 .nil (Y9 _);have ac:(h2.push (seqObj "list" #[] 0)).get? D=Ya (seqObj "list" #[] e1):=Yh _ ab;generalize h2.push (seqObj "list" #[] 0)=h3 at I3 ac⊢;generalize h2.objs.size=kS at I3 l I⊢;unfold ksk_rest;refine Yf (agA ?_);rw[List.forIn_toArray];refine Yf (ksk_fold (λi s'=>∃H' a,aM X Za σ H' s'/\aH H H'/\H' D=Yb/\s'.heap.get? D=Ya (seqObj "list" #[] e1)/\H' kS=Ya (.lst ((a:List Ye).map V.ref))/\a.length=i/\∀(j:Nat) t,a[j]?=Ya t->∃k,ks[j]?=Ya k/\bI X.K H' t (k.map V.int)) its 0 _ ⟨_,[],I3,aC I,by rw[ak l.symm];exact f0,ac,ai,rfl,λj t h=>by simp at h⟩ ?_ ?_)
 ·rintro j x s' hx ⟨H',a,I',sm,J,gD,hK,lt,ht⟩;rw[ad0]at lt;have hj:=(Yj.mp hx).1;have ad:xs[j]?=Ya xs[j]:=Yk (by omega);obtain⟨u',m,rx⟩:=rv.get ad;rw[hx]at m;cases m;have ae:ks[j]?=Ya ks[j]:=Yk (by omega);have am:uw X Za H' D:=⟨J,f1,f2,f3,f4,f5⟩;have IP:aM X (Za++vF [D] s'.heap) σ H' s':=I'.pinned (fp:=[D]) (λb Z=>by rw[Yi.mp Z];exact am) (λb Z=>by rw[Yi.mp Z];exact⟨_,gD,λv z=>nomatch z⟩);have Zi:=r9 (X:=X.one.one) (vs:=[xs[j]]) (us:=[x]) (Q:=λz g=>∃t,z=.ref t/\aH H' g/\bI X.K g t (ks[j].map V.int)) (E:=E0) (Zm:=[]) (ds:=[]) F hr Z .nil (λ_ _ _ _ _ _ _ q=>q.elim) IP.one.one (.cons rx .nil) (by
   rw[sq];exact KY j _ _ H' _ ad ae sm λg t s4 h4=>⟨t,rfl,s4,h4⟩)
  refine Yf (adD (xi Zi (λu s2 q=>?_) λ_ _ q=>q.elim));obtain⟨z,g,I4,rz,U,rfl,s4,an⟩:=q;cases rz;have I4:=aM.back IP.ok (aM.back IP.one.ok I4);have pD:=I4.pin (D,seqObj "list" #[] e1) (YH _ (YH _ (hG (by simp) gD)));have I5:=I4.unpinned;have K:=s4 _ _ hK;obtain⟨_,d,nk,rk,M,W⟩:=I5.lstM K;rw[Yg]at M;dsimp only;refine Yf (aeG W rfl ?_ (by rw[Yz,aaM];omega) (by rw[Array.size_push,Yz,aaM];omega));have I6:aM X Za σ (upd g kS (.lst ((a++[U]).map V.ref))) {s2 with heap:=s2.heap.update kS (aaJ (·.push (.ref U)))}:=I5.lset (t':=s2.toks) (its':=d++[.ref U]) K W (by simp) (by rw[Yx];exact NG rk rfl) (by rw[Yg,Yu,Y1,aaM];omega);have nt:∀t N,bI X.K g t N->bI X.K (upd g kS (.lst ((a++[U]).map V.ref))) t N:=λt N h=>by
   rcases h with(h|⟨z,h⟩)|h
   ·exact .inl (.inl (by rw[ak (λz=>by rw[z,K]at h;cases h)];exact h))
   ·exact .inl (.inr ⟨z,by rw[ak (λz=>by rw[z,K]at h;cases h)];exact h⟩)
   ·exact .inr h
  refine Yp ⟨rfl,_,a++[U],I6,λb o e=>?_,?_,?_,ai,by rw[Yu,lt];simp,λj' t r=>?_⟩
  ·rw[ak (ax e I)];exact s4 _ _ (sm _ _ e)
  ·rw[ak l.symm];exact pD.2.1
  ·exact((aay s2.heap kS (aaJ (·.push (.ref U)))).2 D l.symm).trans pD.1
  ·by_cases w:j'<a.length
   ·rw[aa1 w]at r;obtain⟨k',L,O⟩:=ht j' t r;exact⟨k',L,nt _ _ (WL.same s4 _ _ O)⟩
   ·have:j'=j:=by
     have:=(Yj.mp r).1;rw[Yu,Y1]at this;omega
    subst this;rw[aaT (by omega),lt,ad4]at r;cases r;exact⟨_,ae,nt _ _ an⟩
 rintro s' ⟨H',a,I',sm,J,gD,hK,lt,ht⟩;rw[ad0]at lt;obtain⟨_,d,nk,rk,M,W⟩:=I'.lstM hK;rw[Yg]at M;refine Yf (ajk W rfl ?_);have R:∀i,i<d.length->Vn s'.heap (d.getD i .none) (ks.getD i []):=λi S=>by
  have Y:d[i]?=Ya d[i]:=Yk S;have ag:a[i]?=Ya a[i]:=Yk (by omega);obtain⟨k',L,O⟩:=ht i _ ag;obtain⟨u',m,ru⟩:=rk.get (show(a.map V.ref)[i]?=Ya (.ref a[i]) by rw[Yy,ag];rfl);rw[Y]at m;cases m;rw[YJ,YJ,Y,L];show Vn s'.heap d[i] k';rw[show d[i]=YG a[i]from ru];obtain⟨ia,ra,pa,_⟩:=I'.tuple O;obtain⟨o,ho,hc,n',hd⟩:=id pa;exact⟨kn k' (YA L),_,o,_,n',rfl,ho,hc,hd,jt ra⟩
 have hT:∀v∈d,XM s'.heap v:=λv hv=>by
  obtain⟨i,Y⟩:=YS hv;have S:=(Yj.mp Y).1;have:=R i S;rw[YJ,Y]at this;exact this.tpI
 have y:D≠kS:=l.symm;have fin:∀st:SortSt,ahU st=Yb->(∃p,jI its.length p/\vH ks its.length p/\(arrOf st).map (·.2)=aan (p.toList.map λi=>its.getD i aao))->Yq (Yt X.prog X.w) X.A.in1.in1 (ksk_tail D false e1 (.ref kS) st) P E s':=by
  rintro st hf ⟨p,hp,od,eo⟩;obtain⟨wp,wv⟩:=EU rv hp;have po:=LX hp;generalize eo2:(p.toList.map λi=>its.getD i aao)=out at eo wv po;generalize ew:(p.toList.map λi=>xs.getD i V.non)=ws at wp wv;have ap:tP ks xs ws:=⟨p,by rw[lv];exact hp,ew.symm,by rw[lv];exact od⟩;unfold ksk_tail
  try dsimp only
  rw[eo];refine Yf (aeG W rfl ?_ (by rw[Yz,aaM];omega) (Y9 _));have I6:aM X Za σ (upd H' kS (.lst [])) {s' with heap:=s'.heap.update kS (aaJ λ_=>(#[]:Array Yd))}:=I'.lset (t':=s'.toks) (its':=[]) (ys:=[]) hK W (by simp) .nil (Y9 _);have ah:(s'.heap.update kS (aaJ λ_=>(#[]:Array Yd))).get? D=Ya (seqObj "list" #[] e1):=((aay s'.heap kS (aaJ λ_=>(#[]:Array Yd))).2 D y).trans gD;generalize s'.heap.update kS (aaJ λ_=>(#[]:Array Yd))=h6 at I6 ah⊢;refine Yf (wpAny_letGo ?_);refine yL (s:={s' with heap:=h6}) (out:=out.toArray) ah (by rw[Yz,po.length_eq,aaM];omega) λh7 c k7 g7=>?_;rw[hf]
  wp_walk
  refine hR ws (upd H' kS (.lst [])) _ ap (λb o e=>?_) (by rw[ak y];exact J) ?_
  ·rw[ak (ax e I)];exact sm _ _ e
  ·exact aM.adopt (s:={s' with heap:=h6}) (t':=s'.toks) I6 k7 ⟨by rw[ak y];exact J,f1,f2,f3,f4,f5⟩ ⟨by rw[wp.length_eq,aaM];omega,out,c,wv,g7⟩
 unfold ksk_end
 try dsimp only
 simp only[nh,if_false];by_cases h2:its.toArray.size<2
 ·rw[if_pos h2,if_pos h2];refine Yf (Yp ?_);rw[StateT.run_pure];refine Yf (Yp ?_);refine fin _ rfl ⟨aan (YR its.length),ado _,AX (by simpa using h2),?_⟩;rw[show((aan (YR its.length)).toList.map λi=>its.getD i aao)=its from jq its _];show(d.toArray.zip its.toArray).map (·.2)=its.toArray;apply ahV.mp;simp;exact ahW (by omega)
 ·rw[if_neg h2,if_neg h2];have aq:2<=its.length:=by simpa using h2
  obtain⟨fs,ar,ki,kl⟩:=Dt hT;refine Yf (ahX (T:=aaD "int") ar (by omega) (λv hv=>?_) (by decide) ?_)
  ·obtain⟨n',t',rfl⟩:=ki v hv;exact agi rfl
  have al:d.length=its.length:=by omega
  refine Yf (xi (aiv (ks:=d) (vs:=its) (Q:=λA B=>B=s'/\ahU A=Yb/\∃p,(jI its.length p/\vH ks its.length p)/\arrOf A=p.map (ahY (d.toArray.zip its.toArray)))
   (G:=λp B=>B=s'/\jI its.length p/\vH ks its.length p) al aq (by omega) (λp A B _ a2 a3 a4=>⟨a4.1,a3,p,a4.2,a2⟩) ?_) ?_ λ_ _ e=>e)
  ·refine MA (n:=its.length) (b:=λi j=>GG (ks.getD i []) (ks.getD j [])) (P:=λp=>jI its.length p/\vH ks its.length p) (λi j C Y hj hC=>?_) (λp hp=>⟨rfl,hp⟩) _ (MC (by omega));unfold aiw;exact Qd (R i (by omega)) (R j (by omega)) hC
  rintro⟨⟨⟩,A⟩ B ⟨rfl,hf,p,hp,as⟩;exact fin A hf ⟨p,hp.1,hp.2,ahZ al as⟩
theorem Of{l:Ye}{Q:Yd->Ym->Prop}(F:aF X.prog X.w X.K X.mg X.base bp k f fd ps sp)(m:cQ k X.A.in1.in1)(n:Binds X.K fd ps [])(c:aM X Za σ H s)(hl:s.heap.IsList l its.toArray)(h:Vals xs its)(h64:xs.length<64)(lk:xs.length=ks.length)(kn:∀k∈ks,k≠[])(o:∀(i:Nat) x k d (j:VK),xs[i]?=Ya x->ks[i]?=Ya k->aH H d->(∀e t,aH d e->bI X.K e t (k.map V.int)->j (.ref t) e)->sp [x] d j E0)(p:∀D b H' s',H D=Yb->tP ks xs b->aH H H'->H' D=Yb->aM X Za σ (upd H' D (.lst b)) s'->Q (.ref D) s'):
  Yq (Yt X.prog X.w) X.A (call (.builtin "sorted") [.ref l] [(aam "key",.ref f)]) Q E s:=by
 have y:=h.length;refine Bo hl (by omega) (ksk_s1 _ _) (λ_=>ksk_l1 _ _) λh1 q r=>?_;have a:H (s.heap.objs.size+ 1)=none:=c.hok.fresh (aaP _);rw[ksk_t1];exact JB F m n (c.kept (t':=s.toks) q) (c.fpOk (aaP _) a) r h h64 lk kn o λb H' s' u v g w=>⟨rfl,p _ b H' s' a u v g w⟩
end
def Mg(K:Yc)(sp:Sp)(x:V)(b:Hp)(Q:VK):Prop:=∃(l:Ye) (a:List V) (ks:List (List Int)),x=.ref l/\bc K b l a/\a.length<64/\a.length=ks.length/\(∀k∈ks,k≠[])/\
 (∀(i:Nat) (x:V) (k:List Int) (c:Hp) (g:VK),a[i]?=Ya x->ks[i]?=Ya k->aH b c->(∀d t,aH c d->bI K d t (k.map V.int)->g (.ref t) d)->sp [x] c g E0)/\
 ∀(D:Ye) (e:List V) (f:Hp),b D=Yb->e.Perm a->tP ks a e->aH b f->f D=Ya (.lst e)->Q (.ref D) f
def Mq(K:Yc)(sp:Sp)(a:TE):TE:=λσ H Q=>a σ H λx b=>Mg K sp x b Q
section
theorem FD{K:Yc}{p t v:abE}{a:Yo}(w:X.K=K)(ha:PA X [e] (zJ te BU))(y:Gl X "sorted")(hm:X.mg "sorted"=Yb)(G:aF X.prog X.w X.K X.mg X.base bp k f fd ps sp)(c:X.mg a=Ya (.ref f))(d:Binds X.K fd ps [])(g:Gl X a)(z:cQ (k+ 1) X.A)(i:(a==("__debug__":Yo))=false:=by decide)(h1:aal pos (YW [e] X.env)=(false,pk e X.env)::aal pos (YW [] X.env):=by rfl)(h2:(aal pos (YW [e] X.env)).any (·.1)=false:=by rfl):
  PE X (.Call (.Name "sorted" p) [e] [⟨Ya "key",.Name a t,v⟩] pos) (Mq K sp te):=by
 subst w;intro A s σ H Q I h;refine aa3 (qc I y hm aa7 ?_);refine ad7 ?_ h1 h2;refine cu (ha pos A s σ H (λb j=>match b with|[x]=>Mg X.K sp x j Q|_=>False) I h) λS T B=>?_;obtain⟨b,j,m,C,o⟩:=B;obtain⟨x,rfl⟩:∃x,b=[x]:=by
  match b,o with
  |[x],_=>exact⟨x,rfl⟩
 obtain⟨u,rfl,E⟩:=dW C;obtain⟨l,U,ks,ex,hl,h64,lk,kn,F,q⟩:=o;subst ex;cases E;refine adR (mJ m g c ?_ i);refine agG ?_;obtain⟨J,L,M,V⟩:=m.list hl;show Yq _ _ (call (.builtin "sorted") [YG l] [(aam "key",.ref f)]) _ _ _;refine Of (H:=j) G (cQ.two z) d m M.isList L h64 lk kn F λD N W s' O r P n R=>?_;exact⟨.ref D,_,R,rfl,q D N _ O r.perm r (P.trans (aC n)) ai⟩
end
theorem QF{K:Yc}{Q:VK}(h:te σ H λx a=>Mg K sp x a Q):Mq K sp te σ H Q:=h
section
theorem aM.thawT{o:uc}(I:aM X Za σ H s)(h:H a=Ya (.frz o (.dT kvs)))(n1:∀xs,X.H₀ a≠Ya (.tup xs))(n2:∀o u,X.H₀ a≠Ya (.frz o u))(n3:∀ps,X.H₀ a≠Ya (.tbl ps)):aM X Za σ (upd H a (.dT kvs)) s:=by
 have ne:∀b,H b=Yb->b≠a:=λb q z=>by rw[z,h]at q;cases q
 have b:=I.base;refine⟨I.ok,I.os,I.bare,⟨b.keep,b.slot,λc g e n x=>?_,b.there,λc xs e=>?_,λc g u e=>?_,λc ps e=>?_⟩,I.loc,I.cell,by rw[ak (ne _ I.free)];exact I.free,λx c z=>by rw[ak (ne _ (I.freeC x c z))];exact I.freeC x c z,
  λp hp=>let ⟨p1,p2,p3⟩:=I.pin p hp;⟨p1,by rw[ak (ne _ p2)];exact p2,p3⟩,λc u e=>?_,I.len⟩
 ·have q:=b.free c g e n x;rw[ak (ne _ q)];exact q
 ·have f:c≠a:=λz=>n1 _ (z▸e);rw[ak f];exact b.tups c xs e
 ·have f:c≠a:=λz=>n2 _ _ (z▸e);rw[ak f];exact b.frzs c g u e
 ·have f:c≠a:=λz=>n3 _ (z▸e);rw[ak f];exact b.tbls c ps e
 ·by_cases i:c=a
  ·subst i;rw[ai]at e;cases e;obtain⟨z,y,xs,j,k⟩:=(show cg X.prog X.w H s.heap c (.dT kvs)from(I.hok c _ h).2);exact⟨z,y,xs,KT.keeps j λd l q=>by rw[ak (λz=>by rw[z,h]at q;cases q)];exact q,k⟩
  ·rw[ak i]at e;refine(I.hok c u e).stay (λ_ _ _ q=>q) (λd q=>?_) λd xs q=>?_
   ·rw[ak (λz=>by rw[z,h]at q;cases q)];exact q
   ·rw[ak (λz=>by rw[z,h]at q;cases q)];exact q
def Nj(t:TS):TS:=λD σ H=>∃a b,H a=Ya (.dT b)/\t {D with nx:=λd c=>(∃o,c a=Ya (.frz o (.dT b)))/\D.nx d (upd c a (.dT b)),rt:=λv c=>(∃o,c a=Ya (.frz o (.dT b)))/\D.rt v (upd c a (.dT b))} σ H
theorem Dy{st:Y4}(h:PS X st t):PS X st (Nj t):=by
 intro g s σ H D I hw;obtain⟨a,i,ha,j⟩:=hw;have n1:∀b,X.H₀ a≠Ya (.tup b):=λb e=>by have:=I.base.tups a b e;rw[ha]at this;cases this
 have n2:∀o u,X.H₀ a≠Ya (.frz o u):=λo u e=>by have:=I.base.frzs a o u e;rw[ha]at this;cases this
 have n3:∀ps,X.H₀ a≠Ya (.tbl ps):=λps e=>by obtain⟨m,q⟩:=I.base.tbls a ps e;rw[ha]at q;cases q
 refine cu (h g s σ H _ I j) λf l q=>?_;cases f with
 |next=>
  obtain⟨c,k,d,⟨o,e⟩,n⟩:=q;exact⟨c,_,d.thawT e n1 n2 n3,n⟩
 |brk=>exact q
 |cont=>exact q
 |ret u=>
  obtain⟨v,c,k,d,r,⟨o,e⟩,n⟩:=q;exact⟨v,c,_,d.thawT e n1 n2 n3,r,n⟩
end
theorem II{D:oU}(hd:H d=Ya (.dT kvs))(h:t {D with nx:=λa H'=>(∃o,H' d=Ya (.frz o (.dT kvs)))/\D.nx a (upd H' d (.dT kvs)),rt:=λv H'=>(∃o,H' d=Ya (.frz o (.dT kvs)))/\D.rt v (upd H' d (.dT kvs))} σ H):Nj t D σ H:=⟨d,kvs,hd,h⟩
section
variable{cs fs:List Ye}
end
section
variable{K:Yc}{E:XK}
end
section
end
section
end
section
variable{K:Yc}
end
section
end
section
variable{K:Yc}
end
section
end
section
variable{me hd ba ye vo re ag:V}
end
section
variable{m:Yo}{Ze:abE}{o:cT}{es:List cT}{ta:TE}{t:TA}
end
section
variable{Q:VK}
end
section
end
section
variable{K:Yc}{E:XK}
end
section
variable{K:Yc}
end
section
variable{K:Yc}
end
def CO(P:YZ)(w:Y6):LF:=λouter H s E e s'=>∃(c C:Ye) (d:Yd) (B:YT) (a:Hp),e=.ref c/\s'.os=s.os/\acX s'.gens/\Un (mF outer) [] H a s.heap s'.heap/\mE P w a s'.heap/\
 ag9 B outer c (.ref C) d s'.heap/\(∀b o,s'.heap.get? b=Ya o->b∉mF outer->((∃f,s.heap.get? b=Ya f)∨∃u,a b=Ya u)->B.get? b=Ya o)/\a c=Yb/\E (.ref c) (Ya C) a
theorem cg.at{o:HO}(x:cg P w H h a o):∃ob,h.get? a=Ya ob:=by
 cases o with
 |lst xs=>obtain⟨_,_,_,_,e⟩:=x;exact⟨_,e⟩
 |tup xs=>obtain⟨_,_,_,ob,e,_⟩:=x;exact⟨_,e⟩
 |dK kvs=>obtain⟨_,_,_,_,o,_,_,e,_⟩:=x;exact⟨_,e⟩
 |dT kvs=>obtain⟨_,_,_,_,o,_,_,e,_⟩:=x;exact⟨_,e⟩
 |set S n=>obtain⟨o,_,_,_,e,_⟩:=x;exact⟨_,e⟩
 |ins C dx fs=>obtain⟨_,_,_,e,_⟩:=x;exact⟨_,e⟩
 |own _=>exact x
 |xd fs=>obtain⟨_,⟨o,_,_,e,_⟩,_⟩:=x;exact⟨_,e⟩
 |rng lo hi=>obtain⟨_,_,_,e⟩:=x;exact⟨_,e⟩
 |frz o u=>exact⟨_,x.1⟩
 |tbl ps=>exact⟨_,x⟩
 |met f x'=>exact⟨_,x⟩
 |ext φ=>exact x.2.1
theorem Ex{H:Hp}{J:Ym}(I:aM X Za σ H J)(y:X.ex=[])(U:X.prog=P)(hw:X.w=w)(un:Un (mF X.stack) [] H H' J.heap s'.heap)(hok:mE P w H' s'.heap)(K:∀b o,s'.heap.get? b=Ya o->b∉mF X.stack->((∃i,X.s₀.heap.get? b=Ya i)∨∃u,H' b=Ya u)->B.get? b=Ya o)(st:B.StaysIn h')(up:s'.heap.UpToSlots h')(l:X.stack=X.env::X.outer):
  Un (mF X.outer) [] X.H₀ H' X.s₀.heap h'/\mE P w H' h'/\∀b o,h'.get? b=Ya o->b∉mF X.outer->((∃i,X.s₀.heap.get? b=Ya i)∨∃u,H' b=Ya u)->B.get? b=Ya o:=by
 have base:=I.base;rw[y]at base;have m:∀b,b∈mF X.stack->H' b=none:=λb f=>by
  obtain⟨_,o,ho,_⟩:=I.stack.mem f;exact un.free b o ho (I.stkFree b f) (by simp)
 have p:∀b,b∈mF X.outer->b∈mF X.stack:=λb f=>by
  rw[l];unfold mF;rw[abg];cases X.env.frame with
  |none=>exact f
  |some _=>exact Yr _ f
 have lo:∀b o,X.s₀.heap.get? b=Ya o->b∉mF X.outer->b∉mF X.stack:=λb o e n z=>by
  rcases Yn.mp (I.stkSub b z)with q|q
  ·rw[q]at e;exact absurd (Yw e) (aeZ.mpr I.ok.above)
  ·exact n q
 have g:∀b o,s'.heap.get? b=Ya o->b∈mF X.stack->∃s,h'.get? b=Ya {o with slots:=s}:=λb o e f=>by
  obtain⟨_,j,A,O⟩:=I.stack.mem f;obtain⟨s,d⟩:=un.slot b j A (I.stkFree b f) f (by simp);rw[e]at d;cases d;exact up b _ e O
 have c:∀b o,s'.heap.get? b=Ya o->b∉mF X.stack->((∃i,X.s₀.heap.get? b=Ya i)∨∃u,H' b=Ya u)->h'.get? b=Ya o:=λb o e n r=>st b o (K b o e n r);refine⟨⟨λb o e n h _=>?_,λb o e n h _=>?_,λb o e n _=>?_,λb o e _=>?_,λb L e=>un.tups b L (base.tups b L e),λb o u e=>un.frzs b o u (base.frzs b o u e),λb ps e=>?_⟩,λa u e=>?_,λb o e h r=>?_⟩
 ·have d:=base.keep b o e n h (by simp);have ns:=lo b o e h;exact c b o (un.keep b o d (base.free b o e n (by simp)) ns (by simp)) ns (.inl ⟨o,e⟩)
 ·obtain⟨s,d⟩:=base.slot b o e n h (by simp);obtain⟨Q,k⟩:=un.slot b _ d (base.free b o e n (by simp)) (p b h) (by simp);obtain⟨C,D⟩:=g b _ k (p b h);exact⟨C,D⟩
 ·obtain⟨j,d⟩:=base.there b o e (by simp);exact un.free b j d (base.free b o e n (by simp)) (by simp)
 ·obtain⟨j,d⟩:=base.there b o e (by simp);obtain⟨E,k⟩:=un.there b j d (by simp);by_cases h:b∈mF X.stack
  ·obtain⟨s,D⟩:=g b E k h;exact⟨_,D⟩
  ·exact⟨E,c b E k h (.inl ⟨o,e⟩)⟩
 ·obtain⟨R,d⟩:=base.tbls b ps e;obtain⟨S,k⟩:=un.tbls b _ d;exact⟨R++S,by rw[k,ag0]⟩
 ·refine(hok a u e).stay (λb o f q=>?_) (λ_ q=>q) λ_ _ q=>q;have tr:∃v,H' b=Ya v:=by
   rcases f with z|z
   ·exact⟨u,z▸e⟩
   ·exact⟨_,z⟩
  refine c b o q (λz=>?_) (.inr tr);obtain⟨v,M⟩:=tr;rw[m b z]at M;cases M
 ·have F:∃t,s'.heap.get? b=Ya t:=by
   rcases r with⟨i,G⟩|⟨u,x⟩
   ·obtain⟨j,d⟩:=base.there b i G (by simp);exact un.there b j d (by simp)
   ·exact(hok b u x).at
  obtain⟨t,T⟩:=F;have ns:b∉mF X.stack:=λz=>by
   rcases r with⟨i,G⟩|⟨u,x⟩
   ·exact lo b i G h z
   ·rw[m b z]at x;cases x
  have N:=K b t T ns r;rw[st b t N]at e;cases e;exact N
section
variable{K:Yc}{E:XK}
theorem Xa:sy (CO P w) (oR (CO P w) P w K mg base N Zb scope f cd A outer s H E) E:=by
 intro v σ x y e s' I h;obtain⟨c,C,d,B,g,rfl,os,i,un,hok,j,k,hn,q⟩:=h;refine wpAny_leaves_onW I.ok.frames rfl j λD a up=>?_;obtain⟨l,m,p⟩:=Ex I rfl rfl rfl un hok (λb o e n r=>k b o e n (r.imp (fun⟨t,u⟩=>I.base.there b t u (by intro z;cases z)) id)) a.1 up rfl;exact⟨c,C,d,B,g,rfl,os.trans I.os,i,l,m,a,p,hn,q⟩
def Ab(K:Yc)(C N:Ye)(up:List Yd)(c:String):Prop:=∃d e bs a sn sub ab b dd f g h i j,K.lookup C=Ya (aer d e C N bs up a sn sub ab b dd f g h i j c)
theorem Ab.mk{K:Yc}{N:Ye}{up:List Yd}{c d bs a sn sub ab b dd e f g i j}(h:K.lookup C=Ya (aer c d C N bs up a sn sub ab b dd e f g i j Zd)):Ab K C N up Zd:=⟨_,_,_,_,_,_,_,_,_,_,_,_,_,_,h⟩
def NJ(K:Yc)(C D:Ye):Prop:=∃N up a,Ab K C N up a/\up.contains (.type "BaseException")=true/\(YG C::up).contains (.ref D)=true
end
def isX(a C:Ye):YT->Prop:=λh=>∃o,h.get? a=Ya o/\o.cls=.ref C
noncomputable abbrev xO(a C:Ye):HO:=.ext (isX a C)
section
variable{h2:YT}{ea:Ye}{a0:Yd}
theorem EB(I:aM X Za σ H s)(os:s'.os=s.os)(L:acX s'.gens)(un:Un (mF X.stack) [] H H' s.heap s'.heap)(hok:mE X.prog X.w H' s'.heap)(D:ag9 B X.stack ea (.ref C) a0 s'.heap)
  (E:∀b o,s'.heap.get? b=Ya o->b∉mF X.stack->((∃p,s.heap.get? b=Ya p)∨∃u,H' b=Ya u)->B.get? b=Ya o) (hn:H' ea=Yb) (j:ag9 B X.stack ea (.ref C) a0 h2) (up:s'.heap.UpToSlots h2):
  aM X Za σ (upd H' ea (xO ea C)) {s' with heap:=h2}:=by
 have st:=j.1;have t:∀b,b∈mF X.stack->H' b=none:=λb h=>by
  obtain⟨_,o,ho,_⟩:=I.stack.mem h;exact un.free b o ho (I.stkFree b h) (by simp)
 have d:∀b o,s'.heap.get? b=Ya o->b∈mF X.stack->(∀F,o.data≠.fields F)/\∃m,h2.get? b=Ya {o with slots:=m}:=λb o e h=>by
  obtain⟨_,i,x,G⟩:=I.stack.mem h;obtain⟨m,c⟩:=un.slot b i x (I.stkFree b h) h (by simp);rw[e]at c;cases c;exact⟨G,up b _ e G⟩
 have f:∀b o,s'.heap.get? b=Ya o->b∉mF X.stack->((∃p,s.heap.get? b=Ya p)∨∃u,H' b=Ya u)->h2.get? b=Ya o:=λb o e n r=>st b o (E b o e n r);have ne:∀b o,s.heap.get? b=Ya o->b≠ea:=λb o e z=>by
  subst z;obtain⟨i,c⟩:=un.there b o e (by simp);obtain⟨R,F,l,_,M,_⟩:=D.first;rw[c]at l;cases l;by_cases g:b∈mF X.stack
  ·exact(d b _ c g).1 _ M
  ·have:=E b _ c g (.inl ⟨o,e⟩);rw[D.2.1]at this;cases this
 have neT:∀{b u},H' b=Ya u->b≠ea:=λe z=>by rw[z,hn]at e;cases e
 refine I.call' (s':={s' with heap:=h2}) (ch:=[]) os ⟨λb o e n g _=>?_,λb o e n g _=>?_,λb o e n _=>?_,λb o e _=>?_,λb J e=>?_,λb o u e=>?_,λb ps e=>?_⟩ (λa u e=>?_) L (λb z=>absurd z (by simp))
 ·exact f b o (un.keep b o e n g (by simp)) g (.inl ⟨o,e⟩)
 ·obtain⟨m,c⟩:=un.slot b o e n g (by simp);obtain⟨_,y,A⟩:=d b _ c g;exact⟨y,A⟩
 ·rw[ak (ne b o e)];exact un.free b o e n (by simp)
 ·obtain⟨i,c⟩:=un.there b o e (by simp);by_cases g:b∈mF X.stack
  ·obtain⟨_,m,A⟩:=d b i c g;exact⟨_,A⟩
  ·exact⟨i,f b i c g (.inl ⟨o,e⟩)⟩
 ·have c:=un.tups b J e;rw[ak (neT c)];exact c
 ·have c:=un.frzs b o u e;rw[ak (neT c)];exact c
 ·obtain⟨N,c⟩:=un.tbls b ps e;exact⟨N,by rw[ak (neT c)];exact c⟩
 ·by_cases z:a=ea
  ·subst z;rw[ai]at e;cases e;obtain⟨ob,l,O⟩:=j.there;exact⟨⟨ob,l,O⟩,⟨ob,l⟩,λh3 h4 ⟨o,P,Q⟩ k=>⟨o,k o P,Q⟩⟩
  ·rw[ak z]at e;refine(hok a u e).stay (λb o h q=>?_) (λb q=>by rw[ak (neT q)];exact q) λb J q=>by rw[ak (neT q)];exact q
   have tr:∃v,H' b=Ya v:=by
    rcases h with w|w
    ·exact⟨u,w▸e⟩
    ·exact⟨_,w⟩
   refine f b o q (λz=>?_) (.inr tr);obtain⟨v,K⟩:=tr;rw[t b z]at K;cases K
end
noncomputable abbrev Cx.hnd(X:Cx)(e:Yd):Cx:={X with A:=X.A.mark (Ya e),calm:=false,xe:=λ_ _=>False}
theorem aM.hnd(I:aM X Za σ H s)(e:Yd):aM (X.hnd e) Za σ H s:=
 ⟨⟨I.ok.mod,I.ok.kind,I.ok.glob,I.ok.blt,I.ok.above,I.ok.inj,I.ok.has,I.ok.cab,(λz=>nomatch z),I.ok.frames,I.ok.stk,I.ok.exf,I.ok.bs,I.ok.bsz,I.ok.noex,I.ok.exfs,I.ok.funs,I.ok.frf⟩,I.os,I.bare,I.base,I.loc,I.cell,I.free,I.freeC,I.pin,I.hok,I.len⟩
theorem aM.unhnd{e:Yd}(ok:X.Ok)(I:aM (X.hnd e) Za σ H s):aM X Za σ H s:=
 ⟨ok,I.os,I.bare,I.base,I.loc,I.cell,I.free,I.freeC,I.pin,I.hok,I.len⟩
section
end
section
variable{M:ai8}
theorem Jz{g:Array aja}{d:ah8}{t:Nat}{os:OsState}{N y:Ye}{z q m B:Yo}{bs v n c:List Yd}{i f:Bool}{sn o:List Yo}{sub j:List Yd}{ab p:Bool}{r k:Option Bool}{dd s:Option Ye}{F G H I J K L O P R:Option Yd}{a:String}{e:Ye}{w:uc}{b:Bool}(S:h.get? C=Ya (aer z q C N bs v i sn sub ab r dd F G H I J Zd))(x:h.get? D=Ya (aer m B D y n c f o j p k s K L O P R a))(T:h.get? e=Ya w)(l:w.cls=.ref C)(u:c.contains (.type "BaseException")=true)(U:(YG C::v).contains (.ref D)=b)(V:Q b ⟨h,g,d,t,os⟩):Yq M A (excMatches (.ref e) (.ref D)) Q E ⟨h,g,d,t,os⟩:=by
 have W:(YG D::c).contains (.type "BaseException")=true:=by rw[aha,u,ajl]
 have X:=tc_notTuple;unfold excMatches
 repeat(first
  |(with_reducible refine aed x ?_;rw[W])
  |(with_reducible refine aed S ?_;rw[U])
  |(with_reducible refine acE T ?_;rw[l])
  |with_reducible refine acE x ?_
  |wp_step)
 cases b<;>(wp_walk;exact V)
end
noncomputable abbrev Cx.tr(X:Cx)(a:List (Ye×uc))(b:St->XK):Cx:={X with pn:=X.pn++a,xe:=λe s'=>∃σ H s,aM X a σ H s/\CO X.prog X.w X.stack H s (b σ) e s'}
section
variable{Zp:List (Ye×uc)}{EE:St->XK}
theorem aM.tr(I:aM X Za σ H s)(a:St->XK):aM (X.tr Za a) [] σ H s:=
 ⟨⟨I.ok.mod,I.ok.kind,I.ok.glob,I.ok.blt,I.ok.above,I.ok.inj,I.ok.has,I.ok.cab,I.ok.hd,I.ok.frames,I.ok.stk,I.ok.exf,I.ok.bs,I.ok.bsz,I.ok.noex,I.ok.exfs,I.ok.funs,I.ok.frf⟩,I.os,I.bare,I.base,I.loc,I.cell,I.free,I.freeC,by rw[sq];exact I.pin,I.hok,I.len⟩
theorem aM.untr(I:aM (X.tr Za EE) Zp σ H s):aM X Za σ H s:=
 ⟨⟨I.ok.mod,I.ok.kind,I.ok.glob,I.ok.blt,I.ok.above,I.ok.inj,I.ok.has,I.ok.cab,I.ok.hd,I.ok.frames,I.ok.stk,I.ok.exf,I.ok.bs,I.ok.bsz,I.ok.noex,I.ok.exfs,I.ok.funs,I.ok.frf⟩,I.os,I.bare,I.base,I.loc,I.cell,I.free,I.freeC,λp hp=>I.pin p (YU _ hp),I.hok,I.len⟩
theorem SP.untr{D:oU}{f:Flow}(h:SP (X.tr Za EE) Zp D f s'):SP X Za D f s':=by
 cases f with
 |next=>obtain⟨a,b,I,q⟩:=h;exact⟨a,b,I.untr,q⟩
 |brk=>obtain⟨a,b,I,q⟩:=h;exact⟨a,b,I.untr,q⟩
 |cont=>obtain⟨a,b,I,q⟩:=h;exact⟨a,b,I.untr,q⟩
 |ret u=>obtain⟨v,a,b,I,r,q⟩:=h;exact⟨v,a,b,I.untr,r,q⟩
end
end L2
namespace L2
open PySem PySem.Spec PyProof.Rows PySem.W
section
variable{prog:YZ}{w:Y6}{A:xw}{E:Yd->Ym->Prop}{K:Yc}{x C:Ye}
def Wv(h:YT)(x C:Ye):Prop:=∃o,h.get? x=Ya o/\o.cls=.ref C
theorem Wv.type{M:ai8}{h:YT}(I:Wv h x C):Looks M h (aii (.ref x)) (.ref C):=by
 obtain⟨o,e,c⟩:=I;exact c▸(Looks.ld e).andThen .now
end
end L2
namespace L2
open PySem PySem.Spec PyProof.Rows
variable{x:Yo}{f:Ye}{fd:YD}{ps:List Yo}{k:Nat}{sp:Sp}{X:Cx}
section
variable{P:YZ}{w:Y6}{K:Yc}{mg:Yo->Option Yd}{base:YT}
theorem bG.okX{c:Yo}{st:Y4}{N:List Yo}(F:bG K x c st f fd)(S:aE N ps (ao st))(len:∀vs H Q E,sp vs H Q E->vs.length=ps.length)(b:∀(a:Yd) (A:xw) (outer:List acw) (s:Ym) (H:Hp) (vs:List V) (Q:VK) (E:XK),cQ k (A.deeper (acn c (ao st) s.heap.objs.size f a))->sp vs H Q E->
   ∃t,CM (oR (CO P w) P w K mg base N c (ao st) f a A outer s H E) (dO st) t/\t {nx:=λ_ g=>Q .non g,rt:=Q} (start N vs) H):aF P w K mg base (CO P w) (k+ 1) f fd ps sp:=by
 obtain⟨l,od,kV,h,m,n,a,ct,i,rfl,lk,d⟩:=F.ex;exact OB lk d S len λA outer s H vs Q E j e=>b a A outer s H vs Q E j e
end
section
variable{e:cT}{es:List cT}{t:TA}{p pos:abE}
end
section
variable{D:oU}{σ:St}{H:Hp}{Q:VK}
end
section
variable{tg:cT}
end
end L2
namespace L2
open PySem PySem.Spec PyProof.Rows PySem.W
variable{prog P:YZ}{w:Y6}{A:xw}{E:Yd->Ym->Prop}{x C d dx e f a:Ye}{name:Yo}{v:Yd}{s:Ym}{mA:Yo->Option Yd}{ns:List Yo}{tk:ac2}{up Zy:List Yd}{R:ack->Ym->Prop}{Q:Unit->Ym->Prop}{H:Hp}{h:YT}{fs:List (Yo×V)}{X:Cx}{Za:List (Ye×uc)}{σ:St}{pos:abE}{B Zd Zn:String}
section
variable{K:Yc}
theorem HN{Q:aea->Ym->Prop}(N:s.heap.Ns1 d mA)(hw:aes mA ns)(hz:ns.length<=YB)(h:∀h',h'.Ns1 d (λy=>if y=name then Ya v else mA y)->aab d s.heap h'->Q (.done (.ret .none)) {s with heap:=h',toks:=s.toks+ 1}):
  Yq (Yt prog w) A (Builtin.ObjectAttr.storeInDict d (.str name tk) name v) Q E s:=by
 refine Yf (Yp (Yf (ajb N λh' a c=>?_)));obtain⟨o,e,f,ho,hd,b⟩:=a.count (Within.cons name v hw);rw[Y5]at b;exact Yf (ahH ho (by rw[hd];exact ahI (xy b (abm hz))) (Yp (h _ a c)))
def Xx(up:List Yd):Prop:=∃cs:List Ye,up=cs.map YG++[.type "ValueError",.type "Exception",.type "BaseException",.type "object"]
theorem Xx.pass(u:Xx up)(self:Yd):refuseLoop self "__setattr__" up=pure ():=by
 obtain⟨cs,rfl⟩:=u
 induction cs with
 |nil=>exact PySem.F.store_ValueError.passes self
 |cons c cs ih=>exact(aiP _ _ _ _).trans ih
structure OL(K:Yc)(C:Ye):Prop where
 sa:jJ K (.ref C) "__setattr__"=Ya (Ya (.builtin "object.__setattr__"))
 hm:agM K C (.type "object")=Ya true
 cl:∃cd up,ai5 K C=Ya cd/\cd.hasDict=true/\cd.mro=.ref C::up/\Xx up
theorem Iz{b:ClassData}(F:OL K C)(X:K.In s.heap)(I:Wv s.heap x C)(c:ai5 K C=Ya b)(hm:b.mro=.ref C::up)(u:Xx up)(hn:jJ K (.ref C) name=Ya Yb)(h:Yq (Yt prog w) A.in1 (Builtin.ObjectAttr.storeInOwnDict (.ref x) (.ref C) (.str name tk) name v false)
   (λfin s'=>match fin with| .done f=>R (.ok f) s'| .again c'=>c'.quiet=true/\Rk (Yt prog w) A c' R s') (λe s'=>R (.error e) s') s):
  Rk (Yt prog w) A (.call (.builtin "object.__setattr__") ⟨[.ref x,.str name tk,v],[]⟩) R s:=by
 have a:=PySem.F.store_object;have T:=I.type (M:=Yt prog w);refine aaS a.slot.plain a.entry (@check_slot (Yt prog w) _ _ s "object.__setattr__" "object" "__setattr__" (.ref x) [.str name tk,v] [] _ a.kind a.split (T.andThen (looks_mroIn X F.hm)) (a.args (.ref x) (.str name tk) v) ?_);have M1:Looks (Yt prog w) s.heap (mroOf (.ref C)) (.ref C::up):=hm▸(looks_clsIn X c).andThen .now;rw[osa_eq,refuse_eq];refine Yf (Yf (T.here (Yf (M1.here ?_))));rw[aiP,u.pass];exact Yp (Yf (T.here (Yf ((looks_findIn X hn).here (Yf (Yp h))))))
end
section
variable{K:Yc}{vs:Array Yd}{sl:Array (Option Yd)}
theorem Pe(F:OL K C)(X:K.In s.heap)(a:s.heap.get? x=Ya ⟨.ref C,Yb,.fields vs,sl⟩)(hn:jJ K (.ref C) name=Ya Yb)(h:∀h',h'.get? x=Ya ⟨.ref C,Ya s.heap.objs.size,.fields vs,sl⟩->h'.Ns1 s.heap.objs.size (λy=>if y=name then Ya v else Yb)->(∀b o,b≠x->s.heap.get? b=Ya o->h'.get? b=Ya o)->Q () {s with heap:=h',toks:=s.toks+ 2}):
  Yq (Yt prog w) A (af0 (.ref x) name v) Q E s:=by
 obtain⟨q,up,f,hd,hm,u⟩:=F.cl;obtain⟨hp,g,d,t,os⟩:=s;have J:InstAt hp x ⟨.ref C,Yb,.fields vs,sl⟩ C none:=⟨a,rfl,rfl,abj⟩;have j:Wv hp x C:=⟨_,a,rfl⟩;refine aeN X J F.sa (Iz (s:=⟨hp,g,d,t+ 1,os⟩) F X j f hm u hn ?_);refine Yf (Yp (Yf (Yf (af1 a (Yf (aeu (s:=⟨hp,g,d,t+ 1,os⟩) (ad9 X f) ?_))))));rw[hd];have lt:x<hp.objs.size:=Yw a;have ne:x≠hp.objs.size:=YL lt;have c:(hp.push emptyDict).get? x=Ya ⟨.ref C,Yb,.fields vs,sl⟩:=Yh _ a;refine Yf (wpAny_alloc (Yf (wpAny_update c (Yp ?_))));have k:=aaz (λo:uc=>{o with dict:=Ya hp.objs.size}) c rfl;have l:=(agX (hp.push emptyDict) hp.objs.size x (λo:uc=>{o with dict:=Ya hp.objs.size}) (Ne.symm ne)).trans (Yv hp rfl);refine HN (s:=⟨(hp.push emptyDict).update x λo=>{o with dict:=Ya hp.objs.size},g,d,t+ 1,os⟩) (mA:=λ_=>Yb) (ns:=[]) (Heap.Ns1.of_empty ⟨emptyDict,#[],_,l,rfl,(λe m=>absurd m (by simp)),λ_=>rfl⟩) (λy z=>absurd rfl z) (Y9 _) λh' n i=>?_;refine h h' ((i.2 x ne).trans k) n λb o p e=>?_;exact(i.2 b (YL (Yw e))).trans ((agX _ _ _ _ p).trans (Yh _ e))
theorem Ri(F:OL K C)(X:K.In s.heap)(b:s.heap.get? x=Ya ⟨.ref C,Ya dx,.fields vs,sl⟩)(N:s.heap.Ns1 dx mA)(hw:aes mA ns)(hz:ns.length<=YB)(hn:jJ K (.ref C) name=Ya Yb)(h:∀h',h'.Ns1 dx (λy=>if y=name then Ya v else mA y)->aab dx s.heap h'->Q () {s with heap:=h',toks:=s.toks+ 2}):
  Yq (Yt prog w) A (af0 (.ref x) name v) Q E s:=by
 obtain⟨j,up,c,hd,hm,u⟩:=F.cl;obtain⟨hp,g,d,t,os⟩:=s;obtain⟨od,k,l,ho,r⟩:=id N;have J:InstAt hp x ⟨.ref C,Ya dx,.fields vs,sl⟩ C (Ya od):=⟨b,rfl,rfl,ho⟩;have e:Wv hp x C:=⟨_,b,rfl⟩;refine aeN X J F.sa (Iz (s:=⟨hp,g,d,t+ 1,os⟩) F X e c hm u hn ?_);refine Yf (Yp (Yf (Yf (af1 b (Yf (aeu (s:=⟨hp,g,d,t+ 1,os⟩) (ad9 X c) ?_))))));rw[hd];refine Yp (a:=Ya dx) ?_;exact HN (s:=⟨hp,g,d,t+ 1,os⟩) N hw hz λh' f i=>h h' f i
end
def Ve(e C:Ye)(od:Option Ye):YT->Prop:=λh=>∃a b c,h.get? e=Ya ⟨.ref C,od,.fields a,b⟩/\a[0]?=Ya c/\a[1]?=Ya .none
noncomputable abbrev xM(e C:Ye)(od:Option Ye):HO:=.ext (Ve e C od)
def Xb(d:Ye)(fs:List (Yo×V)):YT->Prop:=λh=>∃a,h.Ns1 d a/\(∀f,kP (fs.lookup f) (a f))/\aes a (fs.map (·.1))
noncomputable abbrev xN(d:Ye)(fs:List (Yo×V)):HO:=.ext (Xb d fs)
theorem Ve.ok{od:Option Ye}(x:Ve e C od h):cg P w H h e (xM e C od):=by
 obtain⟨a,b,c,g,r⟩:=id x;exact⟨x,⟨_,g⟩,λh1 h2 ⟨a,b,c,g,r⟩ k=>⟨a,b,c,k _ g,r⟩⟩
theorem Xb.ok(x:Xb d fs h):cg P w H h d (xN d fs):=by
 obtain⟨mA,n,_⟩:=id x;obtain⟨o,_,_,g,_⟩:=id n;exact⟨x,⟨o,g⟩,λh1 h2 ⟨mA,n,r⟩ k=>⟨mA,n.at k,r⟩⟩
section
variable{f:Yo}{y:V}{u:Yd}
theorem aM.both{h':YT}{t':Nat}{φ a d:YT->Prop}(I:aM X Za σ H s)(f:H e=Ya (.ext φ))(k:∀b o,b≠e->s.heap.get? b=Ya o->h'.get? b=Ya o)(hp:s.heap.objs.size<=dx)(ne:dx≠e)
  (n1:cg X.prog X.w (upd (upd H dx (.ext a)) e (.ext d)) h' e (.ext d)) (n2:cg X.prog X.w (upd (upd H dx (.ext a)) e (.ext d)) h' dx (.ext a)):aM X Za σ (upd (upd H dx (.ext a)) e (.ext d)) {s with heap:=h',toks:=t'}:=by
 have j:H dx=none:=I.hok.fresh hp;have go:∀{b o},H b=Ya o->(∀φ,o≠.ext φ)->upd (upd H dx (.ext a)) e (.ext d) b=Ya o:=fun{b o} q n=>by
  rw[ak (λz=>by rw[z,f]at q;cases q;exact n _ rfl),ak (λz=>by rw[z,j]at q;cases q)];exact q
 have nn:∀{b},H b=Yb->b≠e:=fun{b} q z=>by rw[z,f]at q;cases q
 obtain⟨l,m⟩:∃o,h'.get? e=Ya o:=n1.2.1;refine I.un ⟨λb o q n _ _=>k b o (nn n) q,λb o q n _ _=>⟨o.slots,k b o (nn n) q⟩,λb o q n _=>?_,λb o q _=>?_,λb p q=>go q (by intro _ z;cases z),λb o u q=>go q (by intro _ z;cases z),λb ps q=>⟨#[],by rw[ahb];exact go q (by intro _ z;cases z)⟩⟩ λb u q=>?_
 ·rw[ak (nn n),ak (YL (Y2 (Yw q) hp))];exact n
 ·by_cases z:b=e
  ·exact⟨l,z▸m⟩
  ·exact⟨o,k b o z q⟩
 ·by_cases z:b=e
  ·subst z;rw[ai]at q;cases q;exact n1
  ·rw[ak z]at q;by_cases h:b=dx
   ·subst h;rw[ai]at q;cases q;exact n2
   ·rw[ak h]at q;refine(I.hok b u q).stay (λc o t g=>k c o (λi=>?_) g) (λc r=>go r (by intro _ z;cases z)) λc p r=>go r (by intro _ z;cases z);rcases t with w|w
    ·exact z (w▸i)
    ·rw[i,f]at w;cases w
theorem Wt(I:aM X Za σ H s)(a:H e=Ya (xM e C Yb))(F:OL X.K C)(hn:jJ X.K (.ref C) f=Ya Yb)(b:RelV y u)(h:∀s' dx,H dx=Yb->dx≠e->aM X Za σ (upd (upd H dx (xN dx [(f,y)])) e (xM e C (Ya dx))) s'->Q () s'):Yq (Yt X.prog X.w) A (af0 (.ref e) f u) Q E s:=by
 obtain⟨c,d,i,g,j,l⟩:=(I.hok e _ a).1;have ne:s.heap.objs.size≠e:=abu (Yw g);refine Pe F I.kIn g hn λp m n k=>h _ s.heap.objs.size (I.hok.fresh (Yl _)) ne ?_;refine I.both a k (Yl _) ne (Ve.ok ⟨c,d,i,m,j,l⟩) (Xb.ok ⟨_,n,λg=>?_,λg o=>?_⟩)
 ·by_cases z:g=f
  ·rw[if_pos z,z];simp only[abZ,beq_self_eq_true];exact b
  ·rw[if_neg z];simp only[abZ,beq_eq_false_iff_ne.mpr z];trivial
 ·by_cases z:g=f
  ·rw[z];exact Ys
  ·exact absurd (if_neg z) o
theorem WB(I:aM X Za σ H s)(j:H e=Ya (xM e C (Ya dx)))(hd:H dx=Ya (xN dx fs))(F:OL X.K C)(hn:jJ X.K (.ref C) f=Ya Yb)(hl:fs.length<1000)(k:RelV y u)(h:∀s',aM X Za σ (upd H dx (xN dx (dz f y fs))) s'->Q () s'):Yq (Yt X.prog X.w) A (af0 (.ref e) f u) Q E s:=by
 obtain⟨t,v,w,g,B,D⟩:=(I.hok e _ j).1;obtain⟨c,N,r,d⟩:=(I.hok dx _ hd).1;refine Ri F I.kIn g N d (by rw[Yg,aaM];omega) hn λl i m=>h _ ?_;have a:∃o,l.get? dx=Ya o:=let ⟨o,_,_,e',_⟩:=i;⟨o,e'⟩;refine I.write (x:=dx) (e:=dx) (by rw[hd];exact abj) (.inl rfl) (λb q n z=>(m.2 b n).trans z) a (Xb.ok ⟨_,i,λg=>?_,λg p=>?_⟩)
 ·show kP ((dz f y fs).lookup g) (if g=f then Ya u else c g);rw[p8];by_cases q:g=f
  ·rw[if_pos q,if_pos q];exact k
  ·rw[if_neg q,if_neg q];exact r g
 ·by_cases q:g=f
  ·rw[q];exact(lO f y fs).1
  ·refine(lO f y fs).2 g (d g λz=>p ?_);show(if g=f then Ya u else c g)=Yb;rw[if_neg q];exact z
def R4(K:Yc)(ta tv:TE)(f:Yo):TS:=λD σ H=>tv σ H λy c=>ta σ c λx b=>∃e C,x=.ref e/\OL K C/\jJ K (.ref C) f=Ya Yb/\
 ((b e=Ya (xM e C Yb)/\∀a,b a=Yb->a≠e->D.nx σ (upd (upd b a (xN a [(f,y)])) e (xM e C (Ya a))))∨
 ∃a fs,b e=Ya (xM e C (Ya a))/\b a=Ya (xN a fs)/\fs.length<1000/\D.nx σ (upd b a (xN a (dz f y fs))))
theorem HY{K:Yc}{o b:cT}{ta tv:TE}{i:abE}(p:X.K=K)(ha:PE X o ta)(r:PE X b tv)(hs:adM b (Ya (.Attribute o f i)) pos.line X.env=pure false):PS X (.Assign [.Attribute o f i] b pos) (R4 K ta tv f):=by
 subst p;intro j s σ H D I h;refine adT (cu (r j s σ H _ I h) λu t c=>?_) hs;obtain⟨y,v,w,k,q⟩:=c;refine cu (ha j t σ v _ w q) λz G c=>?_;obtain⟨x,J,m,A,e,C,ex,F,n,a⟩:=c;subst ex;obtain rfl:z=YG e:=A;rcases a with⟨g,a⟩|⟨dx,fs,g,B,l,a⟩
 ·exact Wt m g F n k λE dx n1 n2 d=>⟨σ,_,d,a dx n1 n2⟩
 ·exact WB m g B F n l k λE d=>⟨σ,_,d,a⟩
end
section
variable{K:Yc}{fI:Ye}{g:Array aja}{d:ah8}{t:Nat}{os:OsState}
structure Xd(K:Yc)(C fI:Ye)(Zy:List Yd)(Zd:String):Prop where
 cl:∃N up,Ab K C N up Zd/\PySem.W.tailIn K Zy up=true
 init:jJ K (.ref C) "__init__"=Ya (Ya (.ref fI))
 fn:aiD K (.ref fI)=Ya (.type "function")
 self:agM K C (.ref C)=Ya true
 kp:abK K (.ref C)=true
theorem PM{a:List Yd}(F:ahc B Zd Zn Zy)(Z:Xd K C fI Zy Zd)(X:K.In h)(hl:a.length<=YB)(m:∀h' e,h.objs.size<=e->(∀b o,h.get? b=Ya o->h'.get? b=Ya o)->Ve e C Yb h'->
   Rk (Yt prog w) (A.under (.builtin "type.__call__" ⟨.ref C::a,[]⟩)) (.call (.ref fI) ⟨.ref e::a,[]⟩) (ahJ e R) ⟨h',g,d,t,os⟩):
  Rk (Yt prog w) A (.call (.ref C) ⟨a,[]⟩) R ⟨h,g,d,t,os⟩:=by
 obtain⟨N,up,⟨p,s,bs,k,sn,sub,ab,n,dd,u,x,y,D,E,lk⟩,tl⟩:=Z.cl;have c:=X C _ lk;have T:=tail_of_in X tl;have ty:(⟨h,g,d,t,os⟩:Ym).TypeIs (.ref C) "type":=⟨_,c,rfl⟩;have c1:=tc_lookup;have G:=tc_bind (.ref C);refine aip (show Yq _ _ (callAny (.ref C) _) _ _ _ from ?_)
 repeat(any_goals(first|assumption|wp_step|(with_reducible refine acE c ?_)))
 refine⟨rfl,codeAny_call_builtin_at (aex _ (by decide +kernel)) entry_typeCall (wpAny_check_type_call_sub c ?_)⟩
 repeat(first|wp_step|(with_reducible refine acE c ?_)|(with_reducible refine wpAny_madeBy_exc c ?_))
 refine codeAny_call_builtin_code (aex _ F.quiet) (wpAny_check_new_subT F T c (codeAny_exc_new_subT F T c ?_ hl));have kp:∀b o,h.get? b=Ya o->((h.push {cls:=.type "tuple",data:=.seq a.toArray}).push {cls:=.ref C,data:=.fields #[.ref h.objs.size,.none,.none,.none,.bool false,.none]}).get? b=Ya o:=λb o q=>Yh _ (Yh _ q);have j:((h.push {cls:=.type "tuple",data:=.seq a.toArray}).push {cls:=.ref C,data:=.fields #[.ref h.objs.size,.none,.none,.none,.bool false,.none]}).get? (h.objs.size+ 1)=Ya {cls:=.ref C,data:=.fields #[.ref h.objs.size,.none,.none,.none,.bool false,.none]}:=by heap_get
 have l:=m _ _ (aaP _) kp ⟨_,_,_,j,rfl,rfl⟩;have i:K.In ((h.push {cls:=.type "tuple",data:=.seq a.toArray}).push {cls:=.ref C,data:=.fields #[.ref h.objs.size,.none,.none,.none,.bool false,.none]}):=λb o q=>kp b o (X b o q);show Yq _ _ _ _ _ ⟨(h.push {cls:=.type "tuple",data:=.seq a.toArray}).push {cls:=.ref C,data:=.fields #[.ref h.objs.size,.none,.none,.none,.bool false,.none]},g,d,t,os⟩;generalize (h.push {cls:=.type "tuple",data:=.seq a.toArray}).push {cls:=.ref C,data:=.fields #[.ref h.objs.size,.none,.none,.none,.bool false,.none]}=h2 at kp j l i⊢;have H:Looks (Yt prog w) h2 (aii (.ref (h.objs.size+ 1))) (.ref C):=(Looks.ld j).andThen .now;have I:=looks_mroIn (M:=Yt prog w) i Z.self;have J:=looks_findIn (M:=Yt prog w) i Z.init;have L:=bind_fn (M:=Yt prog w) i (.ref (h.objs.size+ 1)) Z.fn;unfold isInstance callSpecial? specialOf
 repeat(first|with_reducible refine adX ?_|lk)
 refine codeAny_mono l λr s' z=>?_;cases r with
 |error e=>exact z
 |ok f=>
  cases f with
  |ret v=>
   obtain⟨rfl,z⟩:=z;exact Yp (Yp z)
  |next=>exact z.elim
  |brk=>exact z.elim
  |cont=>exact z.elim
end
def L8(C:Ye)(sp:Sp)(t:TA):TE:=λσ H Q=>t σ H λb c=>b.length<=YB/\∀a,c a=Yb->sp (.ref a::b) (upd c a (xM a C Yb)) (λv d=>v=.non/\Q (.ref a) d) E0
section
variable{k:Nat}{fd:YD}{ps:List Yo}{sp:Sp}
theorem JI{Q:VK}{us:List Yd}{vs:List V}(l:ahc B Zd Zn Zy)(Z:Xd X.K C f Zy Zd)(F:aF X.prog X.w X.K X.mg X.base bp k f fd ps sp)(m:cQ (k+ 1) X.A)(n:Binds X.K fd ps [])(I:aM X Za σ H s)(r:Vals vs us)(hl:vs.length<=YB)(h:∀b,H b=Yb->sp (.ref b::vs) (upd H b (xM b C Yb)) (λv o=>v=.non/\Q (.ref b) o) E0):
  Yq (Yt X.prog X.w) X.A (call (.ref C) us) (EP X Za σ Q) X.xe s:=by
 obtain⟨E,g,d,t,os⟩:=s;refine adX (PM l Z I.kIn (by rw[←r.length];exact hl) λp e hp kp q=>?_);have i:=h e (I.hok.fresh hp);have c:=aM.laid (t':=t) I kp hp (Ve.ok (H:=upd H e (xM e C Yb)) q);have j:Vals (V.ref e::vs) (YG e::us):=.cons rfl r;have w:(YG e::us++[]).length=ps.length:=by rw[sq,←j.length];exact F.len _ _ _ _ i
 have bd:=n ⟨p,g,d,t,os⟩ (YG e::us) c.kIn w;rw[sq]at bd;refine codeAny_mono (F.run _ X.stack _ _ ⟨YG e::us,[]⟩ (YG e::us) _ _ E0 (m.make C us []) (c.env0.make C us []) bd j i) λr s' a=>?_;cases r with
 |error e=>exact a.elim
 |ok fl=>
  cases fl with
  |ret u=>
   obtain⟨v,x,y,z,A,D⟩:=c.after a;subst A;exact⟨z,⟨V.ref e,x,y,rfl,D⟩⟩
  |next=>exact aaw a
  |brk=>exact aaw a
  |cont=>exact aaw a
theorem Lh{x:Yo}{p:abE}{e:cT}{es:List cT}{t:TA}(d:ahc B Zd Zn Zy)(Z:Xd X.K C f Zy Zd)(F:aF X.prog X.w X.K X.mg X.base bp k f fd ps sp)(g:cQ (k+ 1) X.A)(i:Gl X x)(hm:X.mg x=Ya (.ref C))(j:Binds X.K fd ps [])(ha:PA X (e::es) t)(a:(x==("__debug__":Yo))=false:=by decide)(l:YW (e::es) X.env=(false,pk e X.env)::YW es X.env:=by rfl)(b:(aal pos (YW es X.env)).any (·.1)=false:=by rfl):
  PE X (.Call (.Name x p) (e::es) [] pos) (L8 C sp t):=by
 intro m s σ H Q I h;refine aa3 (mJ I i hm ?_ a);exact abP (h₀:=X.base) I.ok.mod.kin Z.kp (cu (ha pos m s σ H _ I h) λn o ⟨u,v,c,r,hl,q⟩=>⟨c.kIn,JI d Z F g j c r hl q⟩) l b
end
noncomputable def OJ(H:Hp)(a:Ye):Hp:=λb=>if b=a then Yb else H b
theorem Cr{b:Ye}(h:b≠a):OJ H a b=H b:=if_neg h
theorem y9:OJ H a a=none:=if_pos rfl
def Hj(K:Yc)(c:Hp)(E:XK)(t:TE):TS:=λ_ σ H=>t σ H λv b=>∃a C od,v=.ref a/\b a=Ya (xM a C od)/\(∃N up d,Ab K C N up d/\up.contains (.type "BaseException")=true)/\c a=Yb/\E (.ref a) (Ya C) (OJ b a)
section
variable{env:acw}
theorem QQ{K:Yc}{x:aeI Yd}{Q:Flow->Ym->Prop}(f:A.handled=Yb)
  (h:Yq (Yt prog w) A x (λv a=>∃e o C N up Zd,v=.ref e/\K.In a.heap/\a.heap.get? e=Ya o/\o.cls=.ref C/\(∃vs,o.data=.fields vs/\vs[1]?=Ya .none)/\Ab K C N up Zd/\up.contains (.type "BaseException")=true/\E (.ref e) a) E s):
  Yq (Yt prog w) A (raiseStmt env (Ya x) Yb) Q E s:=by
 refine Yf (xi h (λv a z=>?_) λ_ _ z=>z);obtain⟨e,o,C,N,up,Zd,rfl,X,i,j,⟨vs,hd,h1⟩,⟨r,u,bs,c,sn,sub,ab,k,dd,y,B,D,F,G,lk⟩,l,m⟩:=z;obtain⟨hp,g,d,t,os⟩:=a;have n:=X C _ lk;have b:(YG C::up).contains (.type "BaseException")=true:=by rw[aha,l,ajl]
 obtain⟨H,od,p,q⟩:=o;cases j;cases hd
 repeat(first|wp_step|(with_reducible refine acE i ?_)|(with_reducible refine aed n ?_;rw[b]))
 rw[h1];refine Yp ?_;rw[if_neg (by decide)];exact Yp (agW f m)
end
section
variable{K:Yc}{mg:Yo->Option Yd}{base:YT}{N:List Yo}{Zb:Yo}{scope:aci}{cd:Yd}{outer:List acw}{E:XK}
theorem JO{ex:cT}{F:TE}(t:PE (oR (CO P w) P w K mg base N Zb scope f cd A outer s H E) ex F):PS (oR (CO P w) P w K mg base N Zb scope f cd A outer s H E) (.Raise (Ya ex) Yb pos) (Hj K H E F):=by
 intro Q R σ S D I h;rw[arm_exec_Raise];refine Yf (adA (QQ (K:=K) (I.ok.hd rfl) (Yf (cu (t Q R σ S _ I h) λv j T=>?_))));obtain⟨y,k,i,r,d,C,od,U,l,⟨V,up,W,X,x⟩,h0,q⟩:=T;refine Yf (adA (Yp ?_));subst U;obtain rfl:v=YG d:=r;obtain⟨Y,sl,G,g,Z,J⟩:=(i.hok d _ l).1;refine⟨d,_,C,V,up,W,rfl,i.kIn,g,rfl,⟨Y,rfl,J⟩,X,x,?_⟩;have hn:∀b o,s.heap.get? b=Ya o->b≠d:=λb o e z=>by
  subst z;have:=i.base.free b o e h0 (by intro z;cases z);rw[l]at this;cases this
 have fs:∀b∈mF (oR (CO P w) P w K mg base N Zb scope f cd A outer s H E).stack,b≠d:=λb x z=>by
  have:=i.stkFree b x;rw[z,l]at this;cases this
 have m:∀{b o},k b=Ya o->(∀φ,o≠.ext φ)->OJ k d b=Ya o:=fun{b o} e n=>by rw[Cr (λz=>by rw[z,l]at e;cases e;exact n _ rfl)];exact e
 have un:Un (mF (oR (CO P w) P w K mg base N Zb scope f cd A outer s H E).stack) [] k (OJ k d) j.heap j.heap:=⟨λb o e _ _ _=>e,λb o e _ _ _=>⟨o.slots,e⟩,λb o _ n _=>by rw[Cr (λz=>by rw[z,l]at n;cases n)];exact n,λb o e _=>⟨o,e⟩,λb xs e=>m e (by intro _ z;cases z),λb o u e=>m e (by intro _ z;cases z),λb ps e=>⟨#[],by rw[ahb];exact m e (by intro _ z;cases z)⟩⟩;have hok:mE P w (OJ k d) j.heap:=λb u e=>by
  by_cases z:b=d
  ·rw[z,y9]at e;cases e
  ·rw[Cr z]at e;exact(i.hok b u e).stay (λ_ _ _ q=>q) (λc q=>m q (by intro _ z;cases z)) λc xs q=>m q (by intro _ z;cases z)
 have hB:∀b o,j.heap.get? b=Ya o->b∉mF (oR (CO P w) P w K mg base N Zb scope f cd A outer s H E).stack->((∃B,s.heap.get? b=Ya B)∨∃u,OJ k d b=Ya u)->(adU j.heap (d::mF (oR (CO P w) P w K mg base N Zb scope f cd A outer s H E).stack)).get? b=Ya o:=λb o e n r=>agT _ e (λz=>by
  rcases Yn.mp z with z|z
  ·rcases r with⟨B,e0⟩|⟨u,M⟩
   ·exact hn b B e0 z
   ·rw[z,y9]at M;cases M
  ·exact n z)
 have p:(adU j.heap (d::mF (oR (CO P w) P w K mg base N Zb scope f cd A outer s H E).stack)).get? d=none:=agr _ Ys;refine wpAny_leaving_firstW (base:=adU j.heap (d::mF (oR (CO P w) P w K mg base N Zb scope f cd A outer s H E).stack)) (a0:=G) i.ok.frames (PySem.W.funFrames_hide i.stack (λenv t a hf=>Yr _ (acj.mpr ⟨env,t,hf⟩))) rfl g (λb o q=>agZ _ q) p rfl J Z λh' L=>?_;obtain⟨O,⟨_,_,l2⟩,l3,l4⟩:=L;obtain⟨u1,u2,u3⟩:=Ex (s':=j) i rfl rfl rfl un hok hB O l4 rfl;exact⟨d,C,G,_,OJ k d,rfl,i.os,i.bare,u1,u2,⟨O,p,l2,l3⟩,u3,y9,q⟩
end
end L2
namespace L2
open PySem PySem.Spec PyProof.Rows
variable{X:Cx}{Za:List (Ye×uc)}{D:oU}{x m:Yo}{pos:abE}{tb:(St->XK)->TS}{th:TS}{f C:Ye}{fd:YD}{ps:List Yo}{k:Nat}{sp:Sp}{ta:TE}{t:TA}{EE:St->XK}{E:XK}
def R6(K:Yc)(D:Ye)(tb:(St->XK)->TS)(b:TS):TS:=λDn σ H=>
 tb (λd e c f=>∃a C,e=.ref a/\c=Ya C/\NJ K C D/\b Dn d (upd f a (xO a C))) Dn σ H
theorem SP.unhnd{f:Flow}{s:Ym}{e:Yd}(ok:X.Ok)(h:SP (X.hnd e) Za D f s):SP X Za D f s:=by
 cases f with
 |next=>obtain⟨a,b,I,q⟩:=h;exact⟨a,b,I.unhnd ok,q⟩
 |brk=>obtain⟨a,b,I,q⟩:=h;exact⟨a,b,I.unhnd ok,q⟩
 |cont=>obtain⟨a,b,I,q⟩:=h;exact⟨a,b,I.unhnd ok,q⟩
 |ret u=>obtain⟨v,a,b,I,r,q⟩:=h;exact⟨v,a,b,I.unhnd ok,r,q⟩
theorem PH{K:Yc}{D L:Ye}{U j:abE}{O:List Y4}{P:Y4}{a:List Y4}(V:X.K=K)(b:X.stack=X.env::X.outer)(W:X.env.frame=Ya L)(Y:Gl X x)(hm:X.mg x=Ya (.ref D))(Z:NJ K D D)(hb:∀Za EE,CM (X.tr Za EE) O (tb EE))(hs:∀k,CM (X.hnd (.ref k)) (P::a) th)(n:(x==("__debug__":Yo))=false:=by decide):
  PS X (.Try O [.ExceptHandler (Ya (.Name x U)) Yb (P::a) j] [] [] pos) (R6 K D tb th):=by
 subst V;intro Za s σ H Dn I h;refine wpAny_Try_except ?_;refine xi (hb Za _ [] s σ H Dn (I.tr _) h) (λf Q q=>?_) λe Q q=>?_
 ·cases f with
  |next=>exact ac3 q.untr
  |brk=>exact q.untr
  |cont=>exact q.untr
  |ret u=>exact q.untr
 ·obtain⟨σ1,H1,s2,o,k,C,a0,B,H',rfl,os,R,un,hok,p,S,hn,_,_,e1,e2,l,ht⟩:=q;cases e1;cases e2;obtain⟨hh,g,d,t,ab⟩:=Q;have m:=p;rw[b]at m;have T:=o.ok.frames;rw[b]at T;refine wpAny_looks_onW T W m λh1 TF up1=>?_;refine wpAny_landsW TF λh2 c r=>?_;rw[←b]at c;have i:=up1.trans r;have J:=EB o os R un hok p S hn c i;have v:=J.hnd (.ref k);refine wpAny_handleBy_cons (codeAny_handlers_test (mJ (X:=X.hnd (.ref k)) v Y hm ?_ n)) (by intro q;cases q);obtain⟨_,_,_,⟨_,_,_,_,_,_,_,_,_,_,_,_,_,_,w⟩,_,y⟩:=l;obtain⟨_,_,_,⟨_,_,_,_,_,_,_,_,_,_,_,_,_,_,A⟩,E,_⟩:=Z;obtain⟨oe,F,G⟩:=c.there;refine Jz (v.kIn _ _ w) (v.kIn _ _ A) F G E y ?_;refine codeAny_handlers_suite (lands_againW c λh3 M N=>?_);have J3:=EB o os R un hok p S hn M (i.trans N);exact xi (hs k Za _ _ _ Dn (J3.hnd _) ht) (λf s5 q=>q.unhnd J.ok) λ_ _ z=>z.elim
structure Gb(K:Yc)(x Zb:Yo)(st:Y4)(f:Ye)(fd:YD)(ds:List Yd):Prop where
 ex:∃(oc:Yd) (od:Option Ye) (kV doc pm:Yd) (an:Option Ye) (cdv ct:Yd) (osl:Array (Option Yd)) (T:Ye) (tc:Yd) (td:Option Ye) (tn:Nat) (tsl:Array (Option Yd)),
  fd=aa4 x Zb (gJ st) (dO st) (ao st) (.ref T) kV doc pm an cdv ct/\K.lookup f=Ya ⟨oc,od,.func fd,osl⟩/\adk K cdv Zb=true/\K.lookup T=Ya ⟨tc,td,.seq ds.toArray tn,tsl⟩
section
variable{P:YZ}{w:Y6}{K:Yc}{mg:Yo->Option Yd}{base:YT}{Zb:Yo}{st:Y4}{ds ds':List Yd}
theorem Gb.ok{N:List Yo}(F:Gb K x Zb st f fd ds)(S:aE N ps (ao st))(len:∀vs H Q E,sp vs H Q E->vs.length=ps.length)(b:∀(a:Yd) (A:xw) (outer:List acw) (s:Ym) (H:Hp) (vs:List V) (Q:VK) (E:XK),cQ k (A.deeper (acn Zb (ao st) s.heap.objs.size f a))->sp vs H Q E->
   ∃t,CM (oR bp P w K mg base N Zb (ao st) f a A outer s H E).nox (dO st) t/\t {nx:=λ_ e=>Q .non e,rt:=Q} (start N vs) H):aF P w K mg base bp (k+ 1) f fd ps sp:=by
 obtain⟨m,od,kV,g,n,o,a,ct,i,T,tc,td,tn,j,rfl,lk,c,_⟩:=F.ex;refine OB lk c S len λA outer s H vs Q E l d=>?_;obtain⟨t,h,q⟩:=b a A outer s H vs Q E l d;exact⟨t,h.nox,q⟩
theorem Gb.binds(F:Gb K x Zb st f fd ds)(h:∀(kV a c:Yd) (d:Option Ye) (b ct:Yd) (T:Ye) (us:List Yd),(us++ds').length=ps.length->∃k,agu (aa4 x Zb (gJ st) (dO st) (ao st) (.ref T) kV a c d b ct) ⟨us,[]⟩=ag5 (.ref T) >>= k/\k (Ya ds.toArray)=pure (ps.zip (us++ds'))):Binds K fd ps ds':=by
 obtain⟨l,od,kV,a,c,d,b,ct,e,T,tc,td,tn,g,rfl,lk,i,j⟩:=F.ex;intro s us X hl;obtain⟨k,h1,h2⟩:=h kV a c d b ct T us hl;exact .of_defaults rfl (X _ _ j) rfl h1 h2
theorem Pn{i:Yd}{od g:Option Ye}{d:Array (Option Yd)}{kV b h a ct:Yd}{T:Ye}{tc:Yd}{td:Option Ye}{tn:Nat}{e:Array (Option Yd)}(l:K.lookup f=Ya ⟨i,od,.func (aa4 x Zb (gJ st) (dO st) (ao st) (.ref T) kV b h g a ct),d⟩)
  (c:adk K a Zb=true) (t:K.lookup T=Ya ⟨tc,td,.seq ds.toArray tn,e⟩):Gb K x Zb st f (aa4 x Zb (gJ st) (dO st) (ao st) (.ref T) kV b h g a ct) ds:=⟨⟨i,od,kV,b,h,g,a,ct,d,T,tc,td,tn,e,rfl,l,c,t⟩⟩
end
def NI(C:Ye)(m:Yo)(sp:Sp)(c:St->XK)(ta:TE)(t:TA):TE:=λσ H Q=>ta σ H λx b=>∃a d fs,x=.ref a/\b a=Ya (.ins C d fs)/\fs.lookup m=Yb/\t σ b λe f=>sp (x::e) f Q (c σ)
section
variable{e o:cT}{es:List cT}{p Ze:abE}
theorem LK{pl:aeI Bool}(B:PE (X.tr Za EE) o ta)(c:Av X.K C)(hm:bx X.K C m f)(F:aF X.prog X.w X.K X.mg X.base (CO X.prog X.w) k f fd ps sp)(D:cQ k X.A)(E:Binds X.K fd ps [])(ha:PA (X.tr Za EE) (e::es) t)(i:YW (e::es) X.env=(false,pk e X.env)::YW es X.env:=by rfl)(j:(aal pos (YW es X.env)).any (·.1)=false:=by rfl)(G:pk (.Call (.Attribute o m Ze) (e::es) [] pos) X.env=(do
   let ov←pk o X.env
   adN Ze.atName
   let (f,first)←acF [ov] (ac6 ov m pl)
   aeg pos f first (aal pos (YW (e::es) X.env)) (abv pos (aaN [] X.env))):=by rfl):
  PE (X.tr Za EE) (.Call (.Attribute o m Ze) (e::es) [] pos) (NI C m sp EE ta t):=by
 intro p s σ H Q I h;refine abp (pl:=pl) (cu (B p s σ H _ I h) λu J K=>?_) G;obtain⟨x,L,v,M,a,O,fs,ex,N,l,q⟩:=K;subst ex;obtain rfl:u=YG a:=M;refine jm v N c hm l ?_;refine abP (first:=[.ref a]) (h₀:=X.base) I.ok.mod.kin hm.kp (cu (ha pos p J σ L _ v q) λb n ⟨w,y,d,r,z⟩=>⟨d.kIn,?_⟩) i j;have A:Vals (V.ref a::w) (YG a::b):=.cons rfl r;have hl:(YG a::b++[]).length=ps.length:=by rw[sq,←A.length];exact F.len _ _ _ _ z
 have bd:=E n (YG a::b) d.kIn hl;rw[sq]at bd;refine adX (codeAny_mono (F.run X.A X.stack n y ⟨.ref a::b,[]⟩ (.ref a::b) (.ref a::w) Q (EE σ) D d.env0 bd A z) λrs s' g=>?_);cases rs with
 |error e=>exact⟨σ,y,n,d.untr,g⟩
 |ok fl=>
  cases fl with
  |ret u=>exact d.after g
  |next=>exact aaw g
  |brk=>exact aaw g
  |cont=>exact aaw g
end
section
variable{σ:St}{H:Hp}{Q:VK}
theorem Q7(h:ta σ H λx b=>∃a c fs,x=.ref a/\b a=Ya (.ins C c fs)/\fs.lookup m=Yb/\t σ b λvs d=>sp (x::vs) d Q (EE σ)):NI C m sp EE ta t σ H Q:=h
theorem BC{b:List V}(h:ta σ H λx c=>∃a d fs,x=.ref a/\c a=Ya (.ins C d fs)/\fs.lookup m=Yb/\t σ c λvs e=>sp (x::(vs++b)) e Q E):RO C m sp b E ta t σ H Q:=h
theorem To{K:Yc}{b:Ye}(h:tb (λd e c f=>∃a C,e=.ref a/\c=Ya C/\NJ K C b/\th D d (upd f a (xO a C))) D σ H):R6 K b tb th D σ H:=h
theorem Oq{K:Yc}{b:Hp}{t:TE}(h:t σ H λv c=>∃a C od,v=.ref a/\c a=Ya (xM a C od)/\(∃N up d,Ab K C N up d/\up.contains (.type "BaseException")=true)/\b a=Yb/\E (.ref a) (Ya C) (OJ c a)):Hj K b E t D σ H:=h
theorem PD(h:t σ H λvs b=>vs.length<=YB/\∀a,b a=Yb->sp (.ref a::vs) (upd b a (xM a C Yb)) (λv c=>v=.non/\Q (.ref a) c) E0):L8 C sp t σ H Q:=h
theorem Mo{K:Yc}{tv:TE}{f:Yo}(h:tv σ H λy c=>ta σ c λx b=>∃e C,x=.ref e/\OL K C/\jJ K (.ref C) f=Ya Yb/\
 ((b e=Ya (xM e C Yb)/\∀a,b a=Yb->a≠e->D.nx σ (upd (upd b a (xN a [(f,y)])) e (xM e C (Ya a))))∨
 ∃a fs,b e=Ya (xM e C (Ya a))/\b a=Ya (xN a fs)/\fs.length<1000/\D.nx σ (upd b a (xN a (dz f y fs))))):R4 K ta tv f D σ H:=h
theorem WH{r:List V->List V->Hp->VK->Prop}{tk:TA}(h:t σ H λvs a=>tk σ a λzs b=>r vs zs b Q):Wj r t tk σ H Q:=h
end
noncomputable def qW(me nu ha ro ma dn tk kp od tb ab:V):List (Yo×V):=[("me",me),("number",nu),("hands",ha),("room",ro),("made",ma),("done",dn),("took",tk),("keeps",kp),("order",od),("taken_by",tb),("able_by",ab)]
structure AI(K:Yc)(C:Ye):Prop where
 cl:Av K C
 n1:cz K C "me"
 n2:cz K C "number"
 n3:cz K C "hands"
 n4:cz K C "room"
 n5:cz K C "made"
 n6:cz K C "done"
 n7:cz K C "took"
 n8:cz K C "keeps"
 n9:cz K C "order"
 n10:cz K C "taken_by"
 n11:cz K C "able_by"
section
variable{me nu ha ro ma dn tk kp od tb ab v:V}
theorem OP:dz "able_by" ab (dz "taken_by" tb (dz "order" od (dz "keeps" kp (dz "took" tk (dz "done" dn (dz "made" ma (dz "room" ro (dz "hands" ha (dz "number" nu (dz "me" me []))))))))))=qW me nu ha ro ma dn tk kp od tb ab:=by kernel_rfl
theorem Ju:dz "made" v (qW me nu ha ro ma dn tk kp od tb ab)=qW me nu ha ro v dn tk kp od tb ab:=by kernel_rfl
theorem GS:dz "keeps" v (qW me nu ha ro ma dn tk kp od tb ab)=qW me nu ha ro ma dn tk v od tb ab:=by kernel_rfl
theorem y8:dz "order" v (qW me nu ha ro ma dn tk kp od tb ab)=qW me nu ha ro ma dn tk kp v tb ab:=by kernel_rfl
theorem Tx:(qW me nu ha ro ma dn tk kp od tb ab).lookup ("me":Yo)=Ya me:=by kernel_rfl
theorem GL:(qW me nu ha ro ma dn tk kp od tb ab).lookup ("number":Yo)=Ya nu:=by kernel_rfl
theorem Jo:(qW me nu ha ro ma dn tk kp od tb ab).lookup ("hands":Yo)=Ya ha:=by kernel_rfl
theorem LU:(qW me nu ha ro ma dn tk kp od tb ab).lookup ("room":Yo)=Ya ro:=by kernel_rfl
theorem N9:(qW me nu ha ro ma dn tk kp od tb ab).lookup ("made":Yo)=Ya ma:=by kernel_rfl
theorem MT:(qW me nu ha ro ma dn tk kp od tb ab).lookup ("done":Yo)=Ya dn:=by kernel_rfl
theorem Oz:(qW me nu ha ro ma dn tk kp od tb ab).lookup ("took":Yo)=Ya tk:=by kernel_rfl
theorem Jk:(qW me nu ha ro ma dn tk kp od tb ab).lookup ("keeps":Yo)=Ya kp:=by kernel_rfl
theorem Ke:(qW me nu ha ro ma dn tk kp od tb ab).lookup ("order":Yo)=Ya od:=by kernel_rfl
theorem BJ:(qW me nu ha ro ma dn tk kp od tb ab).lookup ("taken_by":Yo)=Ya tb:=by kernel_rfl
theorem EH:(qW me nu ha ro ma dn tk kp od tb ab).lookup ("able_by":Yo)=Ya ab:=by kernel_rfl
theorem qu:(qW me nu ha ro ma dn tk kp od tb ab).lookup ("check_room":Yo)=none:=by kernel_rfl
theorem Ou:(qW me nu ha ro ma dn tk kp od tb ab).lookup ("keep":Yo)=none:=by kernel_rfl
theorem yH:(qW me nu ha ro ma dn tk kp od tb ab).lookup ("kept_calls":Yo)=none:=by kernel_rfl
theorem Aw:(qW me nu ha ro ma dn tk kp od tb ab).lookup ("utter":Yo)=none:=by kernel_rfl
theorem Oc:(qW me nu ha ro ma dn tk kp od tb ab).lookup ("step":Yo)=none:=by kernel_rfl
theorem Ly:(qW me nu ha ro ma dn tk kp od tb ab).lookup ("take":Yo)=none:=by kernel_rfl
theorem Hb:(qW me nu ha ro ma dn tk kp od tb ab).lookup ("let_go":Yo)=none:=by kernel_rfl
theorem vG:(qW me nu ha ro ma dn tk kp od tb ab).lookup ("piece":Yo)=none:=by kernel_rfl
theorem FT:(qW me nu ha ro ma dn tk kp od tb ab).lookup ("listen":Yo)=none:=by kernel_rfl
theorem B3:(qW me nu ha ro ma dn tk kp od tb ab).lookup ("keep_new":Yo)=none:=by kernel_rfl
theorem NZ:(qW me nu ha ro ma dn tk kp od tb ab).lookup ("kept":Yo)=none:=by kernel_rfl
theorem Pd:(qW me nu ha ro ma dn tk kp od tb ab).length<1000:=by show 11<1000;decide
end
end L2
namespace GX
open PySem PySem.Spec PyProof.Rows
variable{prog:YZ}{w:Y6}{A:xw}{s:Ym}{it:Ye}{R:ack->Ym->Prop}{S:xw->(ack->Ym->Prop)->Ym->Prop}{Q:Option Yd->Ym->Prop}{e:xl}
noncomputable abbrev yR(a:Yd)(d:Ye)(i n ep:Nat)(ok b:Yd):uc:={cls:=.type "dict_itemiterator",data:=.fields #[a,.bool false,.ref d,.int i 0,.int n 0,.int ep 0,ok,b]}
noncomputable abbrev yI(d:Ye)(i n ep:Nat):uc:={cls:=.type "dict_keyiterator",data:=.fields #[.ref d,.int i 0,.int n 0,.int ep 0]}
theorem OG(it d:Ye)(i ep:Nat)(es:Array xl)(e:xl)(a:es[i]?=Ya e):
  acz (aaa.«dict_keyiterator.__next__» ⟨[.ref it],[]⟩) (λ_ R s=>s.heap.get? it=Ya (yI d i es.size ep)/\s.heap.get? d=Ya (ke es ep)/\
   ∀g,g.get? it=Ya (yI d (i+ 1) es.size ep)->aab it s.heap g->R (.ok (.ret e.key)) {s with heap:=g}):=
 .of_wp λprog w A R s ⟨h1,h2,q⟩=>by
  obtain⟨h,g,b,tk,os⟩:=s;have c:GV {heap:=h,gens:=g,drawn:=b,toks:=tk,os:=os} (.ref it) "dict_keyiterator":=⟨_,h1,rfl⟩
  wp_walk
  rw[if_neg (by omega),YQ,a]
  wp_walk
  have ow:aa8 ((Manifest.find? "dict_keyiterator").elim "dict_keyiterator" λx=>x.tpName)=false:=by decide +kernel
  refine⟨_,rfl,q _ ?_ (aay ..)⟩;rw[aaz _ h1 rfl,ow];simp[adC,aa9];intro x a hm;exfalso
  revert x a hm
  decide +kernel
theorem OX(it d:Ye)(i ep:Nat)(es:Array xl)(a:es.size<=i):
  acz (aaa.«dict_keyiterator.__next__» ⟨[.ref it],[]⟩) (λA R s=>A.handled=Yb/\s.heap.get? it=Ya (yI d i es.size ep)/\s.heap.get? d=Ya (ke es ep)/\
   ∀g e,adw it s.heap g->GV {s with heap:=g} (.ref e) "StopIteration"->R (.error (.ref e)) {s with heap:=g}):=
 .of_wp λprog w A R s ⟨h0,h1,h2,q⟩=>by
  obtain⟨h,g,c,tk,os⟩:=s;have k:GV {heap:=h,gens:=g,drawn:=c,toks:=tk,os:=os} (.ref it) "dict_keyiterator":=⟨_,h1,rfl⟩;have f:A.in1.handled=none:=h0
  wp_walk
  rw[if_neg (by omega),YQ,aaG a]
  wp_walk
  simp only[ahS]
  wp_walk
  exact q _ _ (λb o j e=>Yh _ (Yh _ (((aay ..).2 b j).trans e))) ⟨_,Yv _ rfl,rfl⟩
theorem NS(it d:Ye)(i ep:Nat)(ok k:Yd)(es:Array xl)(e:xl)(z:es[i]?=Ya e):
  acz (aaa.«dict_itemiterator.__next__» ⟨[.ref it],[]⟩) (λ_ R s=>s.heap.get? it=Ya (yR .none d i es.size ep ok k)/\s.heap.get? d=Ya (ke es ep)/\
   ∀g,g.get? it=Ya (yR (aa9 s.heap.objs.size) d (i+ 1) es.size ep e.key e.val)->g.get? s.heap.objs.size=Ya {cls:=.type "tuple",data:=.seq #[e.key,e.val]}->(∀b o,b≠it->s.heap.get? b=Ya o->g.get? b=Ya o)->R (.ok (.ret (.ref s.heap.objs.size))) {s with heap:=g}):=
 .of_wp λprog w A R s ⟨h1,h2,q⟩=>by
  obtain⟨h,g,f,tk,os⟩:=s;have m:GV {heap:=h,gens:=g,drawn:=f,toks:=tk,os:=os} (.ref it) "dict_itemiterator":=⟨_,h1,rfl⟩;have ow:aa8 ((Manifest.find? "dict_itemiterator").elim "dict_itemiterator" λx=>x.tpName)=true:=by decide +kernel
  wp_walk
  rw[if_neg (by omega),YQ,z];have lt:it<h.objs.size:=Yw h1;have up:((i:Int)+ 1)=((i+ 1:Nat):Int):=by omega
  refine Yf (Yf (ad5 m (Yp ?_)));refine Yf (adx m ?_);show Yq _ _ (agD (.ref it) 3 (aa9 ((i:Int)+ 1)) >>= _) _ _ ⟨h,g,f,tk,os⟩;rw[up];refine Yf (abS h1 (by simp) λc l n=>?_);have l:c.get? it=Ya (yR .none d (i+ 1) es.size ep ok k):=l;have p:GV ⟨c,g,f,tk,os⟩ (.ref it) "dict_itemiterator":=⟨_,l,rfl⟩;refine Yf (aau (Yf (adx p (Yf (adx p ?_)))));show Yq _ _ (ah0 (.ref it) 6 e.key e.val) _ _ ⟨c,g,f,tk,os⟩;refine Yf (agd ?_);have r:c.objs.size=h.objs.size:=n.1;have t:∀b o,b≠it->h.get? b=Ya o->(c.push {cls:=.type "tuple",data:=.seq #[e.key,e.val]}).get? b=Ya o:=λb o a q=>Yh _ ((n.2 b a).trans q);have j:(c.push {cls:=.type "tuple",data:=.seq #[e.key,e.val]}).get? it=Ya (yR .none d (i+ 1) es.size ep ok k):=Yh _ l;have u:(c.push {cls:=.type "tuple",data:=.seq #[e.key,e.val]}).get? h.objs.size=Ya {cls:=.type "tuple",data:=.seq #[e.key,e.val]}:=by rw[←r];exact Yv _ rfl
  rw[r];generalize c.push {cls:=.type "tuple",data:=.seq #[e.key,e.val]}=g2 at t j u⊢;show Yq _ _ (ahj (.ref it) >>= _) _ _ ⟨g2,g,f,tk,os⟩;refine Yf (Yf (ahE j rfl (x:=.none) rfl (Yp ?_)));rw[if_pos rfl];refine Yf (ahE j rfl (x:=ok) rfl (Yf (ahE j rfl (x:=k) rfl ?_)));refine Yf (abS j (by simp) λJ B C=>Yf (abS B (by simp) λK D E=>Yf (abS D (by simp) λL F G=>Yf (abS F (by simp) λv H I=>?_))));have y:∀b o,b≠it->g2.get? b=Ya o->v.get? b=Ya o:=λb o a q=>(I.2 b a).trans ((G.2 b a).trans ((E.2 b a).trans ((C.2 b a).trans q)));exact Yf (wpAny_letGo (Yp (Yp ⟨_,rfl,q v H (y _ _ (abu lt) u) λb o a w=>y b o a (t b o a w)⟩)))
theorem Ph(it d:Ye)(i ep:Nat)(ok a:Yd)(es:Array xl)(c:es.size<=i):
  acz (aaa.«dict_itemiterator.__next__» ⟨[.ref it],[]⟩) (λA R s=>A.handled=Yb/\s.heap.get? it=Ya (yR .none d i es.size ep ok a)/\s.heap.get? d=Ya (ke es ep)/\
   ∀g e,adw it s.heap g->GV {s with heap:=g} (.ref e) "StopIteration"->R (.error (.ref e)) {s with heap:=g}):=
 .of_wp λprog w A R s ⟨h0,h1,h2,q⟩=>by
  obtain⟨h,g,f,tk,os⟩:=s;have j:GV {heap:=h,gens:=g,drawn:=f,toks:=tk,os:=os} (.ref it) "dict_itemiterator":=⟨_,h1,rfl⟩;have k:A.in1.handled=none:=h0
  wp_walk
  rw[if_neg (by omega),YQ,aaG c];refine Yf (Yf (ad5 j (Yp ?_)));refine Yf (abS h1 (by show _<8;split<;>decide) λn p l=>?_)
  wp_walk
  simp only[ahS]
  wp_walk
  exact q _ _ (λb o m e=>Yh _ (Yh _ ((l.2 b m).trans e))) ⟨_,Yv _ rfl,rfl⟩
theorem U0(d:Ye)(es:Array xl)(ep:Nat)(hd:(d==aah)=false):
  acz (aaa.«dict.items» ⟨[.ref d],[]⟩) (λ_ R s=>s.heap.get? d=Ya (ke es ep)/\R (.ok (.ret (.ref s.heap.objs.size))) {s with heap:=s.heap.push {cls:=.type "dict_items",data:=.fields #[.ref d]}}):=
 .of_wp λprog w A R s ⟨h1,q⟩=>by
  obtain⟨h,g,a,tk,os⟩:=s;have b:GV {heap:=h,gens:=g,drawn:=a,toks:=tk,os:=os} (.ref d) "dict":=⟨_,h1,rfl⟩
  wp_walk
  exact⟨_,rfl,q⟩
theorem N4(v d:Ye)(ep:Nat)(es:Array xl):
  acz (aaa.«dict_items.__iter__» ⟨[.ref v],[]⟩) (λA R s=>s.heap.get? v=Ya {cls:=.type "dict_items",data:=.fields #[.ref d]}/\s.heap.get? d=Ya (ke es ep)/\
   R (.ok (.ret (.ref s.heap.objs.size))) {s with heap:=s.heap.push (yR .none d 0 es.size ep .none .none)}):=
 .of_wp λprog w A R s ⟨h1,h2,q⟩=>by
  obtain⟨h,g,a,tk,os⟩:=s;have b:GV {heap:=h,gens:=g,drawn:=a,toks:=tk,os:=os} (.ref v) "dict_items":=⟨_,h1,rfl⟩
  wp_walk
  have ow:aa8 "dict_itemiterator"=true:=by decide +kernel
  rw[ow];exact⟨_,rfl,q⟩
theorem Jw(d:Ye)(ep:Nat)(es:Array xl)(hd:(d==aah)=false):
  acz (aaa.«dict.__iter__» ⟨[.ref d],[]⟩) (λA R s=>s.heap.get? d=Ya (ke es ep)/\R (.ok (.ret (.ref s.heap.objs.size))) {s with heap:=s.heap.push (yI d 0 es.size ep)}):=
 .of_wp λprog w A R s ⟨h1,q⟩=>by
  obtain⟨h,g,a,tk,os⟩:=s;have b:GV {heap:=h,gens:=g,drawn:=a,toks:=tk,os:=os} (.ref d) "dict":=⟨_,h1,rfl⟩
  wp_walk
  exact⟨_,rfl,q⟩
theorem M5(a:s.TypeIs (.ref it) "dict_itemiterator")(m:acz (aaa.«dict_itemiterator.__next__» ⟨[.ref it],[]⟩) S)(h:S A R s):
  Rk (Yt prog w) A (.call (.builtin "dict_itemiterator.__next__") ⟨[.ref it],[]⟩) R s:=
 aaS F.slot_dict_itemiterator_next.plain F.entry_dict_itemiterator_next (F.slot_dict_itemiterator_next.check _ _ _ _ _ _ _ _ a (F.args_dict_itemiterator_next_1 _) (m prog w A R s h))
theorem N5(a:s.TypeIs (.ref it) "dict_keyiterator")(m:acz (aaa.«dict_keyiterator.__next__» ⟨[.ref it],[]⟩) S)(h:S A R s):
  Rk (Yt prog w) A (.call (.builtin "dict_keyiterator.__next__") ⟨[.ref it],[]⟩) R s:=
 aaS F.slot_dict_keyiterator_next.plain F.entry_dict_keyiterator_next (F.slot_dict_keyiterator_next.check _ _ _ _ _ _ _ _ a (F.args_dict_keyiterator_next_1 _) (m prog w A R s h))
section
variable{E:Yd->Ym->Prop}{v d:Ye}{es:Array xl}{i ep:Nat}{ok ov:Yd}
theorem Ka{Q:Yd->Ym->Prop}(a:(d==aah)=false)(rd:fS s.heap d es ep)
  (q:Q (.ref s.heap.objs.size) {s with heap:=s.heap.push {cls:=.type "dict_items",data:=.fields #[.ref d]}}):Yq (Yt prog w) A (call (.builtin "dict.items") [.ref d]) Q E s:=
 acS F.slot_dict_items ⟨_,rd,rfl⟩ F.entry_dict_items (F.args_dict_items_1 _) (U0 d es ep a) ⟨rd,q⟩
theorem Kv{Q:Yd->Ym->Prop}(a:s.heap.get? v=Ya {cls:=.type "dict_items",data:=.fields #[.ref d]})(rd:fS s.heap d es ep)
  (q:Q (.ref s.heap.objs.size) {s with heap:=s.heap.push (yR .none d 0 es.size ep .none .none)}):Yq (Yt prog w) A (adt (.ref v)) Q E s:=by
 have T:s.TypeIs (.ref v) "dict_items":=⟨_,a,rfl⟩;apply acC T F.slot_dict_items_iter;apply acS F.slot_dict_items_iter T F.entry_dict_items_iter (F.args_dict_items_iter_1 _) (N4 v d ep es);exact⟨a,rd,"dict_itemiterator",_,⟨_,Yv _ rfl,rfl⟩,F.slot_dict_itemiterator_next.lookup,q⟩
theorem Ag{Q:Yd->Ym->Prop}(a:(d==aah)=false)(rd:fS s.heap d es ep)
  (q:Q (.ref s.heap.objs.size) {s with heap:=s.heap.push (yI d 0 es.size ep)}):Yq (Yt prog w) A (adt (.ref d)) Q E s:=by
 have T:s.TypeIs (.ref d) "dict":=⟨_,rd,rfl⟩;apply acC T F.slot_dict_iter;apply acS F.slot_dict_iter T F.entry_dict_iter (F.args_dict_iter_1 _) (Jw d ep es a);exact⟨rd,"dict_keyiterator",_,⟨_,Yv _ rfl,rfl⟩,F.slot_dict_keyiterator_next.lookup,q⟩
theorem JZ(f:s.heap.get? it=Ya (yR .none d i es.size ep ok ov))(rd:fS s.heap d es ep)(h:es[i]?=Ya e)(j:∀g,g.get? it=Ya (yR (aa9 s.heap.objs.size) d (i+ 1) es.size ep e.key e.val)->g.get? s.heap.objs.size=Ya {cls:=.type "tuple",data:=.seq #[e.key,e.val]}->(∀b o,b≠it->s.heap.get? b=Ya o->g.get? b=Ya o)->Q (Ya (.ref s.heap.objs.size)) {s with heap:=g}):Yq (Yt prog w) A (aaL (.ref it)) Q E s:=by
 have k:s.TypeIs (.ref it) "dict_itemiterator":=⟨_,f,rfl⟩;have l:=F.slot_dict_itemiterator_next.lookup;have m:=F.slot_dict_itemiterator_next.bind (.ref it);unfold aaL
 repeat' first|assumption|wp_step
 exact M5 k (NS it d i ep ok ov es e h) ⟨f,rd,λg a b c=>Yp (Yp (j g a b c))⟩
theorem AZ(c:s.heap.get? it=Ya (yI d i es.size ep))(rd:fS s.heap d es ep)(f:es[i]?=Ya e)(h:∀g,g.get? it=Ya (yI d (i+ 1) es.size ep)->aab it s.heap g->Q (Ya e.key) {s with heap:=g}):Yq (Yt prog w) A (aaL (.ref it)) Q E s:=by
 have j:s.TypeIs (.ref it) "dict_keyiterator":=⟨_,c,rfl⟩;have k:=F.slot_dict_keyiterator_next.lookup;have l:=F.slot_dict_keyiterator_next.bind (.ref it);unfold aaL
 repeat' first|assumption|wp_step
 exact N5 j (OG it d i ep es e f) ⟨c,rd,λg a b=>Yp (Yp (h g a b))⟩
theorem Mn(f:A.handled=Yb)(c:s.heap.get? it=Ya (yR .none d i es.size ep ok ov))(rd:fS s.heap d es ep)(h:es.size<=i)(fin:∀g,adw it s.heap g->Q Yb {s with heap:=g}):Yq (Yt prog w) A (aaL (.ref it)) Q E s:=by
 have j:s.TypeIs (.ref it) "dict_itemiterator":=⟨_,c,rfl⟩;have l:=F.slot_dict_itemiterator_next.lookup;have m:=F.slot_dict_itemiterator_next.bind (.ref it);have k:aiW (.type "StopIteration") (.type "StopIteration")=pure true:=by rw[acJ];kernel_rfl
 unfold aaL
 repeat' first|assumption|wp_step
 refine M5 j (Ph it d i ep ok ov es h) ⟨f,c,rd,λg e a b=>?_⟩;have n:=fin g a
 repeat' first|assumption|wp_step
theorem DI(f:A.handled=Yb)(c:s.heap.get? it=Ya (yI d i es.size ep))(rd:fS s.heap d es ep)(h:es.size<=i)(fin:∀g,adw it s.heap g->Q Yb {s with heap:=g}):Yq (Yt prog w) A (aaL (.ref it)) Q E s:=by
 have j:s.TypeIs (.ref it) "dict_keyiterator":=⟨_,c,rfl⟩;have l:=F.slot_dict_keyiterator_next.lookup;have m:=F.slot_dict_keyiterator_next.bind (.ref it);have k:aiW (.type "StopIteration") (.type "StopIteration")=pure true:=by rw[acJ];kernel_rfl
 unfold aaL
 repeat' first|assumption|wp_step
 refine N5 j (OX it d i ep es h) ⟨f,c,rd,λg e a b=>?_⟩;have n:=fin g a
 repeat' first|assumption|wp_step
end
end GX
namespace L2
open PySem PySem.Spec PyProof.Rows
variable{P prog:YZ}{w:Y6}{H:Hp}{h:YT}{d it D:Ye}{kvs:List (List bJ×V)}{es:Array xl}{ep x1:Nat}{Zw:List cT}{tp:abE}{o:uc}{tg e:cT}{X:Cx}{σ:St}{td te:TE}{R:It->Hp->Prop}{g:TG}{tt:TT}{Qe:Hp->Prop}{A:xw}{E:Yd->Ym->Prop}{s:Ym}{v:Yd}{Q:Bool->Ym->Prop}{k:List Int}{f b fin:Bool}{vs:List Yd}{ks:List (List Int)}
theorem uW(ok:mE P w H h)(e:Rd H d (.dT kvs)):
  (d==aah)=false/\∃(es:Array xl) (ep:Nat),GX.fS h d es ep/\es.size=kvs.length/\∀(i:Nat) (k:List bJ) (v:V),kvs[i]?=Ya (k,v)->∃(y:xl) (b:Ye),es[i]?=Ya y/\y.key=.ref b/\H b=Ya (.tup (k.map kV))/\RelV v y.val:=by
 obtain⟨_,c,m,a,o,es,ep,h1,h2,h3,h4,_⟩:=rm ok e;refine⟨c,es,ep,.of h1 h2 h3,?_,λi k v f=>?_⟩
 ·rw[←YO,h4,Yg];exact(Y7 a).symm
 ·obtain⟨q,g,n,j,l⟩:=dB a f;refine⟨agq (abo (aY P w)) q,q.2.1,?_,rfl,j,l⟩;rw[←vc,h4,Yy,g];rfl
noncomputable def GR(d:Ye)(o:uc)(kvs:List (List bJ×V)):It:=
 ⟨λi H=>i<kvs.length/\H d=Ya (.frz o (.dT kvs)),λi H x c=>∃k v a b,kvs[i]?=Ya (k,v)/\H a=Yb/\H b=Ya (.tup (k.map kV))/\x=.ref a/\c=upd H a (.tup [.ref b,v]),λi H=>kvs.length<=i/\H d=Ya (.frz o (.dT kvs))⟩
noncomputable def Ad(d:Ye)(o:uc)(kvs:List (List bJ×V)):It:=
 ⟨λi H=>i<kvs.length/\H d=Ya (.frz o (.dT kvs)),λi H x a=>a=H/\∃k v b,kvs[i]?=Ya (k,v)/\H b=Ya (.tup (k.map kV))/\x=.ref b,λi H=>kvs.length<=i/\H d=Ya (.frz o (.dT kvs))⟩
theorem DM{f:Array xl}{c:Nat}(a:GX.fS h d es ep)(b:GX.fS h d f c):es=f:=by
 have e:GX.ke es ep=GX.ke f c:=YK (a.symm.trans b);cases e;rfl
theorem Em{K:Yc}(sz:es.size=kvs.length)(u:∀h:YT,h.get? d=Ya o->GX.fS h d es ep):
  Turn P w K (.Tuple Zw x1 tp) (GR d o kvs) [it] it (λi h=>∃ok j,h.get? it=Ya (GX.yR .none d i es.size ep ok j)) where
 mem:=by simp
 obj:=λi h ⟨ok,j,st⟩ b l=>by
  have e:b=it:=by simpa using l
  subst e;exact⟨_,st,λv z=>by cases z⟩
 keep:=λi h x ⟨ok,j,st⟩ k=>⟨ok,j,k it (by simp) _ st⟩
 item:=by
  intro X A hw B t i Q s σ H E I C st D;subst A hw B;obtain⟨ok,j,a⟩:=st;obtain⟨R,hd⟩:=D;have f:s.heap.get? d=Ya o:=(show s.heap.get? d=Ya o/\_ from I.hok d _ hd).1;have S:kvs[i]?=Ya kvs[i]:=Yk R;obtain⟨_,Zk,T,F,_,G⟩:=uW I.hok (.inr ⟨o,hd⟩);obtain rfl:=DM (u _ f) F;obtain⟨y,b,U,V,l,W⟩:=G i kvs[i].1 kvs[i].2 S;refine GX.JZ a (u _ f) U λx g m kp=>?_;have n:s.heap.objs.size≠it:=λz=>by
   have:=Yw a;rw[←z]at this;exact Y8 _ this
  have p:=C it (by simp);have Y:aM X Q σ (upd H s.heap.objs.size (.tup [.ref b,kvs[i].2])) {s with heap:=x}:=
   I.turnLay kp p ⟨_,g⟩ (Yl _) n ⟨by show 2<=YB;decide,[y.key,y.val],.cons V (.cons W .nil),_,m,rfl,0,rfl,rfl,rfl⟩
  refine⟨_,rfl,aew g λh2 q Z=>?_⟩;obtain⟨J,L,f2,M,N,O⟩:=p;have r:(upd H s.heap.objs.size (.tup [.ref b,kvs[i].2])) it=none:=by rw[ak (Ne.symm n)];exact J
  refine⟨.ref s.heap.objs.size,_,Y.turned (t':=s.toks) (λb o l e=>(Z.2 b l).trans e) r L M N O,rfl,⟨_,_,_,b,S,I.hok.fresh (Yl _),l,rfl,rfl⟩,⟨y.key,y.val,q⟩,λc t=>?_⟩;have e:c=it:=by simpa using t
  rw[e];exact r
 done:=by
  intro X A hw B t i Q s σ H E I C st D;subst A hw B;obtain⟨ok,j,a⟩:=st;obtain⟨R,hd⟩:=D;have f:s.heap.get? d=Ya o:=(show s.heap.get? d=Ya o/\_ from I.hok d _ hd).1;obtain⟨J,L,f2,M,N,O⟩:=C it (by simp);exact GX.Mn (I.ok.hd t) a (u _ f) (by omega) λx eb=>⟨rfl,I.turned (t':=s.toks) (λb o l e=>eb b o l e) J L M N O⟩
 self:=λ_ _ _ _ _ ⟨ok,j,st⟩ h=>ahO st h
theorem FR{K:Yc}(sz:es.size=kvs.length)(l:∀h:YT,h.get? d=Ya o->GX.fS h d es ep):
  Turn P w K tg (Ad d o kvs) [it] it (λi h=>h.get? it=Ya (GX.yI d i es.size ep)) where
 mem:=by simp
 obj:=λi h st b a=>by
  have e:b=it:=by simpa using a
  subst e;exact⟨_,st,λv z=>by cases z⟩
 keep:=λi h g st k=>k it (by simp) _ st
 item:=by
  intro X m hw n C i D s σ H E I j st p;subst m hw n;obtain⟨F,hd⟩:=p;have c:s.heap.get? d=Ya o:=(show s.heap.get? d=Ya o/\_ from I.hok d _ hd).1;have G:kvs[i]?=Ya kvs[i]:=Yk F;obtain⟨_,S,J,q,_,r⟩:=uW I.hok (.inr ⟨o,hd⟩);obtain rfl:=DM (l _ c) q;obtain⟨y,b,L,M,a,T⟩:=r i kvs[i].1 kvs[i].2 G;obtain⟨t,u,N,x,A,B⟩:=j it (by simp);refine GX.AZ st (l _ c) L λg f O=>?_;have Q:aM X D σ H {s with heap:=g}:=I.turned (t':=s.toks) (λb o a e=>(O.2 b a).trans e) t u x A B;exact⟨_,rfl,Fz (s:={s with heap:=g}) f rfl rfl (by decide) ⟨.ref b,H,Q,M,⟨rfl,kvs[i].1,kvs[i].2,b,G,a,rfl⟩,f,λb a=>(j b a).1⟩⟩
 done:=by
  intro X m hw n C i D s σ H E I j st p;subst m hw n;obtain⟨F,hd⟩:=p;have c:s.heap.get? d=Ya o:=(show s.heap.get? d=Ya o/\_ from I.hok d _ hd).1;obtain⟨t,u,N,x,A,B⟩:=j it (by simp);exact GX.DI (I.ok.hd C) st (l _ c) (by omega) λg R=>⟨rfl,I.turned (t':=s.toks) (λb o a e=>R b o a e) t u x A B⟩
 self:=λ_ _ _ _ _ st h=>agJ ⟨_,st,rfl,rfl⟩ h
section
theorem aM.freezeT{c:List (Ye×uc)}{a:Hp}{b:Ym}(f:aM X c σ a b)(hd:a d=Ya (.dT kvs))(ho:b.heap.get? d=Ya o):aM X c σ (upd a d (.frz o (.dT kvs))) b:=
 f.write (t':=b.toks) (x:=d) (e:=d) (by rw[hd];trivial) (.inl rfl) (λ_ _ _ e=>e) ⟨o,ho⟩ ⟨ho,by
  obtain⟨z,y,h,i,j⟩:=(show cg X.prog X.w a _ d (.dT kvs)from f.hok d _ hd);exact⟨z,y,h,fm.mapP i λ_ _ ⟨k,g,l⟩=>⟨k,by rw[ak (bU g hd (by intro z;cases z))];exact g,l⟩,j⟩⟩
def HL(td:TE):TI:=λσ H R=>td σ H λx b=>∃d a,x=.ref d/\b d=Ya (.dT a)/\∀o,R (GR d o a) (upd b d (.frz o (.dT a)))
def Na(td:TE):TI:=λσ H R=>td σ H λx b=>∃d a,x=.ref d/\b d=Ya (.dT a)/\∀o,R (Ad d o a) (upd b d (.frz o (.dT a)))
theorem Kk{l m:abE}(p:PE X e td)(a:abk e "items" X.env (pk e X.env)=pk e X.env:=by rfl)(c:(l.endLine==m.line)=true:=by rfl):
  PI X (.Tuple Zw x1 tp) (.Call (.Attribute e "items" l) [] [] m) (HL td):=by
 intro n s σ H R I h;refine acf a c (cu (p n s σ H _ I h) λv f r=>?_);obtain⟨x,t,j,u,d,g,ex,hd,q⟩:=r;subst ex;obtain rfl:v=YG d:=u;obtain⟨w,y,z,rd,sz,_⟩:=uW j.hok (.inl hd);obtain⟨h1,h2⟩:=vI (T:="dict") j (x:=.ref d) rfl (.inr (.inr (.inl ⟨rfl,.inr ⟨g,hd⟩⟩)));refine⟨"dict","dict.items",aaQ,adq,afv,h1,h2,aaV rfl (ac0 ?_)⟩;refine GX.Ka w rd ?_;have i:GX.fS (f.heap.push {cls:=.type "dict_items",data:=.fields #[.ref d]}) d y z:=rd.at λo e=>Yh _ e;have A:aM X n σ t {f with heap:=f.heap.push {cls:=.type "dict_items",data:=.fields #[.ref d]}}:=j.kept (t':=f.toks) λb ob e=>Yh _ e;refine GX.Kv (Yv _ rfl) i ?_;have k:=A.freezeT hd i;refine⟨_,[_],_,GR d _ g,_,rfl,k.kept (t':=f.toks) λb ob e=>Yh _ e,Em sz (λ_ e=>e),⟨_,_,Yv _ rfl⟩,λb B=>?_,q _⟩;have C:b=(f.heap.push {cls:=.type "dict_items",data:=.fields #[.ref d]}).objs.size:=by simpa using B
 subst C;exact k.fpOk (Yl _) (k.hok.fresh (Yl _))
theorem DG(i:PE X e td):PI X tg e (Na td):=by
 intro j s σ H R I h;refine cu (i j s σ H _ I h) λv f k=>?_;obtain⟨x,p,g,l,d,a,ex,hd,q⟩:=k;subst ex;obtain rfl:v=YG d:=l;obtain⟨m,r,t,rd,sz,_⟩:=uW g.hok (.inl hd);refine GX.Ag m rd ?_;have c:=g.freezeT hd rd;refine⟨_,[_],_,Ad d _ a,_,rfl,c.kept (t':=f.toks) λb ob e=>Yh _ e,FR sz (λ_ e=>e),Yv _ rfl,λb n=>?_,q _⟩;have o:b=f.heap.objs.size:=by simpa using n
 subst o;exact c.fpOk (Yl _) (c.hok.fresh (Yl _))
end
def Th(b:Ye->uc->List (List bJ×V)->It)(x:V)(H:Hp)(R:It->Hp->Prop):Prop:=∃d a,x=.ref d/\H d=Ya (.dT a)/\∀o,R (b d o a) (upd H d (.frz o (.dT a)))
theorem Ki(h:td σ H λx a=>Th GR x a R):HL td σ H R:=h
theorem K9(h:td σ H λx a=>Th Ad x a R):Na td σ H R:=h
theorem GP{a:Ye->uc->List (List bJ×V)->It}(hd:H d=Ya (.dT kvs))(h:∀o A,A d=Ya (.frz o (.dT kvs))->K0 d H A->R (a d o kvs) A):Th a (.ref d) H R:=
 ⟨d,kvs,rfl,hd,λo=>h o _ ai λb u n e=>by rw[ak n];exact e⟩
theorem EX(c:Nat->St->Hp->Prop)(h0:c 0 σ H)(hl:∀i σ H,i<=kvs.length->c i σ H->H d=Ya (.frz o (.dT kvs)))(hs:∀i k v t b σ H l,kvs[i]?=Ya (k,v)->c i σ H->H t=Yb->aH H l->l t=Ya (.tup [.ref b,v])->H b=Ya (.tup (k.map kV))->fj g tt te D (c (i+ 1)) (.ref t) σ l)(hd:∀σ H,c kvs.length σ H->Qe H):
  ∃W:Nat->Nat->St->Hp->Prop,(∃m,W 0 m σ H)/\∀i m n f,W i m n f->((GR d o kvs).stop i f/\Qe f)∨((GR d o kvs).go i f/\∃N:St->Hp->Prop,(∀r s,N r s->∃u,u<m/\W (i+ 1) u r s)/\
   ∀x h,(GR d o kvs).yld i f x h->fj g tt te D N x n h):=by
 refine⟨λi m σ H=>m=kvs.length-i/\i<=kvs.length/\c i σ H,⟨kvs.length,by simp,Y9 _,h0⟩,?_⟩;rintro i m σ H ⟨rfl,z,p⟩;have q:=hl i σ H z p;by_cases j:i<kvs.length
 ·refine .inr ⟨⟨j,q⟩,c (i+ 1),λn f A=>⟨kvs.length-(i+ 1),by omega,rfl,j,A⟩,λx f y=>?_⟩;obtain⟨k,v,a,b,B,w,C,rfl,rfl⟩:=y;exact hs i k v a b σ _ _ B p w (aC w) ai C
 ·have e:i=kvs.length:=by omega
  subst e;exact .inl ⟨⟨Yl _,q⟩,hd σ H p⟩
theorem F2(a:Nat->St->Hp->Prop)(h0:a 0 σ H)(hl:∀i σ H,i<=kvs.length->a i σ H->H d=Ya (.frz o (.dT kvs)))(hs:∀i k v b σ H,kvs[i]?=Ya (k,v)->a i σ H->H b=Ya (.tup (k.map kV))->fj g tt te D (a (i+ 1)) (.ref b) σ H)(hd:∀σ H,a kvs.length σ H->Qe H):
  ∃W:Nat->Nat->St->Hp->Prop,(∃m,W 0 m σ H)/\∀i m j c,W i m j c->((Ad d o kvs).stop i c/\Qe c)∨((Ad d o kvs).go i c/\∃N:St->Hp->Prop,(∀l n,N l n->∃r,r<m/\W (i+ 1) r l n)/\
   ∀x f,(Ad d o kvs).yld i c x f->fj g tt te D N x j f):=by
 refine⟨λi m σ H=>m=kvs.length-i/\i<=kvs.length/\a i σ H,⟨kvs.length,by simp,Y9 _,h0⟩,?_⟩;rintro i m σ H ⟨rfl,s,p⟩;have q:=hl i σ H s p;by_cases h:i<kvs.length
 ·refine .inr ⟨⟨h,q⟩,a (i+ 1),λj c t=>⟨kvs.length-(i+ 1),by omega,rfl,h,t⟩,λx c y=>?_⟩;obtain⟨rfl,k,v,b,u,w,rfl⟩:=y;exact hs i k v b σ _ u p w
 ·have e:i=kvs.length:=by omega
  subst e;exact .inl ⟨⟨Yl _,q⟩,hd σ H p⟩
section
end
section
end
section
theorem Kr:Vk X "list.clear" (λx vs H Q=>∃l xs,x=.ref l/\vs=[]/\H l=Ya (.lst xs)/\Q .non (upd H l (.lst []))):=by
 intro f s σ H x vs v g Q I c d h;obtain⟨l,xs,rfl,rfl,b,q⟩:=h;cases c;cases d;obtain⟨z,a,n,r,hl,e⟩:=I.lstM b;refine acS afy ⟨_,e,rfl⟩ PySem.F.entry_list_clear (PySem.F.args_list_clear_1 _) (PySem.AutoSeq1.list_clear_list_0 l a.toArray n (by rw[Yz];omega)) ⟨e,?_⟩;exact⟨.non,_,I.lset (its':=[]) (ys:=[]) b e rfl .nil (Y9 _),rfl,q⟩
end
section
theorem OH(h:Q true s):Yq (Yt prog w) A (eqBool v v) Q E s:=by
 unfold eqBool;refine aau ?_;rw[if_pos (beq_self_eq_true v)];exact Yf (agA (Yp h))
def Kg(h:YT)(v:Yd)(k:List Int):Prop:=k≠[]/\∃a o b n,v=.ref a/\h.get? a=Ya o/\o.cls=.type "tuple"/\o.data=.seq b n/\∃c d,b.toList=c++d/\RW c k
theorem Kg.up{h':YT}(x:Kg h v k)(kp:∀b o,h.get? b=Ya o->h'.get? b=Ya o):Kg h' v k:=by
 obtain⟨c,a,o,d,n,e,f,g⟩:=x;exact⟨c,a,o,d,n,e,kp _ _ f,g⟩
theorem Ma{f g:Bool}:∀{ns a:List Int},ns.length=a.length->ns≠a->Ue f ns a=Ue g ns a
 |[],[],_,h=>absurd rfl h
 |[],_::_,e,_=>by cases e
 |_::_,[],e,_=>by cases e
 |x::ns,y::a,e,h=>by
  show(if x=y then _ else _)=if x=y then _ else _
  by_cases z:x=y
  ·rw[if_pos z,if_pos z];exact Ma (ade e) λw=>h (by rw[z,w])
  ·rw[if_neg z,if_neg z]
theorem Ez{f:Bool}:∀ns:List Int,Ue f ns ns=f
 |[]=>rfl
 |x::ns=>by
  show(if x=x then _ else _)=f;rw[if_pos rfl];exact Ez ns
theorem Qh{us:List Yd}:∀{xs ys:List Yd} {ns a:List Int} (i:Nat),RW xs ns->RW ys a->ns.length=a.length->ns≠a->Q (Ue fin ns a) s->agf prog w A b fin Q ((xs++us).zip (ys++vs)) i s:=by
 intro xs ys ns a i d
 induction d generalizing ys a i with
 |nil=>
  intro c e n _;cases c with
  |nil=>exact absurd rfl n
  |cons _ _ _=>cases e
 |cons x t r ih=>
  intro c e n h;cases c with
  |nil=>cases e
  |cons y u q=>
   refine afn (ae6 ?_);refine agg (λz=>afJ (ih (i:=i+ 1) q (ade e) (λw=>n (by rw[w,show x=y by simpa using z])) ?_)) λz=>aiO (HS ?_)
   ·have h:Q (if x=y then _ else _) s:=h;rw[if_pos (by simpa using z)]at h;exact h
   ·have h:Q (if x=y then _ else _) s:=h;rw[if_neg (by simpa using z)]at h;exact h
theorem EW{Q:Bool->Ym->Prop}{b fin:Bool}(h:Q fin s):∀(xs:List Yd) (i:Nat),agf prog w A b fin Q (xs.zip xs) i s
 |[],i=>afI h
 |x::xs,i=>by
  refine afn (OH ?_);exact agg (λ_=>afJ (EW h xs (i+ 1))) λz=>absurd z (by decide)
theorem Hv{x y:Yd}{l:List Int}(f:Kg s.heap x k)(g:Kg s.heap y l)(e:k.length=l.length)(ne:x=y∨k≠l)(i:x=y->k=l)(h:Q (GG k l) s):Yq (Yt prog w) A (keyLt' (agI b) x y) Q E s:=by
 obtain⟨_,a,o,D,n,rfl,c,F,d,G,H,j,m⟩:=f;rcases ne with z|z
 ·have p:=i z;subst z p;refine agh c d c d (EW ?_ _ 0);rw[decide_eq_false (Y8 _)];unfold GG at h;rw[Ez,decide_eq_false (Y8 _)]at h;exact h
 ·obtain⟨_,I,J,q,K,rfl,r,L,t,u,v,B,C⟩:=g;refine agh c d r t ?_;rw[j,B];refine Qh 0 m C e z ?_;unfold GG at h;rw[Ma e z]at h;exact h
theorem Au{h:YT}:∀{vs:List Yd},(∀v∈vs,∃k,Kg h v k)->∃fs:List Yd,aiu h vs fs/\(∀v∈fs,∃n t,v=abn n t)/\fs.length=vs.length
 |[],_=>⟨[],PySem.W.KatTups.nil,(λv b=>nomatch b),rfl⟩
 |v::vs,b=>by
  obtain⟨fs,h1,h2,h3⟩:=Au (vs:=vs) λv c=>b v (Yr _ c);obtain⟨k,e,a,o,g,n,rfl,i,j,l,x,y,m,p⟩:=b v Ys;obtain⟨u,q,f,tk,s⟩:∃u,g[0]?=Ya u/\∃f tk,u=abn f tk:=by
   rw[←vc,m];cases p with
   |nil=>exact absurd rfl e
   |cons f t r=>exact⟨_,rfl,_,_,rfl⟩
  refine⟨u::fs,PySem.W.KatTups.cons i j l q h1,λw d=>?_,by rw[Y5,Y5,h3]⟩;rcases Yn.mp d with z|z
  ·rw[z,s];exact⟨_,_,rfl⟩
  ·exact h2 w z
theorem MD:∀{vs:List Yd} {ns a:List Int},RW vs ns->RW vs a->ns=a:=by
 intro vs ns a w
 induction w generalizing a with
 |nil=>
  intro h;cases h;rfl
 |cons x t r ih=>
  intro h;cases h with|cons _ _ q=>rw[ih q]
def RH(ks:List (List Int))(vs:List Yd)(st:SortSt):Prop:=ahU st=Yb/\∃p,jI vs.length p/\vH ks vs.length p/\(arrOf st).map (·.2)=aan (p.toList.map λi=>vs.getD i aao)
theorem KG{κ:SortKind}(h2:vs.length<2):RH ks vs (SortSt.mk' κ (vs.toArray.zip vs.toArray) #[] 7 Yb):=by
 refine⟨rfl,aan (YR vs.length),ado _,AX h2,?_⟩;rw[show((aan (YR vs.length)).toList.map λi=>vs.getD i aao)=vs from jq vs _];show(vs.toArray.zip vs.toArray).map (·.2)=vs.toArray;apply ahV.mp;simpa using ahW (Yl _)
structure Ry(ks:List (List Int)):Prop where
 len:∃m,∀k∈ks,k.length=m
 nd:ks.Nodup
theorem Ry.lt(h:Ry ks){i j:Nat}(a:i<ks.length)(b:j<ks.length):(ks.getD i []).length=(ks.getD j []).length/\(i≠j->ks.getD i []≠ks.getD j []):=by
 obtain⟨m,hm⟩:=h.len;have e:∀i (a:i<ks.length),ks.getD i []=ks[i]:=λi a=>by rw[YJ,Yk a];rfl
 rw[e i a,e j b];refine⟨by rw[hm _ (aa5 a),hm _ (aa5 b)],λn z=>?_⟩;rcases aey n with w|w
 ·exact tq.mp h.nd i j a b w z
 ·exact tq.mp h.nd j i b a w z.symm
theorem Jj{Q:Unit×SortSt->Ym->Prop}(K:Ry ks)(lk:vs.length=ks.length)(h2:¬ vs.toArray.size<2)(h64:vs.length<64)(c:∀i,i<vs.length->Kg s.heap (vs.getD i .none) (ks.getD i []))(h:∀st,RH ks vs st->Q ((),st) s):
  Yq (Yt prog w) A (keyKind' vs.toArray) (λκ d=>Yq (Yt prog w) A (sortRuns'.run (SortSt.mk' κ (vs.toArray.zip vs.toArray) #[] 7 Yb)) Q E d) E s:=by
 rw[Yz]at h2;have m:∀v∈vs,∃k,Kg s.heap v k:=λv u=>by
  obtain⟨i,f⟩:=YS u;have:=c i (Yj.mp f).1;rw[YJ,f]at this;exact⟨_,this⟩
 obtain⟨fs,N,O,kl⟩:=Au m;refine ahX (T:=aaD "int") N (by omega) (λv u=>?_) (by decide) ?_
 ·obtain⟨n,t,rfl⟩:=O v u;exact agi rfl
 refine xi (aiv (Q:=λst d=>d=s/\ahU st=Yb/\∃p,(jI vs.length p/\vH ks vs.length p)/\arrOf st=p.map (ahY (vs.toArray.zip vs.toArray))) (G:=λp d=>d=s/\jI vs.length p/\vH ks vs.length p) rfl (by omega) h64 (λp st d _ x g l=>⟨l.1,g,p,l.2,x⟩) ?_) (λr d q=>?_) λ_ _ e=>e
 ·refine MA (n:=vs.length) (b:=λi j=>GG (ks.getD i []) (ks.getD j [])) (P:=λp=>jI vs.length p/\vH ks vs.length p) (λi j C f B D=>?_) (λp hp=>⟨rfl,hp⟩) _ (MC (by omega));unfold aiw;obtain⟨R,S⟩:=K.lt (i:=i) (j:=j) (by omega) (by omega);by_cases z:i=j
  ·subst z;exact Hv (c i f) (c i f) rfl (.inl rfl) (λ_=>rfl) D
  ·refine Hv (c i f) (c j B) R (.inr (S z)) (λw=>?_) D;have h1:=c i f;have h2:=c j B;rw[w]at h1;obtain⟨_,a,o,xs,n,U,V,e3,W,X,zs,Y,F⟩:=h1;obtain⟨_,a',o',Z,n',H,I,g3,J,y,ab,L,M⟩:=h2;rw[U]at H;cases H;rw[V]at I;cases I;rw[W]at J;cases J;rw[Y]at L;have ly:=pd F;have ac:=pd M;have:X=y:=(List.append_inj L (by omega)).1;subst this;exact MD F M
 obtain⟨rfl,x,p,g,l⟩:=q;exact h r.2 ⟨x,p,g.1,g.2,ahZ rfl l⟩
theorem yb{a:Ye}{n:Nat}{P:aea->Ym->Prop}(K:Ry ks)(lk:vs.length=ks.length)(ho:s.heap.get? a=Ya (seqObj "list" vs.toArray n))(h64:vs.length<64)(l:∀i,i<vs.length->Kg s.heap (vs.getD i .none) (ks.getD i []))(h:∀(h1:YT) (c:Nat) (p:Array Nat),jI vs.length p->vH ks vs.length p->(∀b o,b≠a->s.heap.get? b=Ya o->h1.get? b=Ya o)->h1.get? a=Ya (seqObj "list" (p.toList.map λi=>vs.getD i aao).toArray c)->P (.done (.ret .none)) {s with heap:=h1}):
  Yq (Yt prog w) A (aaa.«list.sort» ⟨[.ref a],[]⟩) P E s:=by
 rw[list_sort_plain];refine HH ho h64 λh2 e f r=>?_;have t:∀i,i<vs.length->Kg (h2.push (seqObj "list" #[] 0)) (vs.getD i .none) (ks.getD i []):=λi u=>by
  obtain⟨v,b,o,x,m,y,d,g,B⟩:=l i u;refine⟨v,b,o,x,m,y,Yh _ (f b o (λz=>?_) d),g,B⟩;rw[z,ho]at d;cases d;exact absurd (show aaD "list"=aaD "tuple"from g) (by decide)
 dsimp only;by_cases few:vs.toArray.size<2
 case' pos=>
  rw[if_pos few,if_pos few];refine Yf (Yp ?_);rw[StateT.run_pure];refine Yf (Yp ?_);have q:=KG (κ:=general') (ks:=ks) (vs:=vs) (by simpa using few);generalize SortSt.mk' general' (vs.toArray.zip vs.toArray) #[] 7 Yb=st at q⊢
 case' neg=>
  rw[if_neg few,if_neg few];refine Yf (xi (Jj (s:={s with heap:=h2.push (seqObj "list" #[] 0)}) K lk few h64 t λst q=>?_) (λκ I q=>Yf q) λ_ _ e=>e)
 all_goals
  obtain⟨C,p,j,D,F⟩:=q;have po:=LX j;dsimp only;rw[F];refine yL (Yh _ r) (by rw[Yz,po.length_eq,aaM];omega) λh4 c G H=>?_;rw[C]
  wp_walk
  exact h h4 c p j D (λb o k q=>G b o k (Yh _ (f b o k q))) H
theorem Cg{l:Ye}{Q:Yd->Ym->Prop}(K:Ry ks)(lk:vs.length=ks.length)(hl:s.heap.IsList l vs.toArray)(h64:vs.length<64)(d:∀i,i<vs.length->Kg s.heap (vs.getD i .none) (ks.getD i []))(h:∀(h1:YT) (c:Nat) (p:Array Nat),jI vs.length p->vH ks vs.length p->GX.qZ s.heap h1->h1.get? (s.heap.objs.size+ 1)=Ya (seqObj "list" (p.toList.map λi=>vs.getD i aao).toArray c)->Q (.ref (s.heap.objs.size+ 1)) {s with heap:=h1}):Yq (Yt prog w) A (call (.builtin "sorted") [.ref l]) Q E s:=
 Bo hl h64 (ag6 _) aiI λh1 a e=>yb K lk e h64 (λi f=>(d i f).up a) λh2 c p g j k m=>
  ⟨rfl,h h2 c p g j (λb o q=>k b o (YL (aba (Yw q))) (a b o q)) m⟩
end
theorem Df:∀{k:List Int} {r:List V} {us:List Yd},Vals (k.map V.int++r) us->∃ys zs,us=ys++zs/\RW ys k
 |[],_,us,_=>⟨[],us,rfl,.nil⟩
 |x::k,r,_,.cons h t=>by
  obtain⟨ys,zs,e,i⟩:=Df (k:=k) t;obtain⟨tk,a⟩:=h;rw[a,e];exact⟨_::ys,zs,rfl,.cons x tk i⟩
section
theorem Af:c6 X (.builtin "sorted") (λxs H Q=>∃(p:Ye) (vs:List V) (ks:List (List Int)),xs=[.ref p]/\bc X.K H p vs/\vs.length<64/\Ry ks/\fm (λv k=>k≠[]/\∃t r,v=.ref t/\bI X.K H t (k.map V.int++r)) vs ks/\∀(l:Ye) (g:List V),H l=Yb->tP ks vs g->Q (.ref l) (upd H l (.lst g))):=by
 intro Y s σ H xs Z Q I r h;obtain⟨p,vs,ks,rfl,hp,hl,K,j,q⟩:=h;obtain⟨u,rfl,z⟩:=dW r;cases z;obtain⟨a,b,A,hz⟩:=I.list hp;have m:=b.length;have lk:=Y7 j;have B:∀i,i<a.length->Kg s.heap (a.getD i .none) (ks.getD i []):=λi hi=>by
  have n:vs[i]?=Ya vs[i]:=Yk (by omega);obtain⟨k,C,D,t,r,E,F⟩:=dB j n;obtain⟨w,d,x⟩:=b.get n;rw[E]at x;rw[YJ,YJ,d,C];show Kg s.heap w k;rw[show w=YG t from x];obtain⟨ia,ra,G,_⟩:=I.tuple F;obtain⟨o,ho,J,L,hd⟩:=id G;obtain⟨M,N,O,P⟩:=Df ra;exact⟨D,t,o,_,L,rfl,ho,J,hd,M,N,O,P⟩
 refine Cg K (by omega) A.isList (by omega) B λh1 c e y R S T=>?_;obtain⟨U,W⟩:=EU b y;have f:tP ks vs (e.toList.map λi=>vs.getD i V.non):=⟨e,by rw[m];exact y,rfl,by rw[m];exact R⟩;refine⟨.ref (s.heap.objs.size+ 1),_,I.laid (o:=.lst (e.toList.map λi=>vs.getD i V.non)) (t':=s.toks) S (aaP _) ⟨by rw[U.length_eq,aaM];omega,_,c,W,T⟩,rfl,q _ _ (I.hok.fresh (aaP _)) f⟩
end
theorem qD{K:Yc}(b:X.K=K):c6 X (.builtin "sorted") (λxs H Q=>∃(p:Ye) (vs:List V) (ks:List (List Int)),xs=[.ref p]/\bc K H p vs/\vs.length<64/\Ry ks/\fm (λv k=>k≠[]/\∃t r,v=.ref t/\bI K H t (k.map V.int++r)) vs ks/\∀(l:Ye) (a:List V),H l=Yb->tP ks vs a->Q (.ref l) (upd H l (.lst a))):=by
 subst b;exact Af
end L2
namespace GX
open PySem PyProof.Rows
variable{i e n N j Zl:Nat}{x a:Ye}{t:ab5}{f:Nat->Int}{k:Int}{ow:Array (Option Nat)}{es:Array (Int×Yd)}{prog:YZ}{w:Y6}{A:xw}{E:Yd->Ym->Prop}{s:Ym}{Q:Bool->Ym->Prop}{h h':YT}{G:Ye->Prop}
noncomputable abbrev CN(m:Nat)(x:Nat×Nat):Nat×Nat:=adE m x.1 x.2
noncomputable abbrev fq{α:Type}(f:α->α):Nat->α->α
 |0,x=>x
 |n+ 1,x=>fq f n (f x)
theorem vC{α:Type}(f:α->α):∀(a b:Nat) (x:α),fq f (a+ b) x=fq f b (fq f a x):=by
 intro a
 induction a with
 |zero=>intro b x;rw[ad0]
 |succ a ih=>intro b x;rw[Nat.succ_add];exact ih b (f x)
noncomputable def Sh(m i:Nat):Nat:=(i*5+ 1)%(m+ 1)
noncomputable def L0(m:Nat):Nat->Nat->List Nat
 |0,_=>[]
 |n+ 1,i=>i::L0 m n (Sh m i)
theorem IB{m:Nat}:∀{n i e:Nat},e∈L0 m n i->∃k,k<n/\fq (Sh m) k i=e:=by
 intro n
 induction n with
 |zero=>intro i e h;cases h
 |succ n ih=>
  intro i e h;rcases Yn.mp h with z|z
  ·exact⟨0,by omega,z.symm⟩
  ·obtain⟨k,b,a⟩:=ih z;exact⟨k+ 1,by omega,a⟩
def QU(m:Nat):Prop:=m=7∨m=31∨m=127
theorem P0{m:Nat}(h:QU m):(∀e,e<m+ 1->e∈L0 m (m+ 1) 0)/\fq (Sh m) (m+ 1) 0=0:=by
 have a:∀m:Nat,((YR (m+ 1)).all λe=>(L0 m (m+ 1) 0).elem e)=true->∀e,e<m+ 1->e∈L0 m (m+ 1) 0:=λm h e b=>by
  have:=afl.mp h e (xu.mpr b);exact List.elem_iff.mp this
 rcases h with rfl|rfl|rfl
 ·exact⟨a 7 (by decide +kernel),by decide +kernel⟩
 ·exact⟨a 31 (by decide +kernel),by decide +kernel⟩
 ·exact⟨a 127 (by decide +kernel),by decide +kernel⟩
theorem LZ{m:Nat}(h:QU m)(g:i<m+ 1)(j:e<m+ 1):∃k,k<m+ 1/\fq (Sh m) k i=e:=by
 obtain⟨c,l⟩:=P0 h;obtain⟨a,ha,d⟩:=IB (c i g);obtain⟨b,n,f⟩:=IB (c e j);rcases abx b a with z|z
 ·refine⟨m+ 1+ b-a,by omega,?_⟩;rw[←d,←vC,show a+ (m+ 1+ b-a)=(m+ 1)+ b by omega,vC,l];exact f
 ·refine⟨b-a,by omega,?_⟩;rw[←d,←vC,show a+ (b-a)=b by omega];exact f
theorem Ta(m:Nat):∀(k:Nat) (x:Nat×Nat),(fq (CN m) k x).2=x.2 / 32^k:=by
 intro k
 induction k with
 |zero=>intro x;show x.2=x.2 / 1;rw[Nat.div_one]
 |succ k ih=>
  intro x;show(fq (CN m) k (CN m x)).2=_;rw[ih];show x.2 / 32 / 32^k=_;rw[Nat.div_div_eq_div_mul,ajh,Nat.mul_comm]
theorem PZ(m:Nat):∀(k i:Nat),fq (CN m) k (i,0)=(fq (Sh m) k i,0):=by
 intro k
 induction k with
 |zero=>intro i;rfl
 |succ k ih=>
  intro i;show fq (CN m) k (CN m (i,0))=_;have:CN m (i,0)=(Sh m i,0):=by
   show((i*5+ 1+ 0 / 32)%(m+ 1),0 / 32)=_;simp[Sh]
  rw[this];exact ih _
theorem VL{m:Nat}{x:Nat×Nat}(h:x.1<m+ 1):∀k,(fq (CN m) k x).1<m+ 1:=by
 intro k
 induction k generalizing x with
 |zero=>exact h
 |succ k ih=>exact ih (x:=CN m x) (adn _ (ab7 _))
theorem NF{m:Nat}(h:QU m){x:Nat×Nat}(a:x.1<m+ 1)(h2:x.2<2^64)(b:e<m+ 1):∃k,k<m+ 14/\(fq (CN m) k x).1=e:=by
 have z:fq (CN m) 13 x=((fq (CN m) 13 x).1,0):=by
  refine aem rfl ?_;rw[Ta];exact Nat.div_eq_of_lt (Y2 h2 (by decide))
 obtain⟨k,d,c⟩:=LZ h (VL a 13) b;refine⟨13+ k,by omega,?_⟩;rw[vC,z,PZ];exact c
noncomputable def FQ(m:Nat)(x:Nat×Nat):ab1:=⟨x.1,aav m x.1-x.1,x.1,x.2,Yb⟩
theorem Sl(m i:Nat):aav m i-i<=9:=by
 unfold aav;split<;>omega
theorem O2:∀(n j i q:Nat),fq t.advance (n+ 1) ⟨j,n,i,q,Yb⟩=FQ t.mask (CN t.mask (i,q)):=by
 intro n
 induction n with
 |zero=>
  intro j i q;show t.advance _=_;unfold adK;rw[if_neg (Y8 0)];rfl
 |succ n ih=>
  intro j i q;have:t.advance ⟨j,n+ 1,i,q,Yb⟩=⟨j+ 1,n,i,q,Yb⟩:=by
   unfold adK;rw[if_pos (ab7 _)];rfl
  show fq t.advance (n+ 1) (t.advance ⟨j,n+ 1,i,q,Yb⟩)=_;rw[this];exact ih _ _ _
theorem Rr:∀(k:Nat) (x:Nat×Nat),∃n,n<=10*k/\fq t.advance n (FQ t.mask x)=FQ t.mask (fq (CN t.mask) k x):=by
 intro k
 induction k with
 |zero=>intro x;exact⟨0,by omega,rfl⟩
 |succ k ih=>
  intro x;obtain⟨n,hn,a⟩:=ih (CN t.mask x);have:=Sl t.mask x.1;refine⟨aav t.mask x.1-x.1+ 1+ n,by omega,?_⟩;rw[vC];show fq t.advance n (fq t.advance (aav t.mask x.1-x.1+ 1) (FQ t.mask x))=_;have e:fq t.advance (aav t.mask x.1-x.1+ 1) (FQ t.mask x)=FQ t.mask (CN t.mask x):=O2 _ _ _ _;rw[e];exact a
theorem Ij(h:Int):xp h<2^64:=by
 unfold xp;have a:=aae h (show(2^64:Int)≠0 by decide);have b:=aag h (show(0:Int)<2^64 by decide);omega
theorem JA(t:ab5)(h:Int):t.probeStart h=FQ t.mask (xp h%(t.mask+ 1),xp h):=rfl
theorem JF(hm:QU t.mask)(h:Int)(a:e<t.mask+ 1):∃N,N<10*aas t.mask/\(fq t.advance N (t.probeStart h)).j=e:=by
 obtain⟨k,d,b⟩:=NF hm (x:=(xp h%(t.mask+ 1),xp h)) (adn _ (ab7 _)) (Ij h) a;obtain⟨n,hn,c⟩:=Rr (t:=t) k (xp h%(t.mask+ 1),xp h);refine⟨n,?_,?_⟩
 ·unfold aas;omega
 ·rw[JA,c];exact b
structure Tt(t:ab5)(n:Nat):Prop where
 m:QU t.mask
 r:Jd t.place
 sz:t.place.size=n
 le:∀x∈t.place.toList,x<=t.mask
 dm:t.dummies=#[]
 lt:n<=t.mask
variable{m:Nat}
theorem Tt.fits(h:Tt t n):t.fits n=true:=by
 unfold ai3 ai6;rw[h.dm,h.sz];simp[h.lt]
theorem Tt.way(h:Tt t n):t.gaveWay=false:=by
 unfold SetTable.gaveWay;rcases h.m with z|z|z<;>rw[z]<;>rfl
theorem CL(h:t.dummies=#[])(j:Nat):t.slot j=if t.place[cb t.place j]?==Ya j then .live (cb t.place j)else .empty:=by
 unfold ai2 ajm;rw[h];rfl
theorem nd_len{α:Type}[DecidableEq α]:∀{l m:List α},l.Nodup->(∀a∈l,a∈m)->l.length<=m.length:=by
 intro l
 induction l with
 |nil=>intro m _ _;exact Y9 _
 |cons a l ih=>
  intro m nd h;rw[BD]at nd;have ha:=h a Ys;have:=ih (m:=m.erase a) nd.2 λb c=>(acU λz:b=a=>nd.1 (z▸c)).mpr (h b (Yr _ c));rw[afo ha]at this;have:=afW ha;rw[Y5];omega
theorem Tt.free(h:Tt t n):∃e,e<t.mask+ 1/\t.slot e=.empty:=by
 have nd:t.place.toList.Nodup:=ajO (fun{a b} (z:a<b)=>YL z) h.r;have:∃e,e<t.mask+ 1/\e∉t.place.toList:=by
  refine ac5 λno=>?_;have d:∀e∈YR (t.mask+ 1),e∈t.place.toList:=λe c=>ac5 λz=>no ⟨e,xu.mp c,z⟩;have:=nd_len afp d;rw[oh,YO,h.sz]at this;have:=h.lt;omega
 obtain⟨e,c,ne⟩:=this;refine⟨e,c,?_⟩;rw[CL h.dm,if_neg];intro z;have z:t.place[cb t.place e]?=Ya e:=by simpa using z
 exact ne (abY.mpr (Array.mem_of_getElem? z))
theorem Tt.first(h:Tt t n)(k:Int):∃N,N<10*aas t.mask/\t.slot (fq t.advance N (t.probeStart k)).j=.empty/\∀i,i<N->t.slot (fq t.advance i (t.probeStart k)).j≠.empty:=by
 obtain⟨e,d,f⟩:=h.free;obtain⟨N,a,c⟩:=JF h.m k d;have:∃N,N<10*aas t.mask/\t.slot (fq t.advance N (t.probeStart k)).j=.empty:=⟨N,a,by rw[c];exact f⟩;clear a c N;obtain⟨N,a,g⟩:=this
 induction N using aix with
 |ind N ih=>
  by_cases z:∃i,i<N/\t.slot (fq t.advance i (t.probeStart k)).j=.empty
  ·obtain⟨i,b,j⟩:=z;exact ih i b (by omega) j
  ·exact⟨N,a,g,λi b y=>z ⟨i,b,y⟩⟩
theorem Vs:∀(n:Nat) (p:ab1),(fq t.advance n p).dummy=p.dummy:=by
 intro n
 induction n with
 |zero=>intro p;rfl
 |succ n ih=>intro p;exact(ih _).trans (vd t p)
theorem Tt.probe(h:Tt t n)(q:N<10*aas t.mask)(p:t.slot (fq t.advance N (t.probeStart k)).j=.empty)(lo:∀i,i<N->t.slot (fq t.advance i (t.probeStart k)).j≠.empty):
  ∀(d i:Nat),N=i+ d->t.probe f k (fq t.advance i (t.probeStart k))=Ya (.empty (fq t.advance N (t.probeStart k)).j Yb)∨
   ∃j,i<=j/\j<N/\∃l,t.slot (fq t.advance j (t.probeStart k)).j=.live l/\t.probe f k (fq t.advance i (t.probeStart k))=Ya (.candidate (fq t.advance j (t.probeStart k)).j l (fq t.advance (j+ 1) (t.probeStart k))):=by
 have go:∀(g d i:Nat),N=i+ d->d<g->abC t f k g (fq t.advance i (t.probeStart k))=Ya (.empty (fq t.advance N (t.probeStart k)).j Yb)∨
   ∃j,i<=j/\j<N/\∃l,t.slot (fq t.advance j (t.probeStart k)).j=.live l/\abC t f k g (fq t.advance i (t.probeStart k))=Ya (.candidate (fq t.advance j (t.probeStart k)).j l (fq t.advance (j+ 1) (t.probeStart k))):=by
  intro g
  induction g with
  |zero=>intro d i _ z;omega
  |succ g ih=>
   intro d i e hd;have m:t.advance (fq t.advance i (t.probeStart k))=fq t.advance (i+ 1) (t.probeStart k):=by
    rw[vC]
   unfold abC;by_cases z:d=0
   ·have:i=N:=by omega
    subst this
    left
    rw[p];show Ya (SetTable.Met.empty _ (fq t.advance i (t.probeStart k)).dummy)=_;rw[Vs];rfl
   ·have ne:=lo i (by omega);have o:=CL h.dm (fq t.advance i (t.probeStart k)).j;cases hs:t.slot (fq t.advance i (t.probeStart k)).j with
    |empty=>exact absurd hs ne
    |dummy=>
     rw[hs]at o;split at o<;>cases o
    |live l=>
     dsimp only;rw[m];split
     ·exact .inr ⟨i,Yl _,by omega,l,hs,rfl⟩
     ·rcases ih (d-1) (i+ 1) (by omega) (by omega)with y|⟨j,a,b,c⟩
      ·exact .inl y
      ·exact .inr ⟨j,by omega,b,c⟩
 intro d i e;exact go _ d i e (by omega)
theorem Qz:∀(a:Nat) (x:Nat×Nat),(∃k,k<a/\ow.getD (fq (CN m) k x).1 (Ya 0)=Yb)->∃j,abO m ow a x.1 x.2=Ya j/\ow.getD j (Ya 0)=none:=by
 intro a
 induction a with
 |zero=>rintro x ⟨k,b,_⟩;omega
 |succ a ih=>
  rintro x ⟨k,b,e⟩;unfold abO;cases hf:(YR (aav m x.1+ 1-x.1)).find? λk=>(ow.getD (x.1+ k) (Ya 0)).isNone with
  |some k'=>
   have:=aiy hf;exact⟨_,rfl,Option.isNone_iff_eq_none.mp this⟩
  |none=>
   cases k with
   |zero=>
    exfalso;have:=aez.mp hf 0 (xu.mpr (by
     have:x.1<=aav m x.1:=by unfold aav;split<;>omega
     omega))
    rw[ajj]at this;have e:ow.getD x.1 (Ya 0)=none:=e;rw[e]at this;exact this rfl
   |succ k=>exact ih (CN m x) ⟨k,by omega,e⟩
theorem Ug{β:Type}{g g':Nat->Option β}{b:β}(a:g j=Yb)(h1:g' j=Ya b)(h2:∀i,i≠j->g' i=g i):∀m,((YR m).filterMap g').Perm (if j<m then b::(YR m).filterMap g else(YR m).filterMap g):=by
 intro m
 induction m with
 |zero=>exact .nil
 |succ m ih=>
  rw[abw,agj,agj];by_cases z:m=j
  ·subst z;rw[if_neg (Y8 _)]at ih;rw[if_pos (aa2 _)];have c:[m].filterMap g'=[b]:=by simp[h1]
   have d:[m].filterMap g=[]:=by simp[a]
   rw[c,d,sq];exact(ih.append_right [b]).trans agk
  ·have e:[m].filterMap g'=[m].filterMap g:=by
    rw[abg,abg,h2 m z];rfl
   rw[e];by_cases y:j<m
   ·rw[if_pos y]at ih;rw[if_pos (by omega)];exact ih.append_right _
   ·rw[if_neg y]at ih;rw[if_neg (by omega)];exact ih.append_right _
def Lc(m k:Nat)(ow:Array (Option Nat)):Prop:=ow.size=m+ 1/\((YR (m+ 1)).filterMap λj=>ow.getD j Yb).Perm (YR k)
theorem Lc.free{k:Nat}(hm:QU m)(h:Lc m k ow)(hk:k<=m)(c:Int):∃j,abO m ow (aas m) (xp c%(m+ 1)) (xp c)=Ya j/\j<m+ 1/\ow.getD j Yb=none:=by
 obtain⟨sz,o⟩:=h;have:∃e,e<m+ 1/\ow.getD e Yb=none:=by
  refine ac5 λno=>?_;have p:∀e∈YR (m+ 1),∃x,ow.getD e Yb=Ya x:=λe f=>by
   cases q:ow.getD e Yb with
   |none=>exact absurd ⟨e,xu.mp f,q⟩ no
   |some x=>exact⟨x,rfl⟩
  have len:∀l:List Nat,(∀e∈l,∃x,ow.getD e Yb=Ya x)->(l.filterMap λj=>ow.getD j Yb).length=l.length:=by
   intro l
   induction l with
   |nil=>intro _;rfl
   |cons a l ih=>
    intro h;obtain⟨x,r⟩:=h a Ys;rw[abg,r];show _+ 1=_+ 1;rw[ih λe f=>h e (Yr _ f)]
  have a:=len _ p;have b:=o.length_eq;rw[oh]at a b;omega
 obtain⟨e,f,ne⟩:=this;have n:∀j d,j<m+ 1->ow.getD j d=ow.getD j none:=λj d g=>by
  have:j<ow.size:=by omega
  rw[YE,YE,YI this];rfl
 obtain⟨s,t,u⟩:=NF hm (x:=(xp c%(m+ 1),xp c)) (adn _ (ab7 _)) (Ij c) f;obtain⟨j,v,i⟩:=Qz (m:=m) (ow:=ow) (aas m) (xp c%(m+ 1),xp c) ⟨s,by unfold aas;omega,by rw[u,n e _ f];exact ne⟩;have g:j<m+ 1:=by
  rcases abx j (m+ 1)with z|z
  ·exact z
  ·rw[YE,aaG (by omega)]at i;cases i
 exact⟨j,v,g,by rw[←n j (Ya 0) g];exact i⟩
theorem Lc.put{k:Nat}(h:Lc m k ow)(a:j<m+ 1)(ne:ow.getD j Yb=Yb):Lc m (k+ 1) (ow.setIfInBounds j (Ya k)):=by
 obtain⟨sz,c⟩:=h;refine⟨by rw[Array.size_setIfInBounds];exact sz,?_⟩;have:=Ug (g:=λj=>ow.getD j Yb) (g':=λi=>(ow.setIfInBounds j (Ya k)).getD i Yb) (b:=k) ne ?_ (λi d=>?_) (m+ 1)
 ·rw[if_pos a]at this;refine this.trans ((c.cons k).trans ?_);rw[abw];exact agk (l₁:=[k])
 ·show(ow.setIfInBounds j (Ya k)).getD j Yb=Ya k;rw[YE,Array.getElem?_setIfInBounds_self_of_lt (by omega)];rfl
 ·show(ow.setIfInBounds j (Ya k)).getD i Yb=ow.getD i Yb;rw[YE,YE,Array.getElem?_setIfInBounds_ne (Ne.symm d)]
theorem JL(hm:QU m)(hs:Array Int)(hn:hs.size<=m):∃ow,aeS m hs=Ya ow/\Lc m hs.size ow:=by
 have go:∀(l:List Int) (ow:Array (Option Nat)) (k:Nat),Lc m k ow->k+ l.length<=m+ 1->∃b,(l.foldl (λc h=>do
   let (owner,k)←c;let j←abO m owner (aas m) (xp h%(m+ 1)) (xp h)
   pure (owner.setIfInBounds j (Ya k),k+ 1)) (Ya (ow,k)))=Ya (b,k+ l.length)/\Lc m (k+ l.length) b:=by
  intro l
  induction l with
  |nil=>intro ow k h _;exact⟨ow,rfl,h⟩
  |cons a l ih=>
   intro ow k h d;rw[Y5]at d;obtain⟨j,f,g,i⟩:=h.free hm (by omega) a;obtain⟨b,n,o⟩:=ih _ (k+ 1) (h.put g i) (by omega);refine⟨b,?_,?_⟩
   ·rw[abe,Y5,show k+ (l.length+ 1)=k+ 1+ l.length by omega,←n];congr 1;show(abO m ow (aas m) (xp a%(m+ 1)) (xp a) >>= λj=>pure (ow.setIfInBounds j (Ya k),k+ 1))=_;rw[f];rfl
   ·rw[Y5,show k+ (l.length+ 1)=k+ 1+ l.length by omega];exact o
 have p:Lc m 0 (afK (m+ 1) Yb):=by
  refine⟨Array.size_replicate,?_⟩;have:∀l:List Nat,(l.filterMap λj=>(afK (m+ 1) (Yb:Option Nat)).getD j Yb)=[]:=λl=>by
   rw[List.filterMap_eq_nil_iff];intro a _;rw[YE,Array.getElem?_replicate];split<;>rfl
  rw[this];exact .nil
 obtain⟨ow,e,q⟩:=go hs.toList (afK (m+ 1) Yb) 0 p (by rw[YO];omega);rw[YO,ad0]at e q;refine⟨ow,?_,q⟩;unfold aeS;rw[←Array.foldl_toList,e];rfl
theorem KZ(hm:QU (aar Zl-1))(hn:es.size<=aar Zl-1)(tb:Jd t.place):
  ∃t' o,t.relaid (es.map (·.1)) Zl=Ya (t',o)/\Tt t' es.size/\o.toList.Perm (YR es.size)/\t'.led=t.led/\t'.mask=aar Zl-1:=by
 obtain⟨ow,e,n,g⟩:=JL hm (es.map (·.1)) (by rw[aiQ];exact hn);rw[aiQ]at g;have k:∃t' o,t.relaid (es.map (·.1)) Zl=Ya (t',o):=by
  unfold afF agQ;rw[e];exact⟨_,_,rfl⟩
 obtain⟨t',o,a⟩:=k;have rs:=(AL (b:=t.led) ⟨tb,rfl⟩ a);have f:=a;unfold afF agQ at a;rw[e]at a;have a:=YK a;have d:t'=_:=(congrArg ahP a).symm;have h:o=_:=(congrArg Prod.snd a).symm;have i:o.toList.Perm (YR es.size):=by
  rw[h];show(aan _).toList.Perm _;rw[aeb,ag7];refine ajP (aiz ?_) g;congr 1;funext j;rw[af9];exact Option.map_id'
 have len:t'.place.size=o.size:=by
  rw[d,h];show(aan _).size=(aan _).size;rw[Yz,Yz,Yg,Yg]
 have lo:o.size=es.size:=by
  have:=i.length_eq;rw[oh,YO]at this;exact this
 have mk:t'.mask=aar Zl-1:=by rw[d]
 refine⟨t',o,f,⟨by rw[mk];exact hm,rs.1,len.trans lo,λx c=>?_,by rw[d],by rw[mk];exact hn⟩,i,rs.2,mk⟩;rw[d]at c;have c:x∈(aan _).toList:=c;rw[aeb]at c;obtain⟨p,hp,rfl⟩:=YC.mp c;obtain⟨j,l,m⟩:=acj.mp hp;obtain⟨y,_,rfl⟩:=aaF.mp m;rw[mk];have:=xu.mp l;show j<=_;omega
theorem Tt.met(h:Tt t n)(j:N<10*aas t.mask)(m:t.slot (fq t.advance N (t.probeStart k)).j=.empty)(lo:∀i,i<N->t.slot (fq t.advance i (t.probeStart k)).j≠.empty){d:Nat}(e:N=i+ d){p:ab1}{r:Option SetTable.Met}(hp:t.probe f k p=r)(ep:p=fq t.advance i (t.probeStart k)):
  r=Ya (.empty (fq t.advance N (t.probeStart k)).j Yb)∨∃g,i<=g/\g<N/\∃l,t.slot (fq t.advance g (t.probeStart k)).j=.live l/\r=Ya (.candidate (fq t.advance g (t.probeStart k)).j l (fq t.advance (g+ 1) (t.probeStart k))):=by
 subst ep;rcases h.probe (f:=f) j m lo d i e with y|⟨g,a,b,l,c,y⟩
 ·exact .inl (hp.symm.trans y)
 ·exact .inr ⟨g,a,b,l,c,hp.symm.trans y⟩
theorem Tt.put(h:Tt t n)(c:t.slot j=.empty)(le:j<=t.mask)(d:n*5<t.mask*3):Tt (t.put j).1 (n+ 1)/\(t.put j).1.led=t.led/\(t.put j).1.mask=t.mask/\(t.put j).1.plain=t.plain:=by
 have off:=yC (t:=t) (j:=j) λi z=>by rw[c]at z;cases z
 have a:(t.put j).1.place=acA t.place (cb t.place j) j:=rfl;refine⟨⟨h.m,HG h.r off,?_,λx b=>?_,?_,?_⟩,rfl,rfl,rfl⟩
 ·rw[a];have:=(ady t.place (cb t.place j) j).length_eq;rw[YO,acB,Yu,YO,h.sz]at this;exact this
 ·rw[a]at b;have:=(ady t.place (cb t.place j) j).mem_iff.mp b;rw[acB]at this;show x<=t.mask;rcases YM.mp this with z|z
  ·exact h.le x z
  ·rw[Yi.mp z];exact le
 ·show(if ajm t.dummies j then _ else t.dummies)=#[];rw[h.dm];rfl
 ·show n+ 1<=t.mask;rcases h.m with z|z|z<;>rw[z]at d⊢ <;>omega
section
variable{K:Type}[DecidableEq K]{knd:acZ prog w K}
theorem Et{ks:List K}(hk:aad knd s.heap ks a)(h:Q false s):Yq (Yt prog w) A (aeV 8 (.ref a)) Q E s:=by
 have i:=hk.typeIs;obtain⟨o,c,n,ho,_,hd,j⟩:=hk;unfold aeV;refine Yf (ag8 i ?_);dsimp only;rw[if_pos (by rfl)];refine Yf (Yp ?_);simp only[adF,nh,if_false];refine Yf (acI ho hd ?_);dsimp only;refine Yf ?_;rw[←ahd];refine adI _ (λg r s'=>r.1=Yb/\s'=s/\∀v∈g,aen v=true) _ ?_ ?_ _ _ ⟨rfl,rfl,j.byValue⟩
 ·rintro v g r s' ⟨d,rfl,b⟩;have k:=b v Ys;have e:aeV 7 v=pure false:=by
   cases v with
   |ref a=>simp[aen]at k
   |_=>rfl
  rw[e];refine Yf (Yp ?_);simp only[nh,if_false];exact Yp ⟨rfl,rfl,λu f=>b u (Yr _ f)⟩
 ·rintro⟨l,m⟩ s' ⟨d,rfl,_⟩;simp only at d;subst d;exact Yp h
theorem SS{i:List K}{st:List Yd}(f:aad knd s.heap i x)(c:∀v∈st,∃k b,v=.ref b/\aad knd s.heap k b)(h:Q false s):Yq (Yt prog w) A (ahy (.ref x) st) Q E s:=by
 unfold ahy;refine Yf ?_;refine adI _ (λd r s'=>r.1=Yb/\s'=s/\∀v∈d,∃k b,v=.ref b/\aad knd s.heap k b) _ ?_ ?_ _ _ ⟨rfl,rfl,c⟩
 ·rintro v d r s' ⟨e,rfl,a⟩;obtain⟨k,b,rfl,g⟩:=a v Ys;have go:∀u∈d,∃k b,u=.ref b/\aad knd s'.heap k b:=λu j=>a u (Yr _ j);dsimp only;split
  ·exact Yp ⟨rfl,rfl,go⟩
  ·refine Yf (agl f ?_);simp only[adF,nh,if_false];refine Yf (agl g ?_);simp only[adF,nh,if_false];refine Yf (Et f ?_);simp only[nh,if_false];refine Yf (Et g ?_);simp only[nh,if_false];exact Yp ⟨rfl,rfl,go⟩
 ·rintro⟨l,m⟩ s' ⟨e,rfl,_⟩;simp only at e;subst e;exact Yp h
theorem FN{o:uc}{ep:Nat}{D:List K}{Q:SetFound->Ym->Prop}(F:A.units<aap)(ho:s.heap.get? a=Ya o)(hd:o.data=.set es ep t)(T:Tt t es.size)(p:aad knd s.heap D x)(j:∀e∈es.toList,∃k b,e.2=.ref b/\aad knd s.heap k b/\k≠D){h:Int}(G:N<10*aas t.mask)(H:t.slot (fq t.advance N (t.probeStart h)).j=.empty)(lo:∀i,i<N->t.slot (fq t.advance i (t.probeStart h)).j≠.empty)(q:Q (.free (fq t.advance N (t.probeStart h)).j false) s):∀(d i c:Nat) (st:Option ab1),N=i+ d->d<c->st.getD (t.probeStart h)=fq t.advance i (t.probeStart h)->Yq (Yt prog w) A (ai7 a (.ref x) h true c st) Q E s:=by
 intro d
 induction d using aix with
 |ind d ih=>
  intro i c st e I u;obtain⟨c,rfl⟩:∃f,c=f+ 1:=⟨c-1,by omega⟩;unfold ai7;refine Yf (aaf ho hd T.fits ?_);dsimp only;rw[T.way];simp only[nh,if_false];generalize hp:t.probe _ h (st.getD (t.probeStart h))=r;rcases T.met G H lo e hp u with rfl|⟨g,L,M,l,hs,rfl⟩
  ·dsimp only;exact Yp q
  ·dsimp only;have lt:l<es.size:=by
    rw[CL T.dm]at hs;split at hs
    ·rename_i z;cases hs;have z:t.place[cb t.place (fq t.advance g (t.probeStart h)).j]?=Ya (fq t.advance g (t.probeStart h)).j:=by simpa using z
     rw[←T.sz];exact(Array.getElem?_eq_some_iff.mp z).1
    ·cases hs
   obtain⟨k,b,y,m,ne⟩:=j es[l] (abY.mpr (Array.getElem_mem lt));have n:es[l]?=Ya (es[l].1,.ref b):=by rw[YI lt,←y]
   cases hl:t.led with
   |true=>
    simp only[adF,nh,if_false];rw[n];dsimp only;refine Yf (aau (ahe F m p ?_));rw[decide_eq_false ne];refine Yf (aaf ho hd T.fits ?_);dsimp only;simp only[aei,nh,if_false];have B:t.sameMemory t.moves t.mask=Ya true:=by
     unfold agY;rw[if_pos (by simp)]
    rw[B];dsimp only;rw[if_pos rfl,hs];dsimp only;rw[n];dsimp only;refine Yf (agm ?_);refine Yf (Yp ?_);rw[if_pos rfl];dsimp only;exact ih (N-(g+ 1)) (by omega) (g+ 1) c (Ya _) (by omega) (by omega) rfl
   |false=>
    simp only[agn,if_true];refine Yf (SS p (λv J=>?_) ?_)
    ·obtain⟨e,C,rfl⟩:=YC.mp J;have C:e∈es.toList:=by
      have:=abY.mp C;exact abY.mpr (Array.mem_filter.mp this).1
     obtain⟨k,b,y,m,_⟩:=j e C;exact⟨k,b,y,m⟩
    ·simp only[nh,if_false];rw[n];dsimp only;refine Yf (aau (ahe F m p ?_));rw[decide_eq_false ne];refine Yf (aaf ho hd T.fits ?_);dsimp only;simp only[aei,nh,if_false];have B:t.sameMemory t.moves t.mask=Ya true:=by
      unfold agY;rw[if_pos (by simp)]
     rw[B];dsimp only;rw[if_pos rfl,hs];dsimp only;rw[n];dsimp only;refine Yf (agm ?_);refine Yf (Yp ?_);rw[if_pos rfl];dsimp only;exact ih (N-(g+ 1)) (by omega) (g+ 1) c (Ya _) (by omega) (by omega) rfl
theorem RF{o:Array Nat}(a:o.toList.Perm (YR es.size)):((o.filterMap (es[·]?)).toList).Perm es.toList:=by
 have e:(o.filterMap (es[·]?)).toList=o.toList.filterMap (es[·]?):=by simp
 rw[e];refine(a.filterMap _).trans (aiz ?_);exact filterMap_getElem?_range es
theorem J1{n:Nat}{Q:Unit->Ym->Prop}(r:qY s.heap a es t)(T:Tt t es.size)(hm:QU (aar Zl-1))(hn:es.size<=aar Zl-1)(hl:aar Zl<=YB)(hz:es.size<abG)(h:∀h' b t',aab a s.heap h'->qY h' a b t'->b.toList.Perm es.toList->Tt t' b.size->t'.mask=aar Zl-1->Q () {s with heap:=h'}):Yq (Yt prog w) A (ah1 a Zl) Q E s:=by
 obtain⟨o,j,ho,k,hd⟩:=id r;obtain⟨t',od,e,d,c,_,mk⟩:=KZ (t:=t) (es:=es) hm hn T.r;unfold ah1;refine Yf (aaf ho hd T.fits ?_);dsimp only;rw[if_neg (by omega),e];have sz:(od.filterMap (es[·]?)).size=es.size:=by
  have:=(RF c).length_eq;rw[YO,YO]at this;exact this
 refine Yf ?_;change Yq (Yt prog w) A (ite _ _ _) _ _ _;rw[if_neg (by rw[sz];simp)];refine Yp ?_;dsimp only;have f:(od.filterMap (es[·]?)).size<abG:=by rw[sz];exact hz
 refine qY.put r f λh' g i=>h h' _ _ g i (RF c) (by rw[sz];exact d) mk
theorem U8:∀(n:Nat) {p:ab1},p.j+ p.more<=t.mask->(fq t.advance n p).j+ (fq t.advance n p).more<=t.mask:=by
 intro n
 induction n with
 |zero=>intro p h;exact h
 |succ n ih=>
  intro p h;refine ih (p:=t.advance p) ?_;unfold adK;split
  ·rename_i z;show p.j+ 1+ (p.more-1)<=t.mask;omega
  ·show(adE t.mask p.i p.perturb).1+ (aav t.mask (adE t.mask p.i p.perturb).1-(adE t.mask p.i p.perturb).1)<=t.mask;have:(adE t.mask p.i p.perturb).1<t.mask+ 1:=adn _ (ab7 _);unfold aav;split<;>omega
theorem Nd(t:ab5)(h:Int):(t.probeStart h).j+ (t.probeStart h).more<=t.mask:=by
 show xp h%(t.mask+ 1)+ (aav t.mask (xp h%(t.mask+ 1))-xp h%(t.mask+ 1))<=t.mask;have:xp h%(t.mask+ 1)<t.mask+ 1:=adn _ (ab7 _);unfold aav;split<;>omega
theorem Mm{ks:List K}(hk:aad knd s.heap ks a)(h:∀b,Q b s):Yq (Yt prog w) A (ahF 8 (.ref a)) Q E s:=by
 have i:=hk.typeIs;obtain⟨o,d,n,ho,_,hd,j⟩:=hk;unfold ahF;refine Yf (afD i F.slot_tuple_hash.lookup ?_);dsimp only;refine Yf (acI ho hd ?_);refine Yf ?_;show Yq _ _ (forIn d _ _) _ _ s;rw[←ahd];refine adI _ (λg r s'=>s'=s/\∀v∈g,aen v=true) _ ?_ ?_ _ _ ⟨rfl,j.byValue⟩
 ·rintro v g r s' ⟨rfl,c⟩;have k:=c v Ys;have e:∃b,ahF 7 v=pure b:=by
   cases v with
   |ref a=>simp[aen]at k
   |_=>exact⟨_,rfl⟩
  obtain⟨b,e⟩:=e;rw[e];refine Yf (Yp ?_);cases b
  ·simp only[agn,if_true];exact Yp (Yp (h _))
  ·simp only[adF,nh,if_false];exact Yp ⟨rfl,λu f=>c u (Yr _ f)⟩
 ·rintro⟨l,m⟩ s' ⟨rfl,_⟩;cases l with
  |none=>exact Yp (h _)
  |some r=>exact Yp (h _)
structure DN(knd:acZ prog w K)(G:Ye->Prop)(h:YT)(a:Ye)(ks:List (List K)):Prop where
 ob:∃es t,qY h a es t/\Tt t es.size/\es.size*5<t.mask*3/\es.size=ks.length/\∀e∈es.toList,∃k b,e.2=.ref b/\aad knd h k b/\k∈ks/\G b
theorem qQ{k:List K}{b:Ye}(x:aad knd h k b)(e:∀o,h.get? b=Ya o->h'.get? b=Ya o):aad knd h' k b:=by
 obtain⟨o,a,n,ho,r⟩:=x;exact⟨o,a,n,e o ho,r⟩
theorem DN.at{ks:List (List K)}(S:DN knd G h a ks)(g:∀o,h.get? a=Ya o->h'.get? a=Ya o)(i:∀b o,G b->h.get? b=Ya o->h'.get? b=Ya o):DN knd G h' a ks:=by
 obtain⟨j,t,⟨o,l,m,n⟩,T,f,sz,c⟩:=S.ob;refine⟨j,t,⟨o,l,g o m,n⟩,T,f,sz,λe p=>?_⟩;obtain⟨k,b,r,s,u,d⟩:=c e p;exact⟨k,b,r,qQ s λo q=>i b o d q,u,d⟩
theorem LW{b:Array (Int×Yd)}{d:ab5}(r:qY s.heap a es t)(hz:b.size<abG)(e:b.size=es.size+ 1)(T:Tt t es.size)(f:es.size*5<t.mask*3)(u:es.size+ 1<=60)(c:Tt d (es.size+ 1))(g:d.mask=t.mask)(h:∀h' k t',aab a s.heap h'->qY h' a k t'->k.toList.Perm b.toList->Tt t' k.size->k.size*5<t'.mask*3->Q true {s with heap:=h'}):
  Yq (Yt prog w) A (aje a b d >>= λ_=>if(!false&&d.tooFull)=true then ah1 a (adm (es.size+ 1)) >>= λ_=>pure true else pure true) Q E s:=by
 refine Yf (qY.put r hz λh1 i v=>?_);have B:d.tooFull=decide ((es.size+ 1)*5≥t.mask*3):=by
  unfold SetTable.tooFull ai6;rw[c.dm,c.sz,g];rfl
 rw[B,agn,adB];by_cases z:(es.size+ 1)*5≥t.mask*3
 ·rw[if_pos (decide_eq_true z)];have gr:adm (es.size+ 1)=(es.size+ 1)*4:=by
   unfold adm;rw[if_neg (by omega)]
  have md:(es.size=4/\aar ((es.size+ 1)*4)=32)∨(es.size=18/\aar ((es.size+ 1)*4)=128):=by
   rcases T.m with y|y|y<;>rw[y]at z f
   ·have:es.size=4:=by omega
    exact .inl ⟨this,by rw[this];decide⟩
   ·have:es.size=18:=by omega
    exact .inr ⟨this,by rw[this];decide⟩
   ·omega
  rw[gr];have F:(128:Nat)<=YB:=by decide
  refine Yf (J1 (s:={s with heap:=h1}) (n:=0) v (by rw[e];exact c) ?_ ?_ ?_ hz λh2 j l m C x o p=>?_)
  ·rcases md with⟨_,y⟩|⟨_,y⟩<;>rw[y]
   ·exact .inr (.inl rfl)
   ·exact .inr (.inr rfl)
  ·rw[e];rcases md with⟨q,y⟩|⟨q,y⟩<;>rw[y]<;>omega
  ·rcases md with⟨_,y⟩|⟨_,y⟩<;>rw[y]<;>omega
  ·refine Yp (h h2 j l (i.trans m) C x o ?_);have D:j.size=es.size+ 1:=by
    have:=x.length_eq;rw[YO,YO,e]at this;exact this
   rw[D,p];rcases md with⟨q,y⟩|⟨q,y⟩<;>rw[y]<;>omega
 ·rw[if_neg (by rw[decide_eq_false z];decide)];exact Yp (h h1 _ d i v (.refl _) (by rw[e];exact c) (by rw[e,g];omega))
theorem OD{ks:List (List K)}{g:List K}(X:A.units<aap)(P:∀b,G b->b≠a)(S:DN knd G s.heap a ks)(u:aad knd s.heap g x)(nx:g∉ks)(R:G x)(U:ks.length+ 1<=60)(h:∀h',aab a s.heap h'->DN knd G h' a (ks++[g])->Q true {s with heap:=h'}):Yq (Yt prog w) A (afi a (.ref x) (tupleKeyHash knd g)) Q E s:=by
 obtain⟨c,t,r,T,f,sz,m⟩:=S.ob;obtain⟨o,ep,ho,hX,hd⟩:=id r;generalize tupleKeyHash knd g=hk;obtain⟨N,v,B,lo⟩:=T.first hk;rw[afi,aiJ];apply aau;refine Yf (aaf ho hd T.fits ?_);dsimp only;have bs:byScan (.ref x) c=false:=rfl;rw[bs];simp only[nh,if_false];have le:(fq t.advance N (t.probeStart hk)).j<=t.mask:=by
  have:=U8 N (Nd t hk);omega
 generalize ej:(fq t.advance N (t.probeStart hk)).j=j at B le;obtain⟨i,ml,mk,mp⟩:=T.put B le f;have Y:∀b:Bool,Tt (if b=true then(t.put j).1 else{(t.put j).1 with plain:=false}) (c.size+ 1):=λb=>by
  cases b
  ·exact⟨i.m,i.r,i.sz,i.le,i.dm,i.lt⟩
  ·exact i
 have C:=ady c (t.put j).2 (hk,YG x);rw[acB]at C;have V:(acA c (t.put j).2 (hk,YG x)).size=c.size+ 1:=by
  have:=C.length_eq;rw[YO,Yu,YO]at this;exact this
 have Z:(acA c (t.put j).2 (hk,YG x)).size<abG:=by
  rw[V];show _<4096;omega
 have done:∀h' d l,aab a s.heap h'->qY h' a d l->d.toList.Perm (c.toList++[(hk,YG x)])->Tt l d.size->d.size*5<l.mask*3->DN knd G h' a (ks++[g]):=λh' d l n D p F H=>by
  have I:d.size=c.size+ 1:=by
   have:=p.length_eq;rw[YO,Yu,YO]at this;exact this
  refine⟨d,l,D,F,H,by rw[I,sz,Yu];rfl,λe J=>?_⟩;rcases YM.mp (p.mem_iff.mp J)with z|z
  ·obtain⟨k,b,L,M,O,W⟩:=m e z;exact⟨k,b,L,qQ M λo q=>(n.2 b (P b W)).trans q,YU _ O,W⟩
  ·rw[Yi.mp z];exact⟨g,x,rfl,qQ u λo q=>(n.2 x (P x R)).trans q,YH _ (Yi.mpr rfl),R⟩
 have fin:∀b:Bool,Yq (Yt prog w) A (aje a (acA c (t.put j).2 (hk,YG x)) (if b=true then(t.put j).1 else{(t.put j).1 with plain:=false}) >>= λ_=>if(!false&&(if b=true then(t.put j).1 else{(t.put j).1 with plain:=false}).tooFull)=true then ah1 a (adm (c.size+ 1)) >>= λ_=>pure true else pure true) Q E s:=λb=>
  LW r Z V T f (by omega) (Y b) (by cases b<;>exact mk) λh' d l n D p F H=>h h' n (done h' d l n D (p.trans C) F H)
 have N1:N<100000:=by
  unfold aas at v;rcases T.m with y|y|y<;>rw[y]at v<;>omega
 refine Yf (FN X ho hd T u (λe J=>?_) v (by rw[ej];exact B) lo ?_ N 0 100000 Yb (by omega) N1 rfl)
 ·obtain⟨k,b,L,M,O,_⟩:=m e J;exact⟨k,b,L,M,λz=>nx (z▸O)⟩
 ·rw[ej];dsimp only;refine Yf (aaf ho hd T.fits ?_);dsimp only;split
  ·refine Yf (Mm u λb=>?_);exact fin b
  ·refine Yf (Yp ?_);exact fin true
end
section
variable{K:Type}[DecidableEq K]{knd:acZ prog w K}
theorem JQ{R:ack->Ym->Prop}{I S:Ye}{fp f:List Ye}{P:Nat->Yd->Prop}{St:Nat->YT->Prop}(B:A.in1.units<aap)(W:aeY prog w A.in1 I fp f n P St)(C:S∉fp)(D:∀b,G b->b≠S)(l:∀b,G b->b∉f)(kv:Nat->List K)(inj:∀i j,i<j->j<n->kv i≠kv j)(E:n<=60):
  ∀(k i:Nat) (s:Ym),n=i+ k->St i s.heap->DN knd G s.heap S ((YR i).map kv)->(∀i v,i<n->P i v->∃b,v=.ref b/\G b/\aad knd s.heap (kv i) b)->
   (∀h' tk,(∀b o,b∉f->b≠S->s.heap.get? b=Ya o->h'.get? b=Ya o)->DN knd G h' S ((YR n).map kv)->R (.ok (.ret .none)) {s with heap:=h',toks:=tk})->
   Rk (Yt prog w) A (.builtin "set.update.loop" ⟨[.ref S,.ref I],[]⟩) R s:=by
 have F:S∉f:=λz=>C (W.sub _ z);intro k
 induction k with
 |zero=>
  intro i s H st x p fin;obtain rfl:n=i:=H;refine enter aa6 aaE (uf S I) (W.done s _ _ st λh tk kp=>fin h tk (λb o m _ e=>kp b o m e) ?_);exact x.at (λo e=>kp S o F e) λb o g e=>kp b o (l b g) e
 |succ k ih=>
  intro i s H st x p fin;refine enter aa6 aaE (uf S I) (W.item i s _ _ (by omega) st λv h tk pv q kp=>?_);obtain⟨b,rfl,J,L⟩:=p i v (by omega) pv;show Yq _ _ (aio S (.ref b)) _ _ _;unfold aio;have a:aad knd h (kv i) b:=qQ L λo e=>kp b o (l b J) e;refine aau (Yf (wpAny_pyHash_tuple B a (OD (s:={s with heap:=h,toks:=tk+ ((kv i).length+ 1)}) B D (x.at (λo e=>kp S o F e) λb o g e=>kp b o (l b g) e) a ?_ J ?_ λh2 r M=>?_)))
  ·intro z;obtain⟨j,t,e⟩:=YC.mp z;exact inj j i (xu.mp t) (by omega) e
  ·rw[Yg,oh];omega
  refine ih (i+ 1) {s with heap:=h2,toks:=tk+ ((kv i).length+ 1)} (by omega) (W.frame _ _ _ q λb E o e=>(r.2 b λz=>C (z▸E)).trans e) ?_ (λj v t N=>?_) λh3 u O Q=>fin h3 u (λb o m d e=>O b o m d ((r.2 b d).trans (kp b o m e))) Q
  ·rw[abw,Yx];exact M
  ·obtain⟨c,T,y,U⟩:=p j v t N;exact⟨c,T,y,qQ U λo e=>(r.2 c (D c y)).trans (kp c o (l c y) e)⟩
theorem Bx{l:Ye}{items:Array Yd}{kv:Nat->List K}{Q:Yd->Ym->Prop}(W:A.units+ 8<aap)(D:A.handled=Yb)(hl:s.heap.IsList l items)(F:∀i v,items[i]?=Ya v->∃b,v=.ref b/\aad knd s.heap (kv i) b)(inj:∀i j,i<j->j<items.size->kv i≠kv j)(H:items.size<=60)
  (h:∀h' tk,(∃o es ep t,h'.get? s.heap.objs.size=Ya o/\o.ExactSet/\o.data=.set es ep t/\es.size=items.size/\t.fits es.size=true)->(∀b o,s.heap.get? b=Ya o->h'.get? b=Ya o)->Q (.ref s.heap.objs.size) {s with heap:=h',toks:=tk}):
  Yq (Yt prog w) A (call (.type "set") [.ref l]) Q E s:=by
 obtain⟨⟨X,od,I,k⟩,d,m,u,p⟩:=id hl;cases m;cases p;have y:l<s.heap.objs.size:=Yw d;refine wV adf (afT _) (IG (.ref l) (Q1:=λv J=>v=.ref s.heap.objs.size/\J={s with heap:=tQ w s.heap}) ⟨rfl,rfl⟩) ?_;rintro _ _ ⟨rfl,rfl⟩;have new:(tQ w s.heap).get? s.heap.objs.size=Ya {cls:=.type "set",dict:=Yb,data:=.set #[] 0 (.fresh 0 0 (!FJ w))}:=Yv _ rfl;have f:(tQ w s.heap).get? l=Ya {cls:=.type "list",dict:=od,data:=.seq items u,slots:=k}:=Yh _ d;have a:(tQ w s.heap).objs.size=s.heap.objs.size+ 1:=aaU ..;have ty:GV {s with heap:=tQ w s.heap} (.ref s.heap.objs.size) "set":=⟨_,new,rfl⟩;refine⟨ty,aaS adf.init.plain afU (ahR ty ?_)⟩;have:=agB;have:=aeC;have nd:(aaD "list"==aaD "dict")=false:=by decide
 have c:∀b o,s.heap.get? b=Ya o->(tQ w s.heap).get? b=Ya o:=λb o e=>Yh _ e;generalize tQ w s.heap=h1 at new f a ty c⊢;have B:h1.IsList l items:=⟨_,f,rfl,u,rfl⟩
 wp_walk using aaY B
 have L:s.heap.objs.size∉[h1.objs.size,l]:=by
  rw[a];intro z;rcases Yn.mp z with z|z
  ·exact absurd z (YL (aa2 _))
  ·exact abu y (Yi.mp z)
 refine JQ (knd:=knd) (G:=λb=>b<s.heap.objs.size) ?_ (adl (by simpa using D) _ l (by rw[a];exact YL (aba y)) items) L (λb g=>YL g) (λb g z=>?_) kv inj H items.size 0 _ (by omega)
  ⟨⟨_,Yv _ rfl,rfl,rfl⟩,B.push _⟩ ⟨#[],_,⟨_,0,Yh _ new,⟨rfl,rfl,rfl⟩,rfl⟩,⟨.inl rfl,aeQ,rfl,(λx M=>by cases M),rfl,Y9 _⟩,(by show 0*5<7*3;decide),rfl,(λe N=>by simp at N)⟩ (λi v O pv=>?_) λh2 tk kp x=>?_
 ·show A.units+ 1+ 1+ 1<aap;omega
 ·have g:b<s.heap.objs.size:=g;rw[Yi.mp z,a]at g;exact absurd g (aeZ.mpr (aaP _))
 ·obtain⟨b,P,C⟩:=F i v pv;obtain⟨o,R,n,ho,r⟩:=id C;exact⟨b,P,Yw ho,qQ C λo e=>Yh _ (c b o e)⟩
 ·wp_walk
  obtain⟨es,t,⟨o,ep,S,U,V⟩,T,_,sz,_⟩:=x.ob;rw[Yg,oh]at sz;refine⟨rfl,h h2 tk ⟨o,es,ep,t,S,U,V,sz,T.fits⟩ λb o e=>?_⟩;have q:=Yw e;refine kp b o (λz=>?_) (YL q) (Yh _ (c b o e));rw[Yi.mp z,a]at q;exact absurd q (aeZ.mpr (aaP _))
end
end GX
namespace L2
open PySem PySem.Spec PyProof.Rows
variable{d:Ye}
noncomputable def Gk(a:Ye)(n:Nat):HO:=.ext λh=>∃o b c t,h.get? a=Ya o/\o.ExactSet/\o.data=.set b c t/\b.size=n/\t.fits b.size=true
theorem Rl{P:YZ}{w:Y6}{es:Array xl}{ep:Nat}(l:(d==aah)=false):
  aiN P w "dict" d d es.size (λi x=>∃y:xl,es[i]?=Ya y/\x=y.key) (λh=>GX.fS h d es ep):=by
 constructor
 case iter=>
  intro A s m rd;refine⟨GX.yI d 0 es.size ep,λi h=>h.get? s.heap.objs.size=Ya (GX.yI d i es.size ep)/\GX.fS h d es ep,λE Q q=>GX.Ag l rd q,?_,Yv _ rfl,rd.at λo e=>Yh _ e⟩;have nd:d≠s.heap.objs.size:=YL rd.lt;constructor
  case sub=>intro b f;simp at f;simp[f]
  case frame=>exact λi h g x k=>⟨k _ (by simp) _ x.1,k d (by simp) _ x.2⟩
  case self=>exact λi s Q E x q=>agJ ⟨_,x.1,rfl,rfl⟩ q
  case done=>exact λs Q E x q=>GX.DI m x.1 x.2 (Yl _) λg k=>q g s.toks λb o c e=>k b o (by simpa using c) e
  case item=>
   intro i s Q E j x q;exact GX.AZ x.1 x.2 (YI j) λg a k=>q _ g s.toks ⟨_,YI j,rfl⟩ ⟨a,(k.2 d nd).trans x.2⟩ λb o c e=>(k.2 b (by simpa using c)).trans e
 case hint=>exact λA E s Q x q=>PySem.W.kdl_hint_dict ⟨_,x,rfl⟩ q
 case keep=>exact λh g rd k=>rd.at (k d (Or.inr rfl))
 case there=>exact λh rd=>⟨rd.lt,rd.lt⟩
 case type=>exact λs x=>⟨_,x,rfl⟩
 case notList=>rfl
 case notTuple=>rfl
def Xu(H:Hp)(v:V)(k:List bJ):Prop:=∃b,v=.ref b/\H b=Ya (.tup (k.map kV))
section
variable{X:Cx}
theorem Jf(l:X.calm=true)(M:X.A.units+ 64<aap):c6 X (.type "set") (λxs H Q=>∃(p:Ye) (vs:List V) (ks:List (List bJ)),xs=[.ref p]/\bc X.K H p vs/\fm (Xu H) vs ks/\ks.Nodup/\ks.length<=60/\∀q,H q=Yb->Q (.ref q) (upd H q (Gk q ks.length))):=by
 intro N s σ H xs O Q I r h;obtain⟨p,vs,ks,rfl,m,e,nd,P,q⟩:=h;obtain⟨u,rfl,n⟩:=dW r;cases n;obtain⟨a,f,w,y⟩:=I.list m;have lk:vs.length=ks.length:=Y7 e;have R:vs.length=a.length:=f.length;refine GX.Bx (knd:=aY X.prog X.w) (items:=a.toArray) (kv:=λi=>ks.getD i []) (by omega) (I.ok.hd l) w.isList (λi v d=>?_) (λi j z A=>?_) (by rw[Yz];omega) λS tk x kp=>?_
 ·rw[adQ]at d;have T:=(Yj.mp d).1;obtain⟨x,g⟩:∃x,vs[i]?=Ya x:=⟨_,Yk (by omega)⟩;obtain⟨k,B,b,rfl,C⟩:=dB e g;obtain⟨U,c,rb⟩:=f.get g;rw[d]at c;cases c;cases rb;have D:ks.getD i []=k:=by rw[YJ,B];rfl
  refine⟨b,rfl,?_⟩;show aad _ _ (ks.getD i []) b;rw[D];exact key_of I.hok C
 ·rw[Yz]at A;have E:ks.getD i []=ks[i]'(by omega):=by rw[YJ,Yk (by omega)];rfl
  have F:ks.getD j []=ks[j]'(by omega):=by rw[YJ,Yk (by omega)];rfl
  show ks.getD i []≠ks.getD j [];rw[E,F];exact tq.mp nd i j _ _ z
 ·have sz:a.toArray.size=ks.length:=by rw[Yz];omega
  rw[sz]at x;refine⟨.ref s.heap.objs.size,_,I.laid (o:=Gk s.heap.objs.size ks.length) (t':=tk) kp (Yl _) ⟨x,?_,?_⟩,rfl,q _ (I.hok.fresh (Yl _))⟩
  ·obtain⟨o,_,_,_,ho,_⟩:=x;exact⟨o,ho⟩
  ·rintro h1 h2 ⟨o,G,J,t,K,L⟩ k;exact⟨o,G,J,t,k o K,L⟩
theorem FI(C:X.calm=true):c6 X (.type "list") (λxs H Q=>∃(d:Ye) (kvs:List (List bJ×V)),xs=[.ref d]/\H d=Ya (.dT kvs)/\kvs.length<=1000/\∀l vs,H l=Yb->fm (Xu H) vs (kvs.map (·.1))->Q (.ref l) (upd H l (.lst vs))):=by
 intro N s σ H xs O Q I r h;obtain⟨d,kvs,rfl,hd,f,q⟩:=h;obtain⟨u,rfl,D⟩:=dW r;cases D;obtain⟨E,F,G,rd,sz,m⟩:=uW I.hok (.inl hd);refine adL (A:=X.A) (Rl (es:=F) (ep:=G) E) (I.ok.hd C) rd (by rw[sz];exact rl (aG (by omega))) λP tk a c J z e=>?_;have n:a.toList.length=kvs.length:=by rw[YO,←sz];exact e.1
 have g:∀(i:Nat) (u:Yd),a.toList[i]?=Ya u->∃(k:List bJ) (v:V) (b:Ye),kvs[i]?=Ya (k,v)/\u=.ref b/\H b=Ya (.tup (k.map kV)):=λi u p=>by
  have R:=(Yj.mp p).1;obtain⟨j,t⟩:∃j,kvs[i]?=Ya j:=⟨_,Yk (by omega)⟩;obtain⟨y,b,K,L,x,_⟩:=m i j.1 j.2 t;rw[vc]at p;obtain⟨S,w,rfl⟩:=e.2 i u p;rw[K]at w;cases w;exact⟨j.1,j.2,b,t,L,x⟩
 obtain⟨vs,B,hp⟩:∃vs,Vals vs a.toList/\fm (Xu H) vs (kvs.map (·.1)):=by
  clear z e;generalize a.toList=l at n g;clear m sz rd f q hd
  induction l generalizing kvs with
  |nil=>
   have:kvs=[]:=aaC.mp n.symm;subst this;exact⟨[],.nil,.nil⟩
  |cons u l ih=>
   cases kvs with
   |nil=>cases n
   |cons j kvs=>
    obtain⟨k,v,b,M,rfl,x⟩:=g 0 u rfl;cases M;obtain⟨vs,h1,h2⟩:=ih kvs (ade n) λi u p=>g (i+ 1) u p;exact⟨.ref b::vs,.cons rfl h1,.cons ⟨b,rfl,x⟩ h2⟩
 refine⟨.ref s.heap.objs.size,_,I.laid (o:=.lst vs) (t':=tk) J (Yl _) ⟨?_,a.toList,c,B,z⟩,rfl,q _ vs (I.hok.fresh (Yl _)) hp⟩;rw[B.length,n];exact rl (aG f)
theorem Ja:c6 X (.builtin "len") (λxs H Q=>∃(a:Ye) (n:Nat),xs=[.ref a]/\H a=Ya (Gk a n)/\n<=1000/\Q (.int n) H):=by
 intro f s σ H xs g Q I r h;obtain⟨a,n,rfl,ha,hn,q⟩:=h;obtain⟨u,rfl,b⟩:=dW r;cases b;obtain⟨o,c,i,t,ho,d,hd,sz,e⟩:=(I.hok a _ ha).1;subst sz;exact call_len_set ho d hd e (by omega) ⟨.int c.size,H,I.tok _,⟨_,rfl⟩,q⟩
end
theorem KS{o:uc}{kvs:List (List bJ×V)}{g:TG}{tb:TS}{D:oU}{σ:St}{H:Hp}(a:Nat->St->Hp->Prop)(h0:a 0 σ H)(hl:∀i σ H,i<=kvs.length->a i σ H->H d=Ya (.frz o (.dT kvs)))(hs:∀i k v b σ H,kvs[i]?=Ya (k,v)->a i σ H->H b=Ya (.tup (k.map kV))->g (.ref b) σ H λh j=>tb {D with nx:=a (i+ 1),ct:=a (i+ 1),bk:=D.nx} h j)(hd:∀σ H,a kvs.length σ H->D.nx σ H):
  ∃W:Nat->Nat->St->Hp->Prop,(∃m,W 0 m σ H)/\∀i m σ H,W i m σ H->
   ((Ad d o kvs).stop i H/\D.nx σ H)∨((Ad d o kvs).go i H/\∃N:St->Hp->Prop,(∀l c,N l c->∃n,n<m/\W (i+ 1) n l c)/\∀x c,(Ad d o kvs).yld i H x c->g x σ c λh j=>tb {D with nx:=N,ct:=N,bk:=D.nx} h j):=by
 refine⟨λi m σ H=>m=kvs.length-i/\i<=kvs.length/\a i σ H,⟨kvs.length,by simp,Y9 _,h0⟩,?_⟩;rintro i m σ H ⟨rfl,r,p⟩;have q:=hl i σ H r p;by_cases f:i<kvs.length
 ·refine .inr ⟨⟨f,q⟩,a (i+ 1),λl c s=>⟨kvs.length-(i+ 1),by omega,rfl,f,s⟩,λx c y=>?_⟩;obtain⟨rfl,k,v,b,t,u,rfl⟩:=y;exact hs i k v b σ _ t p u
 ·have e:i=kvs.length:=by omega
  subst e;exact .inl ⟨⟨Yl _,q⟩,hd σ H p⟩
end L2
local macro_rules|`(tactic|sizeOf_list_dec)=>`(tactic|omega)
local macro_rules|`(tactic|sizeOf_list_dec)=>`(tactic|first|exact Nat.le_of_ble_eq_true rfl|exact L2.aG (by omega)|exact L2.Lr|exact L2.Mc)
local macro_rules|`(tactic|sizeOf_list_dec)=>`(tactic|first|assumption|decide|exact ⟨by decide, by decide⟩|exact ⟨by decide, by decide, by decide⟩)
local macro_rules|`(tactic|sizeOf_list_dec)=>`(tactic|with_reducible first|exact L2.Nt|exact L2.uJ|exact L2.Nh|exact L2.Oh)
local macro_rules|`(tactic|sizeOf_list_dec)=>`(tactic|with_reducible first|exact L2.GY|exact L2.L5|exact L2.DP|exact L2.yW)
local macro_rules|`(tactic|sizeOf_list_dec)=>`(tactic|with_reducible first|exact L2.F8|exact L2.Gp|exact L2.IZ|exact L2.K7)
local macro_rules|`(tactic|sizeOf_list_dec)=>`(tactic|with_reducible exact L2.Ro)
local macro_rules|`(tactic|sizeOf_list_dec)=>`(tactic|with_reducible first|exact L2.Kn|exact L2.Mu|exact L2.Nu|exact L2.M6)
local macro_rules|`(tactic|sizeOf_list_dec)=>`(tactic|with_reducible first|exact L2.Ji|exact L2.Oe)
local macro_rules|`(tactic|sizeOf_list_dec)=>`(tactic|with_reducible first|exact L2.B3|exact L2.NZ|exact L2.Pd)
local macro_rules|`(tactic|sizeOf_list_dec)=>`(tactic|with_reducible first|exact L2.Ly|exact L2.Hb|exact L2.vG|exact L2.FT)
local macro_rules|`(tactic|sizeOf_list_dec)=>`(tactic|with_reducible first|exact L2.Ou|exact L2.yH|exact L2.Aw|exact L2.Oc)
local macro_rules|`(tactic|sizeOf_list_dec)=>`(tactic|with_reducible first|exact L2.Ke|exact L2.BJ|exact L2.EH|exact L2.qu)
local macro_rules|`(tactic|sizeOf_list_dec)=>`(tactic|with_reducible first|exact L2.N9|exact L2.MT|exact L2.Oz|exact L2.Jk)
local macro_rules|`(tactic|sizeOf_list_dec)=>`(tactic|with_reducible first|exact L2.Tx|exact L2.GL|exact L2.Jo|exact L2.LU)
local macro_rules|`(tactic|decreasing_trivial_pre_omega)=>`(tactic|first|assumption|(apply L2.bc.of;assumption)|(apply L2.bI.of;assumption)|(refine Or.inl ?_;assumption)|(refine Or.inl ?_;apply L2.bc.of;assumption)|(refine Or.inr ?_;apply L2.bI.of;assumption))
local macro_rules|`(tactic|bv_omega)=>`(tactic|first|assumption|exact L2.cD (j := 0) rfl|exact L2.cD (j := 1) rfl|exact L2.cD (j := 2) rfl|exact L2.cD (j := 3) rfl|exact L2.cD (j := 4) rfl|exact L2.cD (j := 5) rfl)
local macro_rules|`(tactic|array_get_dec)=>`(tactic|array_mem_dec)
local macro_rules|`(tactic|array_get_dec)=>`(tactic|with_reducible first|refine L2.Xl ?_|refine L2.V0 ?_)
local macro_rules|`(tactic|array_get_dec)=>`(tactic|with_reducible first|refine L2.SA ?_|refine L2.Vq ?_|refine L2.Uo ?_|refine L2.WS ?_)
local macro_rules|`(tactic|array_get_dec)=>`(tactic|with_reducible first|refine L2.XI ?_|refine L2.Vy ?_|refine L2.Ua ?_|refine L2.Pp ?_)
local macro_rules|`(tactic|array_get_dec)=>`(tactic|with_reducible first|refine L2.VV ?_|refine L2.Rp ?_|refine L2.SN ?_|refine L2.Wg ?_)
local macro_rules|`(tactic|array_get_dec)=>`(tactic|with_reducible first|refine L2.Q9 ?_|refine L2.Wm ?_|refine L2.NB ?_|refine L2.SW ?_)
local macro_rules|`(tactic|array_get_dec)=>`(tactic|with_reducible first|refine L2.NP ?_|refine L2.TR ?_|refine L2.Pc ?_|refine L2.TH ?_)
local macro_rules|`(tactic|array_get_dec)=>`(tactic|with_reducible first|refine L2.WT ?_|refine L2.WW ?_|refine L2.S6 ?_|refine L2.XY ?_)
local macro_rules|`(tactic|array_get_dec)=>`(tactic|with_reducible first|refine L2.Xg ?_|refine L2.W0 ?_|refine L2.VF ?_|refine L2.WZ ?_)
local macro_rules|`(tactic|array_get_dec)=>`(tactic|with_reducible first|refine L2.TC ?_|refine L2.Ww ?_|refine L2.Oj ?_|refine L2.TB ?_)
local macro_rules|`(tactic|array_get_dec)=>`(tactic|with_reducible first|refine L2.XG ?_|refine L2.VT ?_|refine L2.Sm ?_|refine L2.Wk ?_)
local macro_rules|`(tactic|array_get_dec)=>`(tactic|with_reducible first|refine L2.x_b ?_|refine L2.Te ?_|refine L2.O6 ?_|refine L2.W4 ?_)
local macro_rules|`(tactic|array_get_dec)=>`(tactic|with_reducible first|refine L2.X1 ?_|refine L2.XH ?_|refine L2.Ui ?_|refine L2.VY ?_)
local macro_rules|`(tactic|array_get_dec)=>`(tactic|with_reducible first|refine L2.SO ?_|refine L2.Va ?_|refine L2.W8 ?_|refine L2.SY ?_)
local macro_rules|`(tactic|array_get_dec)=>`(tactic|with_reducible first|refine L2.XB ?_|refine L2.x_c ?_|refine L2.VN ?_|refine L2.VS ?_)
local macro_rules|`(tactic|array_get_dec)=>`(tactic|with_reducible first|refine L2.TJ ?_|refine L2.UP ?_|refine L2.US ?_|refine L2.Xh ?_)
local macro_rules|`(tactic|array_get_dec)=>`(tactic|with_reducible first|refine L2.U2 ?_|refine L2.TX ?_|refine L2.U5 ?_|refine L2.Sy ?_)
local macro_rules|`(tactic|array_get_dec)=>`(tactic|(with_reducible refine L2.S8 λR hR=>?_))
local macro_rules|`(tactic|array_mem_dec)=>`(tactic|((with_reducible apply L2.WK);assumption))
local macro_rules|`(tactic|array_mem_dec)=>`(tactic|((with_reducible apply L2.Ud);decreasing_trivial_pre_omega;rfl))
local macro_rules|`(tactic|array_mem_dec)=>`(tactic|((with_reducible apply L2.V8);exact rfl))
local macro_rules|`(tactic|array_mem_dec)=>`(tactic|((with_reducible apply L2.x_I);sizeOf_list_dec))
local macro_rules|`(tactic|array_mem_dec)=>`(tactic|((with_reducible apply L2.V3);decreasing_trivial_pre_omega;bv_omega))
local macro_rules|`(tactic|array_mem_dec)=>`(tactic|((with_reducible apply L2.Xj);decreasing_trivial_pre_omega;bv_omega))
local macro_rules|`(tactic|array_mem_dec)=>`(tactic|((with_reducible apply L2.Vw);decreasing_trivial_pre_omega))
local macro_rules|`(tactic|array_mem_dec)=>`(tactic|((with_reducible apply L2.Tu);decreasing_trivial_pre_omega))
local macro_rules|`(tactic|array_mem_dec)=>`(tactic|((with_reducible apply L2.SX);decreasing_trivial_pre_omega))
local macro_rules|`(tactic|array_mem_dec)=>`(tactic|((with_reducible apply L2.UQ);decreasing_trivial_pre_omega;(first|rw [L2.He]|rw [L2.AW]|skip)))
local macro_rules|`(tactic|array_mem_dec)=>`(tactic|((with_reducible apply L2.OT);decreasing_trivial_pre_omega;(first|rw [L2.He]|rw [L2.AW]|skip)))
local macro_rules|`(tactic|array_mem_dec)=>`(tactic|((with_reducible apply L2.U1);decreasing_trivial_pre_omega;decreasing_trivial_pre_omega))
local macro_rules|`(tactic|array_mem_dec)=>`(tactic|((with_reducible apply L2.WQ);decreasing_trivial_pre_omega))
local macro_rules|`(tactic|array_mem_dec)=>`(tactic|((with_reducible apply L2.UL);decreasing_trivial_pre_omega))
local macro_rules|`(tactic|array_mem_dec)=>`(tactic|((with_reducible apply L2.V2);sizeOf_list_dec))
local macro_rules|`(tactic|array_mem_dec)=>`(tactic|((with_reducible apply L2.Wz);sizeOf_list_dec))
local macro_rules|`(tactic|array_mem_dec)=>`(tactic|((with_reducible apply L2.NM);assumption;sizeOf_list_dec))
local macro_rules|`(tactic|array_mem_dec)=>`(tactic|((with_reducible apply L2.LS);assumption;assumption;sizeOf_list_dec))
local macro_rules|`(tactic|array_mem_dec)=>`(tactic|((with_reducible apply L2.Pj);decreasing_trivial_pre_omega))
local macro_rules|`(tactic|array_mem_dec)=>`(tactic|((with_reducible apply L2.N3);decreasing_trivial_pre_omega))
local macro_rules|`(tactic|array_mem_dec)=>`(tactic|((with_reducible apply L2.Q8);decreasing_trivial_pre_omega))
local macro_rules|`(tactic|array_mem_dec)=>`(tactic|with_reducible refine L2.LY ?_)
local macro_rules|`(tactic|array_mem_dec)=>`(tactic|((with_reducible apply L2.Qw);decreasing_trivial_pre_omega))
local macro_rules|`(tactic|array_mem_dec)=>`(tactic|((with_reducible apply L2.WY);decreasing_trivial_pre_omega;bv_omega))
local macro_rules|`(tactic|array_mem_dec)=>`(tactic|with_reducible refine L2.Xz ?_)
local macro_rules|`(tactic|array_mem_dec)=>`(tactic|with_reducible first|refine L2.Xe ?_|refine L2.SM ?_|refine L2.PL ?_|refine L2.U7 ?_)
local macro_rules|`(tactic|array_mem_dec)=>`(tactic|with_reducible first|refine L2.XZ ?_|refine L2.VO ?_|refine L2.SJ ?_|refine L2.UU ?_)
local macro_rules|`(tactic|array_mem_dec)=>`(tactic|((with_reducible refine L2.vg ?_);(with_reducible refine L2.vg ?_);(with_reducible apply L2.vB);assumption;sizeOf_list_dec))
local macro_rules|`(tactic|array_mem_dec)=>`(tactic|((with_reducible refine L2.vg ?_);(with_reducible apply L2.vB);assumption;sizeOf_list_dec))
local macro_rules|`(tactic|array_mem_dec)=>`(tactic|((with_reducible apply L2.vB);assumption;sizeOf_list_dec))
local macro_rules|`(tactic|array_mem_dec)=>`(tactic|((with_reducible apply L2.SQ);assumption;sizeOf_list_dec;sizeOf_list_dec;sizeOf_list_dec))
local macro_rules|`(tactic|array_mem_dec)=>`(tactic|((with_reducible apply L2.Wn);assumption;sizeOf_list_dec;sizeOf_list_dec;sizeOf_list_dec))
local macro_rules|`(tactic|array_mem_dec)=>`(tactic|((with_reducible apply L2.Ul);decreasing_trivial_pre_omega))
local macro_rules|`(tactic|array_mem_dec)=>`(tactic|((with_reducible apply L2.V5);decreasing_trivial_pre_omega;assumption))
local macro_rules|`(tactic|array_mem_dec)=>`(tactic|((with_reducible apply L2.UR);decreasing_trivial_pre_omega))
local macro_rules|`(tactic|array_mem_dec)=>`(tactic|((with_reducible apply L2.Qi);assumption;assumption;sizeOf_list_dec))
local macro_rules|`(tactic|array_mem_dec)=>`(tactic|with_reducible first|refine L2.Qa ?_|refine L2.Ux ?_)
local macro_rules|`(tactic|array_mem_dec)=>`(tactic|((with_reducible apply L2.WG);assumption))
local macro_rules|`(tactic|array_mem_dec)=>`(tactic|with_reducible refine L2.Nk ?_)
local macro_rules|`(tactic|array_mem_dec)=>`(tactic|((with_reducible apply L2.WX);decreasing_trivial_pre_omega;decreasing_trivial_pre_omega))
local macro_rules|`(tactic|array_mem_dec)=>`(tactic|with_reducible refine L2.SR ?_)
local macro_rules|`(tactic|array_mem_dec)=>`(tactic|with_reducible refine L2.QF ?_)
local macro_rules|`(tactic|array_mem_dec)=>`(tactic|with_reducible first|refine L2.Ki ?_|refine L2.K9 ?_)
local macro_rules|`(tactic|cbv)=>`(tactic|repeat' (first|array_get_dec|fail))
namespace L2
open PySem PySem.Spec PyProof.Rows
variable{N:List Yo}{u:TS}{D:oU}{σ:St}{H:Hp}
theorem eY{P:List Yo}{sc:aci}(a:sc.kind=.function:=by rfl)(b:sc.isCoroutine=false:=by rfl)(c:sc.isGenerator=false:=by rfl)(d:N.Nodup:=by decide +kernel)(e:N.take P.length=P:=by rfl)(f:∀x∈P,sc.names.lookup x=Ya .local∨sc.names.lookup x=Ya .cell:=by decide +kernel)(g:∀y∈sc.names,y.2≠.free:=by decide +kernel):aE N P sc:=⟨a,b,c,d,e,f,g⟩
def Tg(_:YZ)(_:Y6)(_:Yo->Option Yd)(_:YT):Prop:=True
abbrev nI(K:Yc)(x:Yo)(f:Ye):Prop:=PySem.W.nsIn K ir x=Ya (Ya (.ref f))
def qa:List Yo->(List Yd->Prop)->Prop
 |[],p=>p []
 |_::r,p=>∀v,qa r λa=>p (v::a)
theorem RJ:∀{ps:List Yo} {p:List Yd->Prop},qa ps p->∀us:List Yd,us.length=ps.length->p us
 |[],_,h,[],_=>h
 |_::_,_,h,v::us,e=>RJ (h v) us (ade e)
section
variable{P:YZ}{w:Y6}{K:Yc}{mg:Yo->Option Yd}{base h:YT}{x Zb:Yo}{st:Y4}{f:Ye}{fd:YD}{ps:List Yo}{k:Nat}{sp:Sp}
theorem bG.oj(F:bG K x Zb st f fd)(S:aE N ps (ao st))
  (b:∀(a:Yd) (A:xw) (outer:List acw) (s:Ym) (H:Hp) (vs:List V) (Q:VK) (E:XK),cQ k (A.deeper (acn Zb (ao st) s.heap.objs.size f a))->(A.deeper (acn Zb (ao st) s.heap.objs.size f a)).units+ 64<aap->(A.deeper (acn Zb (ao st) s.heap.objs.size f a)).units<aap->(A.deeper (acn Zb (ao st) s.heap.objs.size f a)).units+ 1<aap->sp vs H Q E->
   ∃t,CM (oR bp P w K mg base N Zb (ao st) f a A outer s H E).nox (dO st) t/\t {nx:=λ_ e=>Q .non e,rt:=Q} (start N vs) H)
  (len:∀vs H Q E,sp vs H Q E->vs.length=ps.length:=by intro _ _ _ _ h;(repeat obtain⟨_,h⟩:=h);subst_vars;rfl):aF P w K mg base bp (k+ 1) f fd ps sp:=F.ok S len λc A o s H vs Q E d h=>b c A o s H vs Q E d d.units d.units0 (HW d) h
theorem bG.bq(F:bG K x Zb st f fd)(h:∀(kV i k:Yd) (l:Option Ye) (j ct:Yd),qa ps λus=>agu (aa4 x Zb (gJ st) (dO st) (ao st) .none kV i k l j ct) ⟨us,[]⟩=pure (ps.zip us):=by(repeat refine λ_=>?_);rfl):Binds K fd ps []:=F.binds λa b c d e g us hl=>RJ (h a b c d e g) us hl
theorem bG.cal(F:bG K x Zb st f fd)(X:K.In h)(G:h.Ns ir mg)(a:nI K x f)(q:∀(kV b d:Yd) (e:Option Ye) (c ct:Yd),qa ps λus=>agu (aa4 x Zb (gJ st) (dO st) (ao st) .none kV b d e c ct) ⟨us,[]⟩=pure (ps.zip us):=by(repeat refine λ_=>?_);rfl):d6 K mg x f fd ps:=⟨PySem.W.mg_of X G a,F.kp,F.bq q⟩
end
theorem ln1{α:Type}:∀{us:List α},us.length=1->∃a0,us=[a0]|[a0],_=>⟨a0,rfl⟩
theorem ln3{α:Type}:∀{us:List α},us.length=3->∃a0 a b,us=[a0,a,b]|[a0,a,b],_=>⟨a0,a,b,rfl⟩
theorem S8{a b c:TS}(h:∀R:TS,R=qf c u->qf a (qf b R) D σ H):qf a (qf b (qf c u)) D σ H:=h _ rfl
theorem WK{R:TS}(e:R=u)(h:u D σ H):R D σ H:=e▸h
end L2
namespace K45
open PySem L2
set_option hygiene false in
local macro_rules|`(∅)=>`(aF P w K mg base bp)
variable{f a b p am ah ap as:Ye}{fd:YD}{H H' A B:Hp}{v mv:V}{σ:St}{Q:VK}{m m' m0:List (Int×Int)}{xs ws pl:List V}{ns gs:List Nm}{j i:Nat}{Zh:Option Int}{tb Zs la:List (Int×List (Int×Int))}{h sm sk:Int}{r:List (V×Nm)}{e:Int×List (Int×Int)}{F sl:List Ye}{kvs:List (List bJ×V)}{u:HO}{ml:List (List (Int×Int))}
noncomputable def eZ(i:Nat):Y4:=PySem.Challenge.pw_groupcall_k45_let_go.main.body.getD i (.Pass ⟨0,0,0,0⟩)
noncomputable abbrev sP:Y4:=eZ 2
noncomputable abbrev kZ:Y4:=eZ 3
noncomputable abbrev zC:Y4:=eZ 4
noncomputable abbrev sG:Y4:=eZ 9
noncomputable abbrev ym:Y4:=eZ 5
noncomputable abbrev lA:Y4:=eZ 10
noncomputable abbrev iP:Y4:=bw (eZ 24) 0
noncomputable abbrev fL:Y4:=bw (eZ 25) 0
noncomputable abbrev sg:Y4:=eZ 17
noncomputable abbrev vV:Y4:=eZ 28
noncomputable abbrev qe:Y4:=eZ 29
noncomputable abbrev jM:Y4:=bw (eZ 24) 4
noncomputable abbrev o8:Y4:=bw (eZ 24) 5
noncomputable abbrev ie:Y4:=bw (eZ 26) 1
noncomputable abbrev ny:Y4:=eZ 36
noncomputable abbrev vQ:Y4:=eZ 37
noncomputable abbrev p5:Y4:=bw (eZ 24) 1
noncomputable abbrev p9:Y4:=bw (eZ 24) 2
noncomputable abbrev fV:Y4:=bw (eZ 24) 6
noncomputable abbrev eP:Y4:=bw (eZ 27) 1
noncomputable abbrev vE:Y4:=eZ 34
noncomputable abbrev jl:Y4:=eZ 38
noncomputable abbrev iU:Y4:=eZ 39
noncomputable abbrev jK:Y4:=eZ 40
noncomputable abbrev Li:Y4:=eZ 41
noncomputable abbrev jx:Y4:=eZ 42
section
variable{P:YZ}{w:Y6}{K:Yc}{mg:Yo->Option Yd}{base:YT}
def pU(K:Yc):Sp:=λa H Q _=>∃(d:Ye) (m:List (Int×Int)) (h:Int),a=[.ref d,.int h]/\Rd H d (.dK (dI m))/\Q (.int (ct m h)) H
abbrev Je:List Yo:=["counts","hand"]
theorem DE:aE ["counts","hand"] Je (ao sP):=eY
variable(eV:Tg P w mg base)
include eV in
theorem DH(F:bG K "count_of" "count_of" sP f fd):∅ 1 f fd Je (pU K):=by
 refine F.oj DE ?_;rintro _ _ _ _ H _ Q _ _ _ _ a ⟨d,m,h,rfl,h⟩;refine⟨_,(au (aL (yJ a (pv 0) (pv 1) ay ⟨rfl,rfl,rfl,rfl⟩))),?_⟩;obtain⟨hd,k⟩:=h;refine⟨_,rfl,d,rfl,.inl ⟨_,hd⟩,_,rfl,_,.inl ⟨_,YN h,hd,rfl,rfl⟩,?_⟩;show Q ((eF (dI m) (YN h:bJ)).getD (.int 0)) H;rw[PQ];exact k
def jP(K:Yc):Sp:=λe H Q _=>∃(a:Ye) (d:List V) (b:List (List (Int×Int))),e=[.ref a]/\bc K H a d/\OO H d b/\(∀m∈b,Ck m)/\b.length<=10/\
 ∀(c:Hp) (l:Ye) (S:List Int),aH H c->c l=Ya (.lst (S.map V.int))->S.Nodup->(∀k,k∈S↔∃m∈b,k∈m.map (·.1))->Q (.ref l) c
abbrev zf:List Yo:=["some"]
theorem jz:aE ["some","hands","counts"] zf (ao kZ):=eY
variable(gK:mg "list"=Yb)(AU:mg "set"=Yb)(dP:mg "sorted"=Yb)
include eV gK AU dP in
theorem yi(F:bG K "hands_among" "hands_among" kZ f fd):∅ 1 f fd zf (jP K):=by
 refine F.oj jz ?_;rintro _ _ _ _ H _ _ _ _ _ _ _ ⟨a,C,D,rfl,h⟩;refine⟨_,(aj (aW (i:=1) jz.nd rfl (Or.inl rfl) (dH af))
   (aj (jC aai rfl (bC (K:=K) rfl (pv 0)) (aP (i:=2) jz.nd rfl (Or.inl rfl))
   (au (dw (Hk abH PySem.F.slot_list_extend PySem.F.type_list_extend JS (pv 1) (aa (bN (FZ rfl) (by rfl) gK aaX (aa (pv 2) af)) af)))))
   (au (aL (br (tO rfl) (by rfl) dP aa7 (aa (bN (AF rfl) (by rfl) AU (show abh "set"=Ya (.type "set") by decide +kernel) (aa (pv 1) af)) af)))))),?_⟩
 obtain⟨E,dc,G,l10,k⟩:=h;refine⟨Y9 _,λhl c=>?_⟩;have J:C.length=D.length:=Y7 dc;refine⟨_,rfl,a,rfl,⟨_,(aC c).seq E⟩,l9 (K:=K) (a:=a) (xs:=C) (λi σ p=>∃v ns,σ=[Ya (.ref a),Ya (.ref hl),v]/\aH H p/\p hl=Ya (.lst (ns.map V.int))/\ns.length<=63*i/\∀k,k∈ns↔∃m∈D.take i,k∈m.map (·.1))
  ⟨Yb,[],rfl,aC c,ai,Y9 _,λk=>by simp⟩ (λi σ p _ ⟨_,_,_,g,_⟩=>g.seq E) ?_ ?_⟩
 ·rintro i x σ p L ⟨v,ns,rfl,g,r,s,hm⟩;obtain⟨m,n,d,rfl,hd⟩:=OO.get dc L;have R:=(Yj.mp n).1;have M:=G m (YA n);have lm:=M.len;refine⟨_,rfl,.inl ⟨rfl,_,bc.of r⟩,_,rfl,d,m,rfl,cR g hd,by omega,λl t=>?_⟩;have N:hl≠l:=ax r t;refine⟨hl,l,_,_,rfl,rfl,by rw[ak N];exact r,ai,?_,Ya (.ref d),ns++m.map (·.1),rfl,λb o e=>?_,?_,?_,λk=>?_⟩
  ·rw[Yg,Yg,Yg];exact rl (aG (by omega))
  ·rw[ak (ax e c),ak (ax (g b o e) t)];exact g b o e
  ·rw[ai,Yx]
  ·rw[Yu,Yg];omega
  ·rw[aQ n,YM,hm k];constructor
   ·rintro(⟨y,A,u⟩|q)
    ·exact⟨y,YU _ A,u⟩
    ·exact⟨m,YH _ (by simp),q⟩
   ·rintro⟨y,A,u⟩;rcases YM.mp A with z|z
    ·exact .inl ⟨y,z,u⟩
    ·rw[Yi.mp z]at u;exact .inr u
 rintro σ p ⟨v,ns,rfl,g,r,s,hm⟩;rw[J,YY]at hm;refine⟨_,rfl,hl,ns,rfl,bc.of r,by omega,λq ks O nd mem=>?_⟩;have rg:∀k∈ks,0<=k/\k<63:=λk Q=>by
  obtain⟨m,h1,h2⟩:=(hm k).mp ((mem k).mp Q);exact(G m h1).keys k h2
 refine⟨q,ks,rfl,ai,nd,iO nd rg,λl S B I T=>?_⟩;refine k _ l S (g.trans ((aC O).trans (aC B))) ai (I.nodup_iff.mpr nd) λj=>?_;rw[I.mem_iff,mem j,hm j]
def vf(K:Yc):Sp:=λb H Q _=>∃(d e:Ye) (m n:List (Int×Int)),b=[.ref d,.ref e]/\Rd H d (.dK (dI m))/\Rd H e (.dK (dI n))/\Ck m/\Ck n/\∀a,aH H a->Q (.bl (cov m n)) a
abbrev zq:List Yo:=["one","other"]
theorem Kz:aE ["one","other"] zq (ao zC):=eY
variable{sR:Ye}{lD:Ye}{pP:YD}{jO:YD}(cL:∅ 1 sR pP Je (pU K))(bL:d6 K mg "count_of" sR pP Je)(iI:∅ 1 lD jO zf (jP K))(dY:d6 K mg "hands_among" lD jO zf)(RB:mg "all"=Yb)
include eV cL bL iI dY RB in
theorem JT(F:bG K "covers" "covers" zC f fd):∅ 2 f fd zq (vf K):=by
 refine F.oj Kz ?_;rintro _ _ _ _ _ _ _ _ s _ _ _ ⟨d,e,m,n,rfl,h⟩;refine⟨_,(au (aL (br (Nr rfl) (by rfl) RB ajF (aa (bM ["one","other","hand"] [Ya 0,Ya 1,Yb] rfl rfl (by kernel_rfl) (bC (K:=K) rfl (a9 iI dY s (aa (dH (aa (pv 0) (aa (pv 1) af))) af))) (λ_ _ _ _ _ nd=>aP (i:=2) nd rfl (Or.inl rfl)) (λ_ _ _ _ _=>eE) (λ_ _ _ _ _=>(jg AB (a9 cL bL s (aa (pv 0) (aa (pv 2) af))) (a9 cL bL s (aa (pv 1) (aa (pv 2) af))) (bu _)))) af)))),?_⟩;obtain⟨hd,B,r,t,k⟩:=h;refine⟨_,rfl,_,rfl,by show 2<=YB;decide,λH u=>?_⟩;have y:=aC (o:=.lst [V.ref d,.ref e]) u;refine⟨H,_,[m,n],rfl,bc.of ai,.cons ⟨d,rfl,cR y hd⟩ (.cons ⟨e,rfl,cR y B⟩ .nil),λx A=>?_,by show 2<=10;decide,λI l S J hl nd mem=>?_⟩
 ·rcases Yn.mp A with z|z
  ·rw[z];exact r
  ·rw[Yi.mp z];exact t
 have C:=y.trans J;have rg:∀j∈S,0<=j/\j<63:=λj g=>by
  rcases two.mp ((mem j).mp g)with z|z
  ·exact r.keys j z
  ·exact t.keys j z
 have O:=iO nd rg;refine⟨l,rfl,⟨_,bc.of hl⟩,λD E=>?_⟩;refine bD (K:=K) (a:=l) (xs:=S.map V.int) (λi σ p=>∃v,σ=[Ya (.ref d),Ya (.ref e),v]/\aH I p/\p D=Ya (.lst (((S.take i).map λj=>decide (ct n j<=ct m j)).map V.bl))) ⟨Yb,rfl,aC E,ai⟩ ?_ ?_ ?_
 ·rintro i σ p _ ⟨_,_,q,_⟩;exact bc.of (q _ _ hl)
 ·rintro i x σ p A ⟨v,rfl,q,c⟩;obtain⟨j,g,rfl⟩:=gz A;have L:=(Yj.mp g).1;have G:=C.trans q;refine Bv ⟨_,rfl,_,rfl,d,m,j,rfl,cR G hd,_,rfl,_,rfl,e,n,j,rfl,cR G B,_,_,rfl,rfl,_,c,?_,Ya (.int j),rfl,λb o z=>?_,?_⟩
  ·rw[Yg,Yg,xj];exact aG (by omega)
  ·rw[ak (ax z E)];exact q b o z
  ·rw[ai,aQ g,Yx,Yx];rfl
 rintro σ p ⟨v,rfl,q,c⟩;rw[show S.take (S.map V.int).length=S by rw[Yg,YY]]at c;refine⟨D,_,rfl,bc.of c,?_⟩;have M:((S.map λj=>decide (ct n j<=ct m j)).all λb=>b)=cov m n:=by
  rw[abU,O8 r t,afl];constructor
  ·intro h j;by_cases g:j∈S
   ·exact of_decide_eq_true (h _ (YV (f:=λj=>decide (ct n j<=ct m j)) g))
   ·rw[kX (λz=>g ((mem j).mpr (two.mpr (.inr z))))];exact r.ct j
  ·intro h b N;obtain⟨j,_,rfl⟩:=YC.mp N;exact decide_eq_true (h j)
 rw[M];exact k _ (C.trans q)
def jY(K:Yc):Sp:=λe H Q _=>∃(a:Ye) (b:List V) (ps:List (Int×Int)),e=[.ref a]/\(bc K H a b∨bI K H a b)/\jQ H b ps/\ps.length<=1000/\(ps.map (·.1)).Nodup/\
 ∀(c:Hp) (d:Ye),aH H c->H d=Yb->c d=Ya (.dK (dI (eU ps)))->Q (.ref d) c
abbrev F3:List Yo:=["pairs"]
theorem E4:aE ["pairs"] F3 (ao sG):=eY
variable(pT:mg "dict"=Yb)
include eV pT in
theorem EK(F:bG K "unpacked" "unpacked" sG f fd):∅ 1 f fd F3 (jY K):=by
 refine F.oj E4 ?_;rintro _ _ _ _ H _ Q _ _ _ _ _ ⟨a,t,ps,rfl,h⟩;refine⟨_,(au (aL (bN (Gv rfl) (by rfl) pT acu (aa (bM ["hand","count"] [Yb,Yb] rfl rfl (by kernel_rfl) (Hw (K:=K) rfl (pv 0)) (λ_ _ _ _ _ nd=>mX (K:=K) (n:=2) rfl rfl (c7 (aP (i:=0) nd rfl (Or.inl rfl)) (c7 (aP (i:=1) nd rfl (Or.inl rfl)) mU))) (λ_ _ _ _ _=>(d9 (bo Ot (pv 1) ay (bu _)))) (λ_ _ _ _ _=>(cC (aa (pv 0) (aa (pv 1) af))))) af)))),?_⟩;obtain⟨r,hp,u,nd,k⟩:=h;have J:=hp.len
 -- one turn
 have turn:∀(D:Ye) (_:H D=Yb) (i:Nat) (x:V) (σ:St) (c:Hp),t[i]?=Ya x->(∃v l d,σ=[v,l]/\aH H c/\c D=Ya (.lst d)/\d.length<=i/\jQ c d (eU (ps.take i)))->
   fj (OR K 2 (HF (zb 0) (HF (zb 1) Sv))) (N7 (Vl (N6 λi j=>.bl (decide (j<i))) (Jv 1) (tC (.int 0)))) (S1 (zJ (Jv 0) (zJ (Jv 1) BU))) D
    (λσ c=>∃v l d,σ=[v,l]/\aH H c/\c D=Ya (.lst d)/\d.length<=i+ 1/\jQ c d (eU (ps.take (i+ 1)))) x σ c:=by
  rintro D m i x σ c L ⟨v,l,d,rfl,sm,g,E,y⟩;obtain⟨p,s,b,rfl,M⟩:=hp.get L;have N:=(Yj.mp s).1;refine⟨b,_,rfl,bI.of (sm _ _ M),rfl,_,_,rfl,_,_,rfl,rfl,_,rfl,_,_,rfl,rfl,_,rfl,dh (λh=>?_) λh=>?_⟩
  ·have G:0<p.2:=of_decide_eq_true h;refine⟨_,rfl,_,rfl,by show 2<=YB;decide,λq I=>?_⟩;have A:D≠q:=ax g I;refine⟨d,by rw[ak A];exact g,aG (by omega),Ya (.int p.1),Ya (.int p.2),_,rfl,λb o e=>?_,ai,by rw[Yu];exact abm E,?_⟩
   ·rw[ak (ax e m),ak (ax (sm b o e) I)];exact sm b o e
   ·rw[aQ s,Qt G];refine jQ.snoc (y.mono λa d e=>?_) ⟨q,rfl,?_⟩
    ·rw[ak (bU e g (by intro z;cases z)),ak (ax e I)];exact e
    ·rw[ak (Ne.symm A),ai]
  ·have G:¬ 0<p.2:=λz=>h (decide_eq_true z);refine⟨Ya (.int p.1),Ya (.int p.2),d,rfl,sm,g,acD E,?_⟩;rw[aQ s,UJ G];exact y
 have fin:∀(D:Ye) (_:H D=Yb) (σ:St) (c:Hp),(∃v l d,σ=[v,l]/\aH H c/\c D=Ya (.lst d)/\d.length<=t.length/\jQ c d (eU (ps.take t.length)))->
   ∃(a:Ye) (d:List V) (C:List (Int×Int)),[V.ref D]=[.ref a]/\c a=Ya (.lst d)/\jQ c d C/\(C.map (·.1)).Nodup/\C.length<=1000/\∀p,c p=Yb->Q (.ref p) (upd c p (.dK (dI C))):=by
  rintro D m σ c ⟨v,l,d,rfl,sm,g,E,y⟩;rw[J,YY]at y;refine⟨D,d,eU ps,rfl,g,y,CI nd,xy (PN ps) u,λp B=>?_⟩;exact k _ p (sm.trans (aC B)) (sm.free B) ai
 rcases r with r|r
 ·refine⟨_,rfl,a,rfl,.inl ⟨⟨_,r⟩,λD m=>?_⟩⟩;exact bD (K:=K) (a:=a) (xs:=t) (λi σ c=>∃v l d,σ=[v,l]/\aH H c/\c D=Ya (.lst d)/\d.length<=i/\jQ c d (eU (ps.take i))) ⟨Yb,Yb,[],rfl,aC m,ai,Yl _,.nil⟩
   (λi σ c _ ⟨_,_,_,_,sm,_⟩=>sm.seq r) (turn D m) (fin D m)
 ·refine⟨_,rfl,a,rfl,.inr ⟨⟨_,r⟩,λD m=>?_⟩⟩;exact Nc (K:=K) (a:=a) (xs:=t) (λi σ c=>∃v l d,σ=[v,l]/\aH H c/\c D=Ya (.lst d)/\d.length<=i/\jQ c d (eU (ps.take i))) ⟨Yb,Yb,[],rfl,aC m,ai,Yl _,.nil⟩
   (λi σ c _ ⟨_,_,_,_,sm,_⟩=>Mb sm r) (turn D m) (fin D m)
def vA(K:Yc):Sp:=λb H Q _=>∃(d e:Ye) (m n:List (Int×Int)),b=[.ref d,.ref e]/\Rd H d (.dK (dI m))/\Rd H e (.dK (dI n))/\Ck m/\Ck n/\
 ∀(a:Hp) (p:Ye) (j:List (Int×Int)),aH H a->H p=Yb->a p=Ya (.dK (dI j))->Td j->(∀k,Lw [m,n] k (ct j k))->Q (.ref p) a
theorem IT:aE ["one","other"] zq (ao ym):=eY
variable{ng:Ye}{kj:YD}(zD:∅ 1 ng kj F3 (jY K))(eQ:d6 K mg "unpacked" ng kj F3)(RT:mg "max"=Yb)
include eV cL bL iI dY zD eQ RT in
theorem J0(F:bG K "joined" "joined" ym f fd):∅ 2 f fd zq (vA K):=by
 refine F.oj IT ?_;rintro _ _ _ _ _ _ _ _ A _ _ _ ⟨d,e,m,n,rfl,h⟩;refine⟨_,(au (aL (a9 zD eQ A (aa (bM ["one","other","hand"] [Ya 0,Ya 1,Yb] rfl rfl (by kernel_rfl) (bC (K:=K) rfl (a9 iI dY A (aa (dH (aa (pv 0) (aa (pv 1) af))) af))) (λ_ _ _ _ _ nd=>aP (i:=2) nd rfl (Or.inl rfl)) (λ_ _ _ _ _=>eE) (λ_ _ _ _ _=>(cC (aa (pv 2) (aa (br (Jl rfl) (by rfl) RT ajG (aa (a9 cL bL A (aa (pv 0) (aa (pv 2) af))) (aa (a9 cL bL A (aa (pv 1) (aa (pv 2) af))) af))) af))))) af)))),?_⟩;obtain⟨hd,M,C,E,k⟩:=h;refine⟨_,rfl,_,rfl,by show 2<=YB;decide,λR G=>?_⟩;have H:=aC (o:=.lst [V.ref d,.ref e]) G;refine⟨R,_,[m,n],rfl,bc.of ai,.cons ⟨d,rfl,cR H hd⟩ (.cons ⟨e,rfl,cR H M⟩ .nil),λx s=>?_,by show 2<=10;decide,λT l S U hl nd mem=>?_⟩
 ·rcases Yn.mp s with z|z
  ·rw[z];exact C
  ·rw[Yi.mp z];exact E
 have I:=H.trans U;have rg:∀j∈S,0<=j/\j<63:=λj g=>by
  rcases two.mp ((mem j).mp g)with z|z
  ·exact C.keys j z
  ·exact E.keys j z
 have Z:=iO nd rg;refine⟨l,rfl,⟨_,bc.of hl⟩,λD N=>?_⟩;refine bD (K:=K) (a:=l) (xs:=S.map V.int) (λi σ t=>∃v r,σ=[Ya (.ref d),Ya (.ref e),v]/\aH T t/\t D=Ya (.lst r)/\r.length<=i/\jQ t r (NW (S.take i) λj=>if ct n j>ct m j then ct n j else ct m j)) ⟨Yb,[],rfl,aC N,ai,Yl _,.nil⟩ ?_ ?_ ?_
 ·rintro i σ t _ ⟨_,_,_,q,_⟩;exact bc.of (q _ _ hl)
 ·rintro i x σ t s ⟨v,r,rfl,q,c,O,B⟩;obtain⟨j,g,rfl⟩:=gz s;have W:=(Yj.mp g).1;have Q:=I.trans q;refine Bv ⟨_,rfl,_,rfl,_,rfl,d,m,j,rfl,cR Q hd,_,rfl,_,rfl,e,n,j,rfl,cR Q M,_,_,rfl,by show 2<=YB;decide,λp hp=>?_⟩;have u:D≠p:=ax c hp;refine⟨r,by rw[ak u];exact c,aG (by omega),Ya (.int j),_,rfl,λb o z=>?_,ai,by rw[Yu];exact abm O,?_⟩
  ·rw[ak (ax z N),ak (ax (q b o z) hp)];exact q b o z
  ·rw[aQ g];show jQ _ _ (ah3 _ (_++[j]));rw[Yx];refine jQ.snoc (B.mono λa r z=>?_) ⟨p,rfl,?_⟩
   ·rw[ak (bU z c (by intro z;cases z)),ak (ax z hp)];exact z
   ·rw[ak (Ne.symm u),ai]
 rintro σ t ⟨v,r,rfl,q,c,O,B⟩;rw[show S.take (S.map V.int).length=S by rw[Yg,YY]]at B;refine⟨D,r,_,rfl,.inl (bc.of c),B,?_,by rw[lX];exact nd,λH2 p J L hp=>?_⟩
 ·show(ah3 _ S).length<=1000;rw[Yg];omega
 refine k _ p _ ((I.trans q).trans J) ((I.trans q).free L) hp (Mi nd rg) λj=>?_;have mx:Lw [m,n] j (if ct n j>ct m j then ct n j else ct m j):=by
  by_cases z:ct n j>ct m j
  ·rw[if_pos z];refine⟨⟨n,by simp,rfl⟩,λx s=>?_⟩;rcases Yn.mp s with y|y
   ·rw[y];omega
   ·rw[Yi.mp y];omega
  ·rw[if_neg z];refine⟨⟨m,by simp,rfl⟩,λx s=>?_⟩;rcases Yn.mp s with y|y
   ·rw[y];omega
   ·rw[Yi.mp y];omega
 by_cases g:j∈S
 ·rw[Lx nd j g (by have:=C.ct j;have:=E.ct j;split<;>omega)];exact mx
 ·have X:ct m j=0:=kX λz=>g ((mem j).mpr (two.mpr (.inl z)));have Y:ct n j=0:=kX λz=>g ((mem j).mpr (two.mpr (.inr z)));rw[HC g];rw[X,Y]at mx;exact mx
def gU(K:Yc):Sp:=λb H Q _=>∃(d a:Ye),b=[.ref d,.ref a]/\∃m n h c,Rd H d (.dK (dI m))/\bI K H a [.int n,.int h,.int c]/\Q (.bl (decide (c<=ct m h))) H
abbrev Gx:List Yo:=["counts","name"]
theorem yz:aE ["counts","name"] Gx (ao lA):=eY
include eV cL bL in
theorem zP(F:bG K "covers_name" "covers_name" lA f fd):∅ 2 f fd Gx (gU K):=by
 refine F.oj yz ?_;rintro _ _ _ _ _ _ _ _ b _ _ _ ⟨d,a,rfl,h⟩;refine⟨_,(au (aL (jg AB (a9 cL bL b (aa (pv 0) (aa (bz (bA (K:=K) rfl) (pv 1) ay (λ_ _=>rfl)) af))) (bz (bA (K:=K) rfl) (pv 1) ay (λ_ _=>rfl)) (bu _)))),?_⟩;obtain⟨m,n,h,c,hd,ha,k⟩:=h;cbv;refine⟨d,m,h,rfl,hd,?_⟩;cbv;exact k
def Fv(K:Yc)(v:V):Prop:=∃a,v=.ref a/\∀H,bI K H a [.str "own",.str "heard",.str "one"]
def ip(K:Yc):Sp:=λd H Q _=>∃(p:Ye) (n c k w cs:V),d=[.ref p,n,c,k,w,cs]/\∃C b,i5 K C/\H p=Ya (.ins C b [])/\∀a,K2 p H a->a p=Ya (.ins C b (u4 n c k w cs))->Q .non a
def i4(K:Yc):Sp:=λe H Q _=>∃(p:Ye) (n c k w cs:V),e=[.ref p,n,c,k,w,cs]/\∃C d,i5 K C/\H p=Ya (.ins C d [])/\∀a t,(∀b o,H b=Ya o->b≠p->a b=Ya o)->a t=Ya (.tup [])->a p=Ya (.ins C d (u4 n c k w (.ref t)))->Q .non a
abbrev zL:List Yo:=["self","number","caller","count","word","causes"]
theorem vN:aE ["self","number","caller","count","word","causes"] zL (ao iP):=eY
include eV in
theorem vU(F:bG K "__init__" "Call.__init__" iP f fd):∅ 1 f fd zL (ip K):=by
 refine F.oj vN ?_;rintro _ _ _ _ _ _ _ _ _ _ _ _ ⟨p,n,c,k,w,cs,rfl,h⟩;refine⟨_,(aj (cE (K:=K) rfl (pv 0) (pv 1) rfl)
   (aj (cE (K:=K) rfl (pv 0) (pv 2) rfl)
   (aj (cE (K:=K) rfl (pv 0) (pv 3) rfl)
   (aj (cE (K:=K) rfl (pv 0) (pv 4) rfl)
   (au (cE (K:=K) rfl (pv 0) (pv 5) rfl)))))),?_⟩
 obtain⟨C,l,⟨cl,n1,n2,n3,n4,n5⟩,hp,q⟩:=h;cbv;intro m d o;cbv;intro r e s;cbv;intro t g u;cbv;intro v i x;cbv;intro y j a;rw[Qr]at a;exact q _ (λb h=>(j b h).trans ((i b h).trans ((g b h).trans ((e b h).trans (d b h))))) a
theorem qV:aE ["self","number","caller","count","word","causes"] zL (ao fL):=eY
variable{dR:Ye}{sL:Ye}{hW:YD}(oO:∅ 1 dR hW zL (ip K))(dU:Binds K hW zL [])(GW:i5 K sL)(BM:mg "Call"=Ya (.ref sL))(fg:Ng K sL "__init__" dR)
include eV oO dU GW BM fg in
theorem qX(F:bG K "__init__" "OwnCall.__init__" fL f fd):∅ 2 f fd zL (i4 K):=by
 refine F.oj qV ?_;rintro _ _ _ _ _ _ _ _ g _ _ _ ⟨p,n,c,k,w,cs,rfl,h⟩;refine⟨_,(au (dw (My rfl BM fg oO dU g (aa (pv 0) (aa (pv 1) (aa (pv 2) (aa (pv 3) (aa (pv 4) (aa (cC af) af))))))))),?_⟩;obtain⟨C,i,T,hp,q⟩:=h;cbv;intro t r s a j;cbv;refine⟨p,n,c,k,w,_,rfl,C,i,T,a _ _ hp,λu d l=>?_⟩;cbv;exact q _ t (λb o e m=>d.at m (a _ _ e)) (d.of (a _ _ hp) j (by intro z;cases z)) l
def zh(K:Yc):Sp:=λa H Q _=>∃(w:Int),a=[.int w]/\Q (.bl (decide ((if w<0 then-w else w)<10^(60:Int).toNat))) H
def Ts(mg:Yo->Option Yd)(kd:Yo)(C:Ye):Prop:=(kd="own"/\mg "OwnCall"=Ya (.ref C))∨(kd="heard"/\mg "HeardCall"=Ya (.ref C))∨(kd="one"/\mg "OneCall"=Ya (.ref C))
def mW(K:Yc)(mg:Yo->Option Yd):Sp:=λe H Q _=>∃(n c k:Int) (kd:Yo) (w:Int) (t:Ye),e=[.int n,.int c,.int k,.str kd,.int w,.ref t]/\∃b,(kd="own"∨kd="heard"∨kd="one")/\(if w<0 then-w else w)<10^(60:Int).toNat/\H t=Ya (.tup b)/\
 ∀a p C f d,aH H a->H p=Yb->Ts mg kd C->i5 K C->a p=Ya (.ins C f (u4 (.int n) (.int c) (.int k) (.int w) (.ref d)))->a d=Ya (.tup (if kd="own"then[]else b))->Q (.ref p) a
def wM(K:Yc):Sp:=λa H Q _=>∃(w:Int),a=[.int w]/\Q (.bl true) H
theorem Fm:aE ["value"] ["value"] (ao sg):=eY
variable(Lb:mg "bool"=Yb)(RZ:mg "int"=Yb)(gX:mg "isinstance"=Yb)
include eV Lb RZ gX in
theorem Er(F:bG K "is_whole" "is_whole" sg f fd):∅ 1 f fd ["value"] (wM K):=by
 refine F.oj Fm ?_;rintro _ _ _ _ _ _ _ _ _ _ _ _ ⟨w,rfl,h⟩;refine⟨_,(au (aL (CG (br (u9 (K:=K) rfl) (by rfl) gX acM (aa (pv 0) (aa (BY RZ ajH) af))) (vn (La (br (u9 (K:=K) rfl) (by rfl) gX acM (aa (pv 0) (aa (BY Lb ajz) af)))))))),?_⟩;cbv;refine⟨_,_,_,true,rfl,.int _,(by kernel_rfl),?_⟩;cbv;refine⟨_,_,_,false,rfl,.int _,(by kernel_rfl),?_⟩;cbv;exact h
theorem FX:aE ["word"] ["word"] (ao vV):=eY
variable{zp:Ye}{wC:YD}(yx:∅ 1 zp wC ["value"] (wM K))(yB:d6 K mg "is_whole" zp wC ["value"])(R8:mg "abs"=Yb)
include eV yx yB R8 in
theorem Gn(F:bG K "is_word" "is_word" vV f fd):∅ 2 f fd ["word"] (zh K):=by
 refine F.oj FX ?_;rintro _ _ _ _ _ _ _ _ a _ _ _ ⟨w,rfl,h⟩;refine⟨_,(au (aL (CG (a9 yx yB a (aa (pv 0) af)) (vn (jg yE (br LH (by rfl) R8 ajI (aa (pv 0) af)) (aX CH ay ay) (bu _)))))),?_⟩;cbv;refine⟨w,rfl,?_⟩;cbv;refine⟨_,rfl,?_⟩;cbv;exact h
abbrev IW:List Yo:=["number","caller","count","kind","word","causes"]
theorem Ct:aE ["number","caller","count","kind","word","causes"] IW (ao qe):=eY
variable{ju:Ye}{Al:Ye}{bf:Ye}{bE:Ye}{bF:Ye}{iZ:YD}{yf:YD}{CT:V}{D8:Yd}(fP:∅ 2 dR hW zL (ip K))(jN:∅ 2 ju iZ zL (i4 K))(jF:Binds K iZ zL [])(Bd:∅ 3 Al yf ["word"] (zh K))(AA:d6 K mg "is_word" Al yf ["word"])(av:i5 K bf)(aA:i5 K bE)(az:i5 K bF)(aw:mg "HeardCall"=Ya (.ref bf))(aB:mg "OneCall"=Ya (.ref bE))(aD:mg "OwnCall"=Ya (.ref bF))(kH:Mk K bf dR)(qS:Mk K bE dR)(qJ:Mk K bF ju)(tZ:mg "KINDS"=Ya D8)(uh:RelV CT D8)(uz:Fv K CT)
include eV fP dU jN jF Bd AA av aA az aw aB aD kH qS qJ tZ uh uz in
theorem Cm(F:bG K "make_call" "make_call" qe f fd):∅ 4 f fd IW (mW K mg):=by
 refine F.oj Ct ?_;rintro _ _ _ _ H _ _ _ r d _ _ ⟨n,c,k,kd,w,t,rfl,h⟩;refine⟨_,(aj (dS (bo (Ii (K:=K) rfl d) (pv 3) (Im rfl tZ uh) (by rfl)) (au D4) bP)
   (aj (dS (tf (dA K rfl (a9 Bd AA r (aa (pv 4) af)))) (au D4) bP)
   (aj (dS (bo qg (pv 3) jH (bu _)) (au (aL (qO qJ jN r rfl aD jF .nil nQ (aa (pv 0) (aa (pv 1) (aa (pv 2) (aa (pv 4) (aa (pv 5) af)))))))) bP)
   (aj (dS (bo qg (pv 3) jH (bu _)) (au (aL (qO kH fP r rfl aw dU .nil nQ (aa (pv 0) (aa (pv 1) (aa (pv 2) (aa (pv 4) (aa (pv 5) af)))))))) bP)
   (au (aL (qO qS fP r rfl aB dU .nil nQ (aa (pv 0) (aa (pv 1) (aa (pv 2) (aa (pv 4) (aa (pv 5) af)))))))))))),?_⟩
 obtain⟨D,g,hw,x,q⟩:=h;obtain⟨E,rfl,z⟩:=uz;have u:=z H;cbv;refine O3 g u ?_;cbv;refine⟨w,rfl,?_⟩;cbv;rw[decide_eq_true hw];cbv;rcases g with rfl|rfl|rfl
 ·rw[VP];cbv;intro p a y hp i j;refine⟨p,_,_,_,_,_,rfl,_,a,az,j,λs A B l C=>⟨rfl,?_⟩⟩;refine q _ p _ a A (λb o e=>B _ _ (i _ _ e) (ax e hp)) hp (.inl ⟨rfl,aD⟩) az C ?_;rw[if_pos rfl];exact l
 ·rw[V7];cbv;rw[Vt];cbv;intro p a y hp i j;refine⟨p,_,_,_,_,_,rfl,_,a,av,j,λs v l=>⟨rfl,?_⟩⟩;have m:aH H s:=λb o e=>v.at (ax e hp) (i _ _ e);refine q _ p _ a t m hp (.inr (.inl ⟨rfl,aw⟩)) av l ?_;rw[if_neg (by decide +kernel)];exact m _ _ x
 ·rw[VG];cbv;rw[Vv];cbv;intro p a y hp i j;refine⟨p,_,_,_,_,_,rfl,_,a,aA,j,λs v l=>⟨rfl,?_⟩⟩;have m:aH H s:=λb o e=>v.at (ax e hp) (i _ _ e);refine q _ p _ a t m hp (.inr (.inr ⟨rfl,aB⟩)) aA l ?_;rw[if_neg (by decide +kernel)];exact m _ _ x
def iS(K:Yc):Sp:=λa H Q _=>∃(p d:Ye),a=[.ref p,.ref d]/\∃C b m n c k w cs,i5 K C/\H p=Ya (.ins C b (u4 n (.int c) (.int k) w cs))/\Rd H d (.dK (dI m))/\Q (.bl (decide (ct m c=k-1))) H
def tR(K:Yc)(mg:Yo->Option Yd):Sp:=λa H Q _=>∃(p d:Ye),a=[.ref p,.ref d]/\∃C b m n c k w cs,mg "OwnCall"=Ya (.ref C)/\H p=Ya (.ins C b (u4 n (.int c) (.int k) w cs))/\Rd H d (.dK (dI m))/\Q (.bl (decide (ct m c=k-1))) H
def jX(K:Yc)(mg:Yo->Option Yd):Sp:=λe H Q _=>∃(p d:Ye),e=[.ref p,.ref d]/\∃C f m n c k w t a ps,(mg "HeardCall"=Ya (.ref C)∨mg "OneCall"=Ya (.ref C))/\H p=Ya (.ins C f (u4 n (.int c) (.int k) w (.ref t)))/\Rd H d (.dK (dI m))/\H t=Ya (.tup a)/\jQ H a ps/\Ck m/\Ck ps/\∀b,aH H b->Q (.bl (decide (ct m c=k-1)&&cov m (eU ps))) b
theorem Uu{ps:List (Int×Int)}(c:Ck ps):Ck (eU ps):=⟨CI c.nd,λp hp=>c.nn p ((cw.mp hp).1),λp hp=>c.rg p ((cw.mp hp).1)⟩
abbrev sf:List Yo:=["self","counts"]
theorem w5:aE ["self","counts"] sf (ao jM):=eY
include eV cL bL in
theorem w6(F:bG K "in_turn" "Call.in_turn" jM f fd):∅ 2 f fd sf (iS K):=by
 refine F.oj w5 ?_;rintro _ _ _ _ _ _ _ _ a _ _ _ ⟨p,d,rfl,h⟩;refine⟨_,(au (aL (jg qg (a9 cL bL a (aa (pv 1) (aa (aJ (K:=K) rfl (pv 0) rfl) af))) (aX yU (aJ (K:=K) rfl (pv 0) rfl) ay) (bu _)))),?_⟩;obtain⟨C,b,m,n,c,k,w,cs,⟨cl,n1,n2,n3,n4,n5⟩,hp,hd,q⟩:=h;cbv;refine⟨d,m,c,rfl,hd,?_⟩;cbv;exact q
theorem Bw:aE ["self","counts"] sf (ao o8):=eY
variable{fZ:Ye}{oy:YD}(eK:∅ 2 fZ oy sf (iS K))(eT:Binds K oy sf [])(dE:bx K bF "in_turn" fZ)
include eV eK eT az aD dE in
theorem Cn(F:bG K "free" "Call.free" o8 f fd):∅ 3 f fd sf (tR K mg):=by
 refine F.oj Bw ?_;rintro _ _ _ _ _ _ _ _ a _ _ _ ⟨p,d,rfl,h⟩;refine⟨_,(au (aL (bO (bV.cons az.cl dE eK eT bV.nil) (pv 0) a (aa (pv 1) af)))),?_⟩;obtain⟨C,b,m,n,c,k,w,cs,e,hp,hd,q⟩:=h;rw[aD]at e;cases e;cbv;exact⟨p,d,rfl,_,b,m,n,c,k,w,cs,az,hp,hd,q⟩
theorem uT:aE ["self","counts"] sf (ao ie):=eY
variable{FF:Ye}{Aj:YD}(FE:∅ 2 FF Aj zq (vf K))(Dm:d6 K mg "covers" FF Aj zq)(iB:∅ 2 ng kj F3 (jY K))(dq:bx K bf "in_turn" fZ)(dN:bx K bE "in_turn" fZ)
include eV FE Dm iB eQ eK eT av aA aw aB dq dN in
theorem tH(F:bG K "free" "HeardCall.free" ie f fd):∅ 3 f fd sf (jX K mg):=by
 refine F.oj uT ?_;rintro _ _ _ _ H _ _ _ o _ _ _ ⟨p,d,rfl,h⟩;refine⟨_,(au (aL (CG (bO (bV.cons av.cl dq eK eT (bV.cons aA.cl dN eK eT bV.nil)) (pv 0) o (aa (pv 1) af)) (vn (a9 FE Dm o (aa (pv 1) (aa (a9 iB eQ o (aa (aJ (K:=K) rfl (pv 0) rfl) af)) af))))))),?_⟩;obtain⟨C,A,m,n,c,k,w,t,s,ps,e,hp,hd,u,v,B,g,q⟩:=h;have T:i5 K C:=by
  rcases e with e|e
  ·rw[aw]at e;cases e;exact av
  ·rw[aB]at e;cases e;exact aA
 have go:∀{i:VK},(i (.bl (decide (ct m c=k-1))) H)->iS K [.ref p,.ref d] H i E0:=λz=>⟨p,d,rfl,_,A,m,n,c,k,w,_,T,hp,hd,z⟩;obtain⟨cl,n1,n2,n3,n4,n5⟩:=id T;have tail:∀{i:VK},(∀x,aH H x->i (.bl (cov m (eU ps))) x)->∀e a,aH H a->a e=Ya (.dK (dI (eU ps)))->vf K [.ref d,.ref e] a i E0:=λz e a b j=>⟨d,e,m,eU ps,rfl,cR b hd,.inl j,B,Uu g,λy l=>z _ (b.trans l)⟩;rcases e with e|e
 ·rw[aw]at e;cases e;cbv;refine go ?_;cbv;refine dh (λh1=>?_) λh1=>?_
  ·cbv;refine⟨t,s,ps,rfl,.inr (bI.of u),v,by have:=g.len;omega,g.nd,λa D b r j=>?_⟩;cbv;refine tail (λy l=>?_) _ _ b j;have:=q _ l;rw[h1,adB]at this;exact this
  ·have h1:=abD.mpr h1;have:=q _ (aH.refl H);rw[h1,ab0]at this;exact this
 ·rw[aB]at e;cases e;cbv;refine go ?_;cbv;refine dh (λh1=>?_) λh1=>?_
  ·cbv;refine⟨t,s,ps,rfl,.inr (bI.of u),v,by have:=g.len;omega,g.nd,λa D b r j=>?_⟩;cbv;refine tail (λy l=>?_) _ _ b j;have:=q _ l;rw[h1,adB]at this;exact this
  ·have h1:=abD.mpr h1;have:=q _ (aH.refl H);rw[h1,ab0]at this;exact this
abbrev E8(m:List (Int×Int))(p:Nm):Prop:=p.2.2<=ct m p.2.1
def lg(K:Yc):Sp:=λc H Q _=>∃(a d:Ye) (i:Nat),c=[.ref a,.ref d,.int i]/\∃b m ns,(bc K H a b∨bI K H a b)/\Rd H d (.dK (dI m))/\oT H b ns/\i<=ns.length/\(∀k (e:k<ns.length),k<i->E8 m ns[k])/\
 ∀j:Nat,j<=ns.length->(∀k (e:k<ns.length),k<j->E8 m ns[k])->(∀f:j<ns.length,¬ E8 m ns[j])->Q (.int j) H
abbrev IS:List Yo:=["places","counts","start"]
theorem kW:aE ["places","counts","start","at"] IS (ao ny):=eY
variable{iy:Ye}{gR:YD}(iA:∅ 2 iy gR Gx (gU K))(cU:d6 K mg "covers_name" iy gR Gx)(eh:mg "len"=Yb)
include eV iA cU eh in
theorem zW(F:bG K "first_open" "first_open" ny f fd):∅ 3 f fd IS (lg K):=by
 refine F.oj kW ?_;rintro _ _ _ _ H _ _ _ r _ _ _ ⟨a,d,i,rfl,h⟩;refine⟨_,(aj (aW (i:=3) kW.nd rfl (Or.inl rfl) (pv 2))
   (aj (zK aai (PW.pt (sY (bo yE (pv 3) (br (de (K:=K) rfl) (by rfl) eh aat (aa (pv 0) af)) (bu _)) (qN (dA K rfl (a9 iA cU r (aa (pv 1) (aa (bz (IE (K:=K) rfl) (pv 0) (pv 3) (λ_ _=>rfl)) af)))))))
   (au (aW (i:=3) kW.nd rfl (Or.inl rfl) (aX eG (pv 3) ay))))
   (au (aL (pv 3))))),?_⟩
 obtain⟨e,m,ns,y,hd,hn,s,g,k⟩:=h;cbv;have hl:=hn.len;let l:Nat->St->Hp->Prop:=λM σ o=>∃j:Nat,M=ns.length-j/\j<=ns.length/\σ=[Ya (.ref a),Ya (.ref d),Ya (.int i),Ya (.int j)]/\o=H/\(∀k (p:k<ns.length),k<j->E8 m ns[k]);refine⟨l,⟨_,i,rfl,s,rfl,rfl,g⟩,?_⟩;rintro M σ o ⟨j,rfl,q,rfl,rfl,n⟩;cbv;refine dh (λh1=>?_) λh1=>?_
 ·have h1:(j:Int)<(e.length:Nat):=of_decide_eq_true h1;have c:j<ns.length:=by omega
  obtain⟨x,t,b,rfl,u⟩:=hn.at c;have v:u5 e (j:Int)=Ya (.ref b):=cD t;cbv;refine⟨d,b,rfl,m,_,_,_,hd,bI.of u,?_⟩;cbv;refine dh (λh2=>?_) λh2=>?_
  ·have h2:E8 m ns[j]:=of_decide_eq_true h2;refine⟨_,λ_ _ z=>z,?_⟩;cbv;refine⟨ns.length-(j+ 1),by omega,j+ 1,rfl,c,rfl,rfl,λk p h=>?_⟩;rcases abx k j with z|z
   ·exact n k p z
   ·obtain rfl:k=j:=by omega
    exact h2
  ·have h2:¬ E8 m ns[j]:=λz=>h2 (decide_eq_true z);cbv;exact k j q n λ_=>h2
 ·have h1:¬ (j:Int)<(e.length:Nat):=λz=>h1 (decide_eq_true z);cbv;exact k j q n λz=>absurd z (by omega)
def sj(K:Yc):Sp:=λc H Q _=>∃(a:Ye) (i:Int),c=[.ref a,.int i]/\∃b,(bc K H a b∨bI K H a b)/\0<=i/\(∀v,b[i.toNat]?=Ya v->Q v H)/\(b.length<=i.toNat->Q .non H)
abbrev LR:List Yo:=["places","at"]
theorem Gj:aE ["places","at"] LR (ao vQ):=eY
include eV eh in
theorem GU(F:bG K "name_at" "name_at" vQ f fd):∅ 1 f fd LR (sj K):=by
 refine F.oj Gj ?_;rintro _ _ _ _ _ _ _ _ _ _ _ _ ⟨a,i,rfl,h⟩;refine⟨_,(au (aL (yF (bo yE (pv 1) (br (de (K:=K) rfl) (by rfl) eh aat (aa (pv 0) af)) (bu _)) (bz (IE (K:=K) rfl) (pv 0) (pv 1) (λ_ _=>rfl)) qH))),?_⟩;obtain⟨b,k,d,e,g⟩:=h;cbv;refine dh (λh1=>?_) λh1=>?_
 ·have h1:i<(b.length:Nat):=of_decide_eq_true h1;have c:i.toNat<b.length:=by omega
  have j:u5 b i=Ya b[i.toNat]:=IL d (Yk c);cbv;exact e _ (Yk c)
 ·have h1:¬ i<(b.length:Nat):=λz=>h1 (decide_eq_true z);cbv;exact g (by omega)
structure bK where
 kd:Yo
 n:Int
 c:Int
 k:Int
 w:Int
 cs:List (Int×Int)
variable{L:Int->Int->Option (V×bK)}{q:V×bK}{n:List (Int×Int)}{zs rw Zj Zv:List (V×bK)}{c:bK}{mk mk' ex:List bK}{es:List (bK×V)}{res:List (Nat×List (V×bK))}
def gY(K:Yc)(mg:Yo->Option Yd)(H:Hp)(v:V)(x:bK):Prop:=∃p C b t a,v=.ref p/\Ts mg x.kd C/\i5 K C/\H p=Ya (.ins C b (u4 (.int x.n) (.int x.c) (.int x.k) (.int x.w) (.ref t)))/\H t=Ya (.tup a)/\jQ H a x.cs/\Ck x.cs
def Vi(H a:Hp):Prop:=(∀p C b fs,H p=Ya (.ins C b fs)->a p=Ya (.ins C b fs))/\dC H a
theorem Vi.same(s:aH H H'):Vi H H':=⟨λ_ _ _ _ e=>s _ _ e,.same s⟩
theorem gY.up(s:Vi H H'){x:bK}(h:gY K mg H v x):gY K mg H' v x:=by
 obtain⟨p,C,a,t,b,c,d,e,f,g,i,j⟩:=h;exact⟨p,C,a,t,b,c,d,e,s.1 _ _ _ _ f,s.2 _ _ g,i.mono s.2,j⟩
def cP(K:Yc):Sp:=λb H Q _=>∃(p:Ye),b=[.ref p]/\∃C d n c k w cs,i5 K C/\H p=Ya (.ins C d (u4 n c k w cs))/\∀a t,aH H a->H t=Yb->a t=Ya (.tup [n,c,k])->Q (.ref t) a
abbrev aO:List Yo:=["self"]
theorem Cu:aE ["self"] aO (ao p5):=eY
include eV in
theorem BF(F:bG K "name" "Call.name" p5 f fd):∅ 1 f fd aO (cP K):=by
 refine F.oj Cu ?_;rintro _ _ _ _ _ _ _ _ _ _ _ _ ⟨p,rfl,h⟩;refine⟨_,(au (aL (cC (aa (aJ (K:=K) rfl (pv 0) rfl) (aa (aJ (K:=K) rfl (pv 0) rfl) (aa (aJ (K:=K) rfl (pv 0) rfl) af)))))),?_⟩;obtain⟨C,g,n,c,k,w,cs,⟨cl,n1,n2,n3,n4,n5⟩,hp,q⟩:=h;cbv;intro t a b d e;exact q a t d b e
def u0(K:Yc):Sp:=λb H Q _=>∃(p:Ye),b=[.ref p]/\∃C d n c k w cs,i5 K C/\H p=Ya (.ins C d (u4 n c k w cs))/\∀a t,aH H a->H t=Yb->a t=Ya (.tup [c,k])->Q (.ref t) a
theorem BR:aE ["self"] aO (ao p9):=eY
include eV in
theorem Bu(F:bG K "rank" "Call.rank" p9 f fd):∅ 1 f fd aO (u0 K):=by
 refine F.oj BR ?_;rintro _ _ _ _ _ _ _ _ _ _ _ _ ⟨p,rfl,h⟩;refine⟨_,(au (aL (cC (aa (aJ (K:=K) rfl (pv 0) rfl) (aa (aJ (K:=K) rfl (pv 0) rfl) af))))),?_⟩;obtain⟨C,g,n,c,k,w,cs,⟨cl,n1,n2,n3,n4,n5⟩,hp,q⟩:=h;cbv;intro t a b d e;exact q a t d b e
def fO(K:Yc):Sp:=λa H Q _=>∃(p:Ye),a=[.ref p]/\Q (.bl false) H
def d4(K:Yc):Sp:=λa H Q _=>∃(p:Ye),a=[.ref p]/\Q (.bl true) H
theorem sh:aE ["self"] aO (ao fV):=eY
include eV in
theorem sJ(F:bG K "asks_place" "Call.asks_place" fV f fd):∅ 1 f fd aO (fO K):=by
 refine F.oj sh ?_;rintro _ _ _ _ _ _ _ _ _ _ _ _ ⟨p,rfl,h⟩;refine⟨_,(au (aL q5)),?_⟩;cbv;exact h
theorem oS:aE ["self"] aO (ao eP):=eY
include eV in
theorem oQ(F:bG K "asks_place" "OneCall.asks_place" eP f fd):∅ 1 f fd aO (d4 K):=by
 refine F.oj oS ?_;rintro _ _ _ _ _ _ _ _ _ _ _ _ ⟨p,rfl,h⟩;refine⟨_,(au (aL q5)),?_⟩;cbv;exact h
noncomputable def QV(m:List (Int×Int))(x:bK):Bool:=decide (ct m x.c=x.k-1)&&(decide (x.kd="own")||cov m (eU x.cs))
noncomputable def DZ(m:List (Int×Int))(x:bK)(o:Option Nm):Bool:=QV m x&&(!decide (x.kd="one")||decide (o=Ya (x.n,x.c,x.k)))
def Ss(H:Hp)(v:V):Option Nm->Prop
 |none=>v=.non
 |some q=>xk H v q
theorem Ss.up(s:dC H H'){o:Option Nm}(h:Ss H v o):Ss H' v o:=by
 cases o with
 |none=>exact h
 |some q=>obtain⟨a,b,c⟩:=h;exact⟨a,b,s _ _ c⟩
noncomputable def Wr:Option Nm->abJ
 |none=>.none
 |some q=>sM q
theorem Wy{K:Yc}{o:Option Nm}(h:Ss H v o):Dl K H v (Wr o):=by
 cases o with
 |none=>obtain rfl:v=.non:=h;exact .inl .none
 |some q=>exact .inl (xk.dp h)
theorem SU(o:Option Nm):(Wr o).canLay0=true:=by
 cases o with
 |none=>rfl
 |some q=>exact Gm q
theorem SH(o:Option Nm):(Wr o).depth<=60:=by
 cases o with
 |none=>show 0<=60;decide
 |some q=>show 1<=60;decide
theorem WA(q r:Nm):(sM q).eqv (sM r)=decide (r=q):=by
 have e:(sM q).eqv (sM r)=(decide (q.1=r.1)&&(decide (q.2.1=r.2.1)&&(decide (q.2.2=r.2.2)&&true))):=by rfl
 rw[e];obtain⟨a,b,c⟩:=q;obtain⟨x,y,z⟩:=r;by_cases h:(x,y,z)=(a,b,c)
 ·cases h;simp
 ·rw[decide_eq_false h];simp at h⊢;intro h1 h2 h3;exact h h1.symm h2.symm h3.symm
theorem Vx(q:Nm)(o:Option Nm):(sM q).eqv (Wr o)=decide (o=Ya q):=by
 cases o with
 |none=>rfl
 |some r=>
  show(sM q).eqv (sM r)=_;rw[WA];by_cases z:r=q
  ·rw[z,decide_eq_true rfl,decide_eq_true rfl]
  ·rw[decide_eq_false z,decide_eq_false (λw=>z (YK w))]
def sS(K:Yc)(mg:Yo->Option Yd):Sp:=λb H Q _=>∃(v:V),b=[v]/\∃x,gY K mg H v x/\∀a t,aH H a->H t=Yb->a t=Ya (.tup [.int x.c,.int x.k])->Q (.ref t) a
abbrev pW:List Yo:=["call"]
theorem Ga:aE ["call"] pW (ao vE):=eY
variable{kI:Ye}{uE:YD}(kD:∅ 1 kI uE aO (u0 K))(kJ:Binds K uE aO [])(ef:bx K bf "rank" kI)(fJ:bx K bE "rank" kI)(fF:bx K bF "rank" kI)
include eV kD kJ av aA az aw aB aD ef fJ fF in
theorem F1(F:bG K "rank_of" "rank_of" vE f fd):∅ 2 f fd pW (sS K mg):=by
 refine F.oj Ga ?_;rintro _ _ _ _ _ _ _ _ d _ _ _ ⟨v,rfl,h⟩;refine⟨_,(au (aL (bB (bV.cons az.cl fF kD kJ (bV.cons av.cl ef kD kJ (bV.cons aA.cl fJ kD kJ bV.nil))) (pv 0) d))),?_⟩;obtain⟨x,⟨p,C,a,t,i,rfl,g,b,hp,j,k,l⟩,c⟩:=h;rcases g with⟨_,e⟩|⟨_,e⟩|⟨_,e⟩
 ·rw[aD]at e;cases e;cbv;exact⟨p,rfl,_,a,_,_,_,_,_,b,hp,c⟩
 ·rw[aw]at e;cases e;cbv;exact⟨p,rfl,_,a,_,_,_,_,_,b,hp,c⟩
 ·rw[aB]at e;cases e;cbv;exact⟨p,rfl,_,a,_,_,_,_,_,b,hp,c⟩
theorem VR:decide (("own":Yo)="own")=true:=by decide +kernel
theorem Wh:decide (("heard":Yo)="own")=false:=by decide +kernel
theorem LV:decide (("one":Yo)="own")=false:=by decide +kernel
theorem RG:decide (("own":Yo)="one")=false:=by decide +kernel
theorem RL:decide (("heard":Yo)="one")=false:=by decide +kernel
theorem RE:decide (("one":Yo)="one")=true:=by decide +kernel
def og(K:Yc)(mg:Yo->Option Yd):Sp:=λb H Q _=>∃(v:V) (d:Ye) (y:V),b=[v,.ref d,y]/\∃x m o,gY K mg H v x/\Rd H d (.dK (dI m))/\Ck m/\Ss H y o/\∀a,aH H a->Q (.bl (DZ m x o)) a
abbrev CU:List Yo:=["call","counts","name"]
theorem xn:aE ["call","counts","name"] CU (ao jl):=eY
variable{wD:Ye}{hJ:Ye}{eX:Ye}{d5:Ye}{eO:Ye}{uk:YD}{kK:YD}{f9:YD}{fM:YD}{dZ:YD}(j6:∅ 3 wD uk sf (tR K mg))(j5:Binds K uk sf [])(cV:∅ 3 hJ kK sf (jX K mg))(cW:Binds K kK sf [])(km:∅ 3 eX f9 aO (cP K))(bj:Binds K f9 aO [])(cJ:∅ 3 d5 fM aO (fO K))(bH:Binds K fM aO [])(df:∅ 3 eO dZ aO (d4 K))(bS:Binds K dZ aO [])(aR:bx K bf "asks_place" d5)(cj:bx K bf "free" hJ)(aV:bx K bf "name" eX)(a8:bx K bE "asks_place" eO)(cO:bx K bE "free" hJ)(bg:bx K bE "name" eX)(a7:bx K bF "asks_place" d5)(cK:bx K bF "free" wD)(bh:bx K bF "name" eX)
include eV j6 j5 cV cW km bj cJ bH df bS av aA az aw aB aD aR cj aV a8 cO bg a7 cK bh in
theorem xE(F:bG K "can_be_taken" "can_be_taken" jl f fd):∅ 4 f fd CU (og K mg):=by
 refine F.oj xn ?_;rintro _ _ _ _ H _ _ _ z g _ _ ⟨v,d,y,rfl,h⟩;refine⟨_,(au (aL (CG (bO (bV.cons az.cl cK j6 j5 (bV.cons av.cl cj cV cW (bV.cons aA.cl cO cV cW bV.nil))) (pv 0) z (aa (pv 1) af)) (vn (RY (La (bB (bV.cons az.cl a7 cJ bH (bV.cons av.cl aR cJ bH (bV.cons aA.cl a8 df bS bV.nil))) (pv 0) z)) (vn (jg (L7 (K:=K) rfl g) (bB (bV.cons az.cl bh km bj (bV.cons av.cl aV km bj (bV.cons aA.cl bg km bj bV.nil))) (pv 0) z) (pv 2) (bu _)))))))),?_⟩;obtain⟨x,m,o,⟨p,C,i,t,A,rfl,B,I,hp,D,q,r⟩,hd,E,J,a⟩:=h;obtain⟨kd,n,c,k,w,cs⟩:=x;have B:Ts mg kd C:=B;have hp:H p=Ya (.ins C i (u4 (.int n) (.int c) (.int k) (.int w) (.ref t))):=hp;have q:jQ H A cs:=q;have r:Ck cs:=r;rcases B with⟨rfl,e⟩|⟨rfl,e⟩|⟨rfl,e⟩
 ·have j:DZ m ⟨"own",n,c,k,w,cs⟩ o=decide (ct m c=k-1):=by
   unfold DZ QV;rw[VR,RG];simp
  rw[j]at a;rw[aD]at e;cases e;cbv;refine⟨p,d,rfl,_,i,m,_,c,k,_,_,aD,hp,hd,?_⟩;cbv;refine dh (λh1=>?_) λh1=>?_
  ·cbv;refine⟨p,rfl,?_⟩;cbv;have:=a H (.refl _);rw[h1]at this;exact this
  ·have h1:=abD.mpr h1;have:=a H (.refl _);rw[h1]at this;exact this
 ·have j:DZ m ⟨"heard",n,c,k,w,cs⟩ o=(decide (ct m c=k-1)&&cov m (eU cs)):=by
   unfold DZ QV;rw[Wh,RL];simp
  rw[j]at a;rw[aw]at e;cases e;cbv;refine⟨p,d,rfl,_,i,m,_,c,k,_,t,A,cs,.inl aw,hp,hd,D,q,E,r,λs b=>?_⟩;have l:=b _ _ hp;cbv;refine dh (λh1=>?_) λh1=>?_
  ·cbv;refine⟨p,rfl,?_⟩;cbv;have:=a s b;rw[h1]at this;exact this
  ·have h1:=abD.mpr h1;have:=a s b;rw[h1]at this;exact this
 ·have j:DZ m ⟨"one",n,c,k,w,cs⟩ o=((decide (ct m c=k-1)&&cov m (eU cs))&&decide (o=Ya (n,c,k))):=by
   unfold DZ QV;rw[LV,RE];simp
  rw[j]at a;rw[aB]at e;cases e;cbv;refine⟨p,d,rfl,_,i,m,_,c,k,_,t,A,cs,.inr aB,hp,hd,D,q,E,r,λs b=>?_⟩;have l:=b _ _ hp;cbv;refine dh (λh1=>?_) λh1=>?_
  ·cbv;refine⟨p,rfl,?_⟩;cbv;refine⟨p,rfl,_,i,_,_,_,_,_,I,l,λL u G M N=>?_⟩;cbv;refine⟨sM (n,c,k),Wr o,.inl (xk.dp ⟨u,rfl,N⟩),Wy (J.up (.same (b.trans G))),Gm _,SU _,by have:=SH o;omega,?_⟩;rw[Vx];have:=a L (b.trans G);rw[h1,adB]at this;exact this
  ·have h1:=abD.mpr h1;have:=a s b;rw[h1,ab0]at this;exact this
theorem Pf{td ty:TE}(h:td σ H λx b=>∃a,x=.ref a/\Vj b a/\ty σ b λy c=>∃o,iK c a y o/\Q (o.getD .non) c):MU td ty σ H Q:=h
structure Sj(K:Yc)(mg:Yo->Option Yd)(H:Hp)(D:Ye)(L:Int->Int->Option (V×bK)):Prop where
 dc:∃kvs,H D=Ya (.dT kvs)/\∀a b,eF kvs [YN a,YN b]=(L a b).map (·.1)
 cl:∀a b v x,L a b=Ya (v,x)->gY K mg H v x/\x.c=a/\x.k=b
theorem Sj.same{D:Ye}(h:Sj K mg H D L)(s:aH H H'):Sj K mg H' D L:=by
 obtain⟨⟨c,f,g⟩,d⟩:=h;exact⟨⟨c,s _ _ f,g⟩,λa b v x e=>⟨(d a b v x e).1.up (.same s),(d a b v x e).2⟩⟩
noncomputable def DW(L:Int->Int->Option (V×bK))(m:List (Int×Int))(o:Option Nm)(h:Int):Option (V×bK):=(L h (ct m h+ 1)).bind λq=>if DZ m q.2 o=true then Ya q else Yb
noncomputable def fst(hs:List Int)(L:Int->Int->Option (V×bK))(m:List (Int×Int))(o:Option Nm):Option (V×bK):=hs.findSome? (DW L m o)
noncomputable def Rx:Option (V×bK)->V
 |none=>.non
 |some q=>q.1
def mD(K:Yc)(mg:Yo->Option Yd):Sp:=λc H Q _=>∃(a D d:Ye) (y:V),c=[.ref a,.ref D,.ref d,y]/\∃hs L m o,bc K H a (hs.map V.int)/\Sj K mg H D L/\Rd H d (.dK (dI m))/\Ck m/\Ss H y o/\∀b,aH H b->Q (Rx (fst hs L m o)) b
abbrev EL:List Yo:=["callers","ranked","counts","name"]
theorem hV:aE ["callers","ranked","counts","name","caller","call"] EL (ao iU):=eY
variable{qp:Ye}{oJ:YD}(iF:∅ 4 sR pP Je (pU K))(pN:∅ 4 qp oJ CU (og K mg))(qB:d6 K mg "can_be_taken" qp oJ CU)
include eV iF bL pN qB av aA az aw aB aD in
theorem vY(F:bG K "first_to_take" "first_to_take" iU f fd):∅ 5 f fd EL (mD K mg):=by
 refine F.oj hV ?_;rintro _ A _ _ H _ _ _ E _ _ N ⟨a,D,d,y,rfl,h⟩;refine⟨_,(aj (jC aai rfl (bC (K:=K) rfl (pv 0)) (aP (i:=4) hV.nd rfl (Or.inl rfl))
   (aj (aW (i:=5) hV.nd rfl (Or.inl rfl) (MK N (pv 1) (cC (aa (pv 4) (aa (aX eG (a9 iF bL E (aa (pv 2) (aa (pv 4) af))) ay) af))) ⟨rfl,rfl,rfl,rfl⟩))
   (au (dS (PW.pt (sY (bo xZ (pv 5) qH (bu _)) (qN (dA K rfl (a9 pN qB E (aa (pv 5) (aa (pv 2) (aa (pv 3) af)))))))) (au (aL (pv 5))) bP))))
   (au (aL qH))),?_⟩
 obtain⟨hs,L,m,o,O,R,hd,Q,S,G⟩:=h;refine zt ?_;cbv;let l:Nat->St->Hp->Prop:=λi σ A=>∃n r,σ=[Ya (.ref a),Ya (.ref D),Ya (.ref d),Ya y,n,r]/\aH H A/\(hs.take i).findSome? (DW L m o)=Yb;refine l9 (xs:=hs.map V.int) l ⟨Yb,Yb,rfl,.refl _,rfl⟩ (λi σ A _ z=>by obtain⟨_,_,_,z,_⟩:=z;exact z.seq O) ?_ ?_
 ·rintro i x σ A T ⟨n,r,rfl,b,hn⟩;obtain⟨h,j,rfl⟩:=gz T;have U:=R.same b;have g:=cR b hd;obtain⟨⟨s,I,W⟩,X⟩:=id U;have Y:fst hs L m o=((DW L m o h).or ((hs.drop (i+ 1)).findSome? (DW L m o))):=by
   unfold fst;have Z:=(Yj.mp j).1;have e:hs=hs.take i++(h::hs.drop (i+ 1)):=by
    conv=>lhs;rw[←List.take_append_drop i hs,ae1 Z,(Yj.mp j).2]
   conv=>lhs;rw[e,adS,hn,adp,aee]
   cases DW L m o h<;>rfl
  refine zt ?_;cbv;refine Pf ?_;cbv;refine⟨D,rfl,.inr ⟨s,.inl I⟩,?_⟩;cbv;refine⟨d,m,h,rfl,g,?_⟩;cbv;intro t A1 ht c g1;have u:=c _ _ I;refine⟨_,iK.t (k:=[YN h,YN (ct m h+ 1)]) u g1,?_⟩;rw[W];cases z:L h (ct m h+ 1)with
  |none=>
   have tn:DW L m o h=none:=by unfold DW;rw[z];rfl
   rw[Option.map_none,afb];cbv;rw[show decide (V.non=V.non)=true from decide_eq_true rfl];cbv;refine⟨_,_,rfl,b.trans c,?_⟩;rw[aQ j,adS,hn,adp,aee,tn];rfl
  |some q=>
   obtain⟨v,x⟩:=q;have J:=(X _ _ _ _ z).1;obtain⟨p,C,dx,t',ab,ev,_⟩:=id J;have B:=J.up (.same c);subst ev;rw[abW,afh];cbv;rw[show decide (V.ref p=V.non)=false from decide_eq_false (by intro z;cases z)];cbv;refine⟨.ref p,d,y,rfl,x,m,o,B,cR c g,Q,S.up (.same (b.trans c)),λA2 M=>?_⟩;cbv;refine dh (λh2=>?_) λh2=>?_
   ·have ts:DW L m o h=Ya (.ref p,x):=by unfold DW;rw[z];show(if DZ m x o=true then _ else _)=_;rw[if_pos h2]
    cbv;have:=G A2 (b.trans (c.trans M));rw[Y,ts]at this;exact this
   ·have tn:DW L m o h=none:=by unfold DW;rw[z];show(if DZ m x o=true then _ else _)=_;rw[if_neg h2]
    refine⟨_,_,rfl,b.trans (c.trans M),?_⟩;rw[aQ j,adS,hn,adp,aee,tn];rfl
 rintro σ A ⟨n,r,rfl,b,hn⟩;rw[show hs.take (hs.map V.int).length=hs by rw[Yg,YY]]at hn;cbv;have:=G A b;unfold fst at this;rw[hn]at this;exact this
noncomputable def UN(hs:List Int)(l:Int):List Int:=(hs.filter λh=>decide (l<=h))++hs.filter λh=>decide (h<l)
def oF(K:Yc):Sp:=λc H Q _=>∃(a:Ye) (l:Int),c=[.ref a,.int l]/\∃hs:List Int,bc K H a (hs.map V.int)/\hs.length<=400/\∀b q,aH H b->H q=Yb->b q=Ya (.lst ((UN hs l).map V.int))->Q (.ref q) b
abbrev Ej:List Yo:=["callers","last"]
theorem xh:aE ["callers","last"] Ej (ao jK):=eY
include eV in
theorem xD(F:bG K "callers_from" "callers_from" jK f fd):∅ 1 f fd Ej (oF K):=by
 refine F.oj xh ?_;rintro _ A _ _ H _ _ _ _ _ _ _ ⟨a,l,rfl,h⟩;refine⟨_,(au (aL (aX FY (bM ["last","caller"] [Ya 1,Yb] rfl rfl (by kernel_rfl) (bC (K:=K) rfl (pv 0)) (λ_ _ _ _ _ nd=>aP (i:=1) nd rfl (Or.inl rfl)) (λ_ _ _ _ _=>(d9 (bo AB (pv 1) (pv 0) (bu _)))) (λ_ _ _ _ _=>(pv 1))) (bM ["last","caller"] [Ya 1,Yb] rfl rfl (by kernel_rfl) (bC (K:=K) rfl (pv 0)) (λ_ _ _ _ _ nd=>aP (i:=1) nd rfl (Or.inl rfl)) (λ_ _ _ _ _=>(d9 (bo yE (pv 1) (pv 0) (bu _)))) (λ_ _ _ _ _=>(pv 1)))))),?_⟩;obtain⟨hs,p,J,t⟩:=h;cbv;intro D r;refine bD (K:=K) (a:=a) (xs:=hs.map V.int) (λi σ A=>∃v,σ=[Ya (.int l),v]/\aH H A/\A D=Ya (.lst (((hs.take i).filter λh=>decide (l<=h)).map V.int))) ⟨Yb,rfl,aC r,ai⟩ ?_ ?_ ?_
 ·rintro i σ A _ ⟨_,_,z,_⟩;exact z.seq p
 ·rintro i x σ A m ⟨v,rfl,d,g⟩;obtain⟨h,c,rfl⟩:=gz m;have u:=(Yj.mp c).1;have y:=Y0 (λh=>decide (l<=h)) (hs.take i);have lt:=acd i hs;cbv;refine dh (λh1=>?_) λh1=>?_
  ·cbv;refine⟨_,g,by rw[Yg];exact aG (by omega),_,rfl,λb o z=>?_,?_⟩
   ·rw[ak (ax z r)];exact d b o z
   ·rw[ai,aQ c,Y3,Yx];congr 2;simp at h1;simp[h1]
  ·refine⟨_,rfl,d,?_⟩;rw[g,aQ c,Y3,Yx];congr 1;simp at h1;simp[h1]
 rintro σ A ⟨v,rfl,d,g⟩;rw[show hs.take (hs.map V.int).length=hs by rw[Yg,YY]]at g;have n:=d.seq p;cbv;intro C j;refine bD (K:=K) (a:=a) (xs:=hs.map V.int) (λi σ B=>∃v,σ=[Ya (.int l),v]/\aH A B/\B C=Ya (.lst (((hs.take i).filter λh=>decide (h<l)).map V.int))) ⟨Yb,rfl,aC j,ai⟩ ?_ ?_ ?_
 ·rintro i σ B _ ⟨_,_,z,_⟩;exact z.seq n
 ·rintro i x σ B m ⟨v,rfl,e,k⟩;obtain⟨h,c,rfl⟩:=gz m;have u:=(Yj.mp c).1;have y:=Y0 (λh=>decide (h<l)) (hs.take i);have lt:=acd i hs;cbv;refine dh (λh1=>?_) λh1=>?_
  ·cbv;refine⟨_,k,by rw[Yg];exact aG (by omega),_,rfl,λb o z=>?_,?_⟩
   ·rw[ak (ax z j)];exact e b o z
   ·rw[ai,aQ c,Y3,Yx];congr 2;simp at h1;simp[h1]
  ·refine⟨_,rfl,e,?_⟩;rw[k,aQ c,Y3,Yx];congr 1;simp at h1;simp[h1]
 rintro σ B ⟨v,rfl,e,k⟩;rw[show hs.take (hs.map V.int).length=hs by rw[Yg,YY]]at k;have L:=Y0 (λh=>decide (l<=h)) hs;have M:=Y0 (λh=>decide (h<l)) hs;refine Lf (e _ _ g) k (by rw[Yg,Yg];omega) λq E G I s=>?_;rw[←Yx]at s;exact t E q (d.trans (e.trans I)) ((d.trans e).free G) s
noncomputable def FL(ns:List Nm)(m:List (Int×Int)):Option Nm:=ns.find? λp=>!decide (E8 m p)
theorem Ld{m:List (Int×Int)}:∀{ns:List Nm} {j:Nat},(∀k (hk:k<ns.length),k<j->E8 m ns[k])->(∀a:j<ns.length,¬ E8 m ns[j])->j<=ns.length->FL ns m=ns[j]?
 |[],j,_,_,_=>by simp[FL]
 |p::ns,0,_,h,_=>by
  have:=h (by simp);unfold FL;rw[afX (by simpa using this)];rfl
 |p::ns,j+ 1,h1,h2,h3=>by
  have hp:=h1 0 (by simp) (by omega);have b:=Ld (m:=m) (ns:=ns) (j:=j) (λk hk c=>h1 (k+ 1) (ah4 hk) (by omega)) (λa=>h2 (ah4 a)) (by simpa using h3);unfold FL at b⊢;rw[List.find?_cons_of_neg (by simpa using hp),b];simp
noncomputable def Vo(hs:List Int):Option Int->List Int
 |none=>hs
 |some l=>UN hs l
noncomputable def z9(cs:List (V×bK))(a b:Int):Option (V×bK):=cs.reverse.find? λq=>decide (q.2.c=a/\q.2.k=b)
inductive Fw (hs:List Int) (L:Int->Int->Option (V×bK)) (ns:List Nm) (m0:List (Int×Int)):List (V×bK)->Option Int->List (Int×Int)->Prop
 |start:Fw hs L ns m0 [] Yb m0
 |step {rw:List (V×bK)} {Zh:Option Int} {m:List (Int×Int)} {v:V} {x:bK}:Fw hs L ns m0 rw Zh m->fst (Vo hs Zh) L m (FL ns m)=Ya (v,x)->Fw hs L ns m0 (rw++[(v,x)]) (Ya x.c) (d3 m x.c x.k)
theorem flt{α:Type}{p q:α->Bool}:∀{l:List α},(∀a∈l,q a=true->p a=true)->∀{x:α},x∈l->p x=true->q x=false->(l.filter q).length<(l.filter p).length
 |a::l,h,x,hx,px,qx=>by
  have hl:(l.filter q).length<=(l.filter p).length:=by
   have:∀(c:List α),(∀a∈c,q a=true->p a=true)->(c.filter q).length<=(c.filter p).length:=by
    intro c
    induction c with
    |nil=>intro _;exact Yl _
    |cons b c ih=>
     intro d;have i:=ih λa ha=>d a (Yr _ ha);have:=d b Ys;rw[aak,aak];cases z:q b
     ·cases w:p b<;>simp<;>omega
     ·rw[this z];simp;omega
   exact this l λb d=>h b (Yr _ d)
  rcases Yn.mp hx with z|z
  ·rw[←z,aak,aak,px,qx];simp;omega
  ·have i:=flt (l:=l) (λb d=>h b (Yr _ d)) z px qx;have ha:=h a Ys;rw[aak,aak];cases y:q a
   ·cases w:p a<;>simp<;>omega
   ·rw[ha y];simp;omega
noncomputable def mz(cs:List bK)(m:List (Int×Int)):Nat:=(cs.filter λq=>decide (ct m q.c<q.k)).length
theorem Mj{cs:List bK}{x:bK}(a:x∈cs)(hk:x.k=ct m x.c+ 1):mz cs (d3 m x.c x.k)<mz cs m:=by
 unfold mz;refine flt (λq _ h=>?_) a (decide_eq_true (by omega)) (decide_eq_false ?_)
 ·have h:=of_decide_eq_true h;rw[tD]at h;refine decide_eq_true ?_;by_cases z:q.c=x.c
  ·rw[if_pos z]at h;rw[z];omega
  ·rw[if_neg z]at h;exact h
 ·rw[tD,if_pos rfl];omega
theorem x9{hs:List Int}{o:Option Nm}{x:bK}(h:fst hs L m o=Ya (v,x)):∃h∈hs,L h (ct m h+ 1)=Ya (v,x)/\DZ m x o=true:=by
 unfold fst at h;obtain⟨a,hm,e⟩:=List.exists_of_findSome?_eq_some h;refine⟨a,hm,?_⟩;unfold DW at e;cases z:L a (ct m a+ 1)with
 |none=>rw[z]at e;cases e
 |some q=>
  rw[z]at e;have e:(if DZ m q.2 o=true then Ya q else Yb)=Ya (v,x):=e;by_cases w:DZ m q.2 o=true
  ·rw[if_pos w]at e;cases e;exact⟨rfl,w⟩
  ·rw[if_neg w]at e;cases e
theorem qR{cs:List (V×bK)}{a b:Int}(h:z9 cs a b=Ya q):q∈cs/\q.2.c=a/\q.2.k=b:=by
 unfold z9 at h;have h1:=List.mem_of_find?_eq_some h;have h2:=aiy h;have h2:=of_decide_eq_true h2;exact⟨ah5.mp h1,h2⟩
theorem KJ{k:List bJ}:∀(ps:List (List bJ×V)) (a:List (List bJ×V)),eF (ps.foldl (λa p=>gL a p.1 p.2) a) k=((ps.reverse.find? λp=>decide (p.1=k)).map (·.2)).or (eF a k):=by
 intro ps
 induction ps with
 |nil=>intro a;rfl
 |cons p ps ih=>
  intro a;rw[abe,ih,aht,ahz];cases z:ps.reverse.find? λp=>decide (p.1=k)with
  |some q=>rfl
  |none=>
   rw[adp,Lu,abV];by_cases w:k=p.1
   ·rw[if_pos w,decide_eq_true w.symm];rfl
   ·rw[if_neg w,decide_eq_false (λu=>w u.symm)];rfl
abbrev Fn(K:Yc)(mg:Yo->Option Yd)(H:Hp):List V->List bK->Prop:=fm (gY K mg H)
theorem pI(s:Vi H H'){vs:List V}{cs:List bK}(h:Fn K mg H vs cs):Fn K mg H' vs cs:=fm.mapP h λ_ _ z=>z.up s
noncomputable def UW(q:V×bK):List bJ×V:=([YN q.2.c,YN q.2.k],q.1)
theorem QZ(cs:List (V×bK))(a b:Int):eF (jn (cs.map UW)) [YN a,YN b]=(z9 cs a b).map (·.1):=by
 unfold jn;rw[KJ];have e:(eF ([]:List (List bJ×V)) [YN a,YN b])=none:=rfl;rw[e,Option.or_none,←List.map_reverse,List.find?_map,af9];unfold z9;have c:((λp:List bJ×V=>decide (p.1=[YN a,YN b]))∘UW)=λq:V×bK=>decide (q.2.c=a/\q.2.k=b):=by
  funext q;show decide (([YN q.2.c,YN q.2.k]:List bJ)=[YN a,YN b])=_;congr 1;simp
 rw[c];rfl
theorem B6(s:dC H H'){ps:List (List bJ×V)}(h:E3 H xs ps):E3 H' xs ps:=fm.mapP h λ_ _ ⟨a,b,c,d,e⟩=>⟨a,b,c,s _ _ d,s _ _ e⟩
theorem Bb:∀{xs:List V} {ps:List (List bJ×V)} {x:V} {p:List bJ×V},E3 H xs ps->(∃a b,x=.ref a/\H a=Ya (.tup [.ref b,p.2])/\H b=Ya (.tup (p.1.map kV)))->E3 H (xs++[x]) (ps++[p]):=by
 intro c d e f w h
 induction w with
 |nil=>exact .cons h .nil
 |cons r _ ih=>exact .cons r ih
theorem Dh{α β:Type}:∀(l:List α) (m:List β) (i:Nat) {a:α} {b:β},l[i]?=Ya a->m[i]?=Ya b->(l.zip m).take (i+ 1)=(l.zip m).take i++[(a,b)]:=by
 intro l m i a b h1 h2;exact aQ (by rw[aeX];exact⟨h1,h2⟩)
theorem AH{k b:Int}(h:Lw [m,n] k b):b=max (ct m k) (ct n k):=by
 obtain⟨⟨q,a,e⟩,u⟩:=h;have c:=u m (by simp);have d:=u n (by simp);simp at a;rcases a with z|z<;>rw[z]at e<;>omega
theorem xW{α β:Type}{F:α->β->Prop}:∀{l:List α} {m:List β} {q:α×β},fm F l m->q∈l.zip m->F q.1 q.2:=by
 intro a b q w h
 induction w with
 |nil=>simp at h
 |cons r _ ih=>
  rw[aev]at h;rcases Yn.mp h with z|z
  ·rw[z];exact r
  ·exact ih z
theorem EI{K:Yc}(s:∀o,H b=Ya o->A b=Ya o)(h:bc K H b xs∨bI K H b xs):bc K A b xs∨bI K A b xs:=by
 rcases h with h|h
 ·refine .inl ?_;rcases h with(h|⟨z,h⟩)|h
  ·exact .inl (.inl (s _ h))
  ·exact .inl (.inr ⟨z,s _ h⟩)
  ·exact .inr h
 ·refine .inr ?_;rcases h with(h|⟨z,h⟩)|h
  ·exact .inl (.inl (s _ h))
  ·exact .inl (.inr ⟨z,s _ h⟩)
  ·exact .inr h
theorem G4{k v:Int}(t:Td m)(a:0<=k)(b:k<63)(c:0<v):Td (d3 m k v):=by
 refine⟨t.toCk.put a b (by omega),λe d=>?_⟩;rcases tF _ _ _ _ d with z|z
 ·rw[z];exact c
 ·exact t.ps e z
theorem DR{K:Yc}{c:VK}(d:bc K A b xs∨bI K A b xs)(hn:oT A xs ns)(h1:j<=ns.length)(h2:∀k (hk:k<ns.length),k<j->E8 m ns[k])(h3:∀g:j<ns.length,¬ E8 m ns[j])(q:∀y,Ss A y (FL ns m)->c y A):sj K [.ref b,.int j] A c E0:=by
 have e:=Ld h2 h3 h1;refine⟨b,j,rfl,xs,d,by omega,λv a=>q v ?_,λa=>q .non ?_⟩
 ·rw[YQ]at a;obtain⟨p,hp,f⟩:=hn.get a;rw[e,hp];exact f
 ·rw[YQ]at a;have:=hn.len;rw[e,abr (by omega)];rfl
def F6(K:Yc)(mg:Yo->Option Yd):Sp:=λn H Q _=>∃(d a b:Ye),n=[.ref d,.ref a,.ref b]/\∃m f cs g ns,Rd H d (.dK (dI m))/\Ck m/\bc K H a f/\Fn K mg H f cs/\cs.length<=60/\(∀x∈cs,0<=x.c/\x.c<63)/\(bc K H b g∨bI K H b g)/\oT H g ns/\
 ∀c t l r hs i rw j e,aH H c->H l=Yb->H r=Yb->c t=Ya (.tup [.ref l,.ref r])->c l=Ya (.lst ((rw:List (V×bK)).map (·.1)))->c r=Ya (.dK (dI e))->Td e->hs.Pairwise (·<·)->(∀h,h∈hs↔∃x∈cs,x.c=h)->Td i->(∀k,ct i k=ct m k)->Fw hs (z9 (f.zip cs)) ns i rw j e->fst (Vo hs j) (z9 (f.zip cs)) e (FL ns e)=Yb->Q (.ref t) c
abbrev qm:List Yo:=["counts","calls","places"]
theorem m7:aE ["counts","calls","places","reached","ranked","callers","row","at","call"] qm (ao Li):=eY
variable{yg:Ye}{m8:Ye}{Bf:Ye}{vi:Ye}{oN:Ye}{qG:Ye}{vy:YD}{kU:YD}{zG:YD}{r6:YD}{my:YD}{nJ:YD}(Dk:∅ 5 yg vy zq (vA K))(uD:d6 K mg "joined" yg vy zq)(mS:∅ 5 m8 kU IS (lg K))(f7:d6 K mg "first_open" m8 kU IS)(vz:∅ 5 Bf zG LR (sj K))(vW:d6 K mg "name_at" Bf zG LR)(Ai:∅ 5 vi r6 pW (sS K mg))(fR:d6 K mg "rank_of" vi r6 pW)(iQ:∅ 5 oN my EL (mD K mg))(iX:d6 K mg "first_to_take" oN my EL)(pQ:∅ 5 qG nJ Ej (oF K))(oZ:d6 K mg "callers_from" qG nJ Ej)
include eV Dk uD mS f7 vz vW Ai fR iQ iX pQ oZ pT AU dP av aA az aw aB aD in
theorem Sz(F:bG K "run" "run" Li f fd):∅ 6 f fd qm (F6 K mg):=by
 refine F.oj m7 ?_;rintro _ A _ _ H _ _ E I aw _ hu ⟨d,a,b,rfl,h⟩;refine⟨_,(aj (aW (i:=3) m7.nd rfl (Or.inl rfl) (a9 Dk uD I (aa (pv 0) (aa pC af))))
   (aj (aW (i:=4) m7.nd rfl (Or.inl rfl) (bN (wX rfl (aco (ac1 (by decide) _) aw)) (by rfl) pT acu (aa (bM ["call"] [Yb] rfl rfl (by kernel_rfl) (bC (K:=K) rfl (pv 1)) (λ_ _ _ _ _ nd=>aP (i:=0) nd rfl (Or.inl rfl)) (λ_ _ _ _ _=>eE) (λ_ _ _ _ _=>(cC (aa (a9 Ai fR I (aa (pv 0) af)) (aa (pv 0) af))))) af)))
   (aj (aW (i:=5) m7.nd rfl (Or.inl rfl) (br (tO rfl) (by rfl) dP aa7 (aa (bN (AF rfl) (by rfl) AU (show abh "set"=Ya (.type "set") by decide +kernel) (aa (bM ["call"] [Yb] rfl rfl (by kernel_rfl) (bC (K:=K) rfl (pv 1)) (λ_ _ _ _ _ nd=>aP (i:=0) nd rfl (Or.inl rfl)) (λ_ _ _ _ _=>eE) (λ_ _ _ _ _=>(aJ (K:=K) rfl (pv 0) rfl))) af)) af)))
   (aj (aW (i:=6) m7.nd rfl (Or.inl rfl) (dH af))
   (aj (aW (i:=7) m7.nd rfl (Or.inl rfl) (a9 mS f7 I (aa (pv 2) (aa (pv 3) (aa ay af)))))
   (aj (aW (i:=8) m7.nd rfl (Or.inl rfl) (a9 iQ iX I (aa (pv 5) (aa (pv 4) (aa (pv 3) (aa (a9 vz vW I (aa (pv 2) (aa (pv 7) af))) af))))))
   (aj (zK aai (bo xZ (pv 8) qH (bu _))
   (aj (dw (sU (K:=K) rfl (Hk abH adh adi qK (pv 6) (aa (pv 8) af))))
   (aj (qT hu (pv 3) (aJ (K:=K) rfl (pv 8) rfl) (aJ (K:=K) rfl (pv 8) rfl) rfl)
   (aj (aW (i:=7) m7.nd rfl (Or.inl rfl) (a9 mS f7 I (aa (pv 2) (aa (pv 3) (aa (pv 7) af)))))
   (au (aW (i:=8) m7.nd rfl (Or.inl rfl) (a9 iQ iX I (aa (a9 pQ oZ I (aa (pv 5) (aa (aJ (K:=K) rfl (pv 8) rfl) af))) (aa (pv 4) (aa (pv 3) (aa (a9 vz vW I (aa (pv 2) (aa (pv 7) af))) af)))))))))))
   (au (aL (cC (aa (pv 6) (aa (pv 3) af)))))))))))),?_⟩
 obtain⟨m,g,cs,xs,ns,hd,cm,hS,hc,lc,rg,hP,hn,kk⟩:=h;have lw:g.length=cs.length:=Y7 hc;have lx:=hn.len;cbv;intro e0 H1 bm s1 g1;cbv;refine⟨d,e0,m,[],rfl,cR s1 hd,.inl g1,cm,Ck.nil,λH2 r m0 s2 I g2 ae mx=>?_⟩;have az:∀k,ct m0 k=ct m k:=λk=>by
  have:=AH (mx k);have c0:=cm.ct k;have e:ct [] k=0:=rfl;rw[e]at this;omega
 have T:=s1.trans s2;have aA:=T.seq hS;have aB:=pI (.same T) hc;cbv;intro E hE;refine bD (K:=K) (a:=a) (xs:=g) (λi σ A=>∃v B,σ=[v]/\aH H2 A/\A E=Ya (.lst B)/\B.length=i/\E3 A B (((g.zip cs).take i).map UW)) ⟨Yb,[],rfl,aC hE,ai,rfl,.nil⟩ ?_ ?_ ?_
 ·rintro i σ A _ ⟨_,_,_,z,_⟩;exact z.seq aA
 ·rintro i x σ A hx ⟨v,B,rfl,sA,gE,ly,pr⟩;obtain⟨y,U,cy⟩:=dB aB hx;have hi:=(Yj.mp U).1;cbv;refine⟨x,rfl,y,cy.up (.same sA),λA1 t t1 ht ag=>?_⟩;cbv;intro u S bn t2 J;have L:=t2 _ _ (t1 _ _ gE);have kp:dC S (upd S E (.lst (B++[V.ref u]))):=dC.lst L;refine⟨B,L,aG (by omega),_,B++[.ref u],rfl,λb' o z=>?_,ai,by rw[Yu,ly];rfl,?_⟩
  ·rw[ak (ax z hE)];exact t2 _ _ (t1 _ _ (sA b' o z))
  ·rw[Dh g cs i hx U,Yx];exact Bb (B6 (λa xs z=>kp _ _ (t2 _ _ (t1 _ _ z))) pr) ⟨u,t,rfl,kp _ _ J,kp _ _ (t2 _ _ ag)⟩
 rintro σ H3 ⟨v,B,rfl,s3,gE,ly,pr⟩;rw[show(g.zip cs).take g.length=g.zip cs by rw[acv];rw[aiA];omega]at pr;refine⟨E,B,_,rfl,gE,pr,by have:=Y7 pr;omega,λD hD=>?_⟩;have s4:=aC (o:=.dT (jn ((g.zip cs).map UW))) hD;have gD:(upd H3 D (.dT (jn ((g.zip cs).map UW)))) D=Ya (.dT (jn ((g.zip cs).map UW))):=ai;generalize upd H3 D (.dT (jn ((g.zip cs).map UW)))=H4 at s4 gD⊢;have N:aH H2 H4:=s3.trans s4;have aD:=pI (.same N) aB;have RK:Sj K mg H4 D (z9 (g.zip cs)):=⟨⟨_,gD,QZ _⟩,λa b v x e=>by
  obtain⟨e1,e2,e3⟩:=qR e;exact⟨xW aD e1,e2,e3⟩⟩
 have a8:=N.seq aA;cbv;intro E2 aI;refine bD (K:=K) (a:=a) (xs:=g) (λi σ A=>∃v,σ=[v]/\aH H4 A/\A E2=Ya (.lst (((cs.take i).map (·.c)).map V.int))) ⟨Yb,rfl,aC aI,ai⟩ ?_ ?_ ?_
 ·rintro i σ A _ ⟨_,_,z,_⟩;exact z.seq a8
 ·rintro i x σ A hx ⟨v,rfl,sA,gA⟩;obtain⟨y,U,cy⟩:=dB aD hx;have hi:=(Yj.mp U).1;obtain⟨p,C,dx,t,ba,rfl,hk,hT,hp,_⟩:=cy.up (.same sA);obtain⟨cl,n1,n2,n3,n4,n5⟩:=id hT;cbv;refine⟨_,gA,?_,_,rfl,λb o z=>?_,?_⟩
  ·rw[Yg,Yg,xj];exact aG (by omega)
  ·rw[ak (ax z aI)];exact sA b o z
  ·rw[ai,aQ U,Yx,Yx];rfl
 rintro σ H5 ⟨v,rfl,s5,L⟩;rw[lw,YY]at L;refine⟨E2,cs.map (·.c),rfl,bc.of L,by rw[Yg];omega,λq ks hq W mk=>?_⟩;refine⟨q,ks,rfl,ai,W,?_,λcl hs ah pm so=>?_⟩
 ·exact iO W λk hk=>by
   obtain⟨x,hx,e⟩:=YC.mp ((mk k).mp hk);rw[←e];exact rg x hx
 generalize Le _ _ q ks=so' at ah⊢;have aK:=aC (o:=so') hq;have s6:=aC (o:=.lst (hs.map V.int)) ah;have g6:(upd (upd H5 q so') cl (.lst (hs.map V.int))) cl=Ya (.lst (hs.map V.int)):=ai;generalize upd (upd H5 q so') cl (.lst (hs.map V.int))=H6 at s6 g6⊢;generalize upd H5 q so'=H5' at aK s6 ah;have X:aH H4 H6:=s5.trans (aK.trans s6);have bb:hs.Pairwise (·<·):=by
  have:=ago.mpr ⟨so,pm.nodup_iff.mpr W⟩;exact this.imp λh=>by omega
 have aN:∀h,h∈hs↔∃x∈cs,x.c=h:=λh=>by
  rw[pm.mem_iff,mk h];exact YC
 have lhs:hs.length<=400:=by
  have:hs.length<64:=iO (pm.nodup_iff.mpr W) λk hk=>by
   obtain⟨x,hx,e⟩:=(aN k).mp hk;rw[←e];exact rg x hx
  omega
 cbv;intro l H7 hl s7 g7;have aR:aH H2 H7:=N.trans (X.trans s7);have al:=T.trans aR;have am:=aR _ _ g2;have an:bc K H7 b xs∨bI K H7 b xs:=EI (λo e=>al _ _ e) hP;have ap:oT H7 xs ns:=hn.up (.same al);have aS:=s7 _ _ g6;have aT:=RK.same (X.trans s7);have aU:l≠r:=λz=>by rw[z,(N.trans X) _ _ g2]at hl;cases hl
 have aV:cl≠l:=λz=>by rw[←z,g6]at hl;cases hl
 cbv;refine⟨b,r,0,rfl,xs,m0,ns,an,.inl am,ap,Y9 _,λk _ h=>absurd h (ad3 _),λj j1 j2 j3=>?_⟩;cbv;refine DR an ap j1 j2 j3 λy U=>?_;cbv;refine⟨cl,D,r,y,rfl,hs,_,m0,FL ns m0,bc.of aS,aT,.inl am,ae.toCk,U,λH8 s8=>?_⟩;have aZ:=s8 _ _ g7;have Y:=s8 _ _ am;have G:=s8 _ _ aS;have bd:=aT.same s8;have bt:bc K H8 b xs∨bI K H8 b xs:=EI (λo e=>s8 _ _ e) an;have be:oT H8 xs ns:=ap.up (.same s8);have aq:=al.trans s8;have UN:H l=none:=(T.trans (N.trans X)).free hl;have Z:H r=none:=s1.free I;have bl:∀o,H8 b=Ya o->(bc K H b xs∨bI K H b xs)->True:=λ_ _ _=>trivial;cbv;let bf:Nat->St->Hp->Prop:=λM σ A=>∃rw Zh c j,M=mz cs c/\σ=[Ya (.ref d),Ya (.ref a),Ya (.ref b),Ya (.ref r),Ya (.ref D),Ya (.ref cl),Ya (.ref l),Ya (.int (j:Nat)),Ya (Rx (fst (Vo hs Zh) (z9 (g.zip cs)) c (FL ns c)))]/\(∀x o,H8 x=Ya o->x≠l->x≠r->A x=Ya o)/\A l=Ya (.lst ((rw:List (V×bK)).map (·.1)))/\A r=Ya (.dK (dI c))/\Td c/\Fw hs (z9 (g.zip cs)) ns m0 rw Zh c/\j<=ns.length/\(∀k (hk:k<ns.length),k<j->E8 c ns[k])/\rw.length+ mz cs c<=60;refine⟨bf,⟨_,[],Yb,m0,j,rfl,rfl,λx o e _ _=>e,aZ,Y,ae,.start,j1,j2,?_⟩,?_⟩
 ·have:=Y0 (λq:bK=>decide (ct m0 q.c<q.k)) cs;unfold mz;rw[abd];omega
 rintro M σ A ⟨ab,Zh,c,j',rfl,rfl,kA,gl,gr,O,fw,q1,q2,q3⟩;have ar:∀{x:Ye} {o:HO},H8 x=Ya o->(∀B,o≠.lst B)->(∀n,o≠.dK n)->A x=Ya o:=λe n1 n2=>kA _ _ e (λz=>by rw[z,aZ]at e;cases e;exact n1 _ rfl) (λz=>by rw[z,Y]at e;cases e;exact n2 _ rfl);have a0:Vi H8 A:=⟨λp C dx fs e=>ar e (by intro _ z;cases z) (by intro _ z;cases z),λa xs e=>ar e (by intro _ z;cases z) (by intro _ z;cases z)⟩;have bv:bc K A b xs∨bI K A b xs:=by
  refine EI (λo e=>?_) hP;exact kA _ _ (aq _ _ e) (λz=>by rw[z,UN]at e;cases e) (λz=>by rw[z,Z]at e;cases e)
 have bg:oT A xs ns:=be.up a0.2;have bE:=kA _ _ G aV (λz=>by rw[z,Y]at G;cases G);have a4:Sj K mg A D (z9 (g.zip cs)):=by
  obtain⟨⟨n,e1,e2⟩,e3⟩:=bd;exact⟨⟨n,ar e1 (by intro _ z;cases z) (by intro _ z;cases z),e2⟩,λa b v x e=>⟨(e3 a b v x e).1.up a0,(e3 a b v x e).2⟩⟩
 cases z:fst (Vo hs Zh) (z9 (g.zip cs)) c (FL ns c)with
 |none=>
  cbv;rw[show decide (Rx Yb=V.non)=true from decide_eq_true rfl];cbv;intro t A1 ht s9 g9;refine kk A1 t l r hs m0 ab Zh c (λx o e=>s9 _ _ (kA _ _ (aq _ _ e) (λz=>by rw[z,UN]at e;cases e) (λz=>by rw[z,Z]at e;cases e))) UN Z g9 (s9 _ _ gl) (s9 _ _ gr) O bb aN ae az fw z
 |some q=>
  obtain⟨v,x⟩:=q;obtain⟨hh,bF,eL,tk⟩:=x9 z;obtain⟨cx,ec,ek⟩:=a4.cl _ _ _ _ eL;obtain⟨p,C,dx,t,ba,rfl,hk,hT,hp,ht,bH,bL⟩:=id cx;obtain⟨bR,n1,n2,n3,n4,n5⟩:=id hT;have xm:x∈cs:=by
   have:=(qR eL).1;exact(acm this).2
  have xr:=rg x xm;have bh:x.k=ct c x.c+ 1:=by rw[ek,ec]
  have bi:0<x.k:=by have:=O.toCk.ct x.c;omega
  have ml:=Mj xm bh;rw[show Rx (Ya (V.ref p,x))=V.ref p from rfl];cbv;rw[show decide (V.ref p=V.non)=false from decide_eq_false (by intro z;cases z)];refine dh (λ_=>?_) λz=>absurd rfl z;refine⟨_,λ_ _ z=>z,?_⟩;have ls:(ab.map (·.1)).length<YB:=aG (by rw[Yg];omega);cbv;intro A1 b1 ag;have bS:=b1.of gl hp (by intro z;cases z);have bW:=b1.at aU.symm gr;have nd:=O.nd;have lm:=O.toCk.len;cbv;intro S b2 J;have as:∀x o,H8 x=Ya o->x≠l->x≠r->S x=Ya o:=λx o e n1 n2=>b2.at n2 (b1.at n1 (kA x o e n1 n2));have Q:∀{x:Ye} {o:HO},A x=Ya o->(∀B,o≠.lst B)->(∀n,o≠.dK n)->S x=Ya o:=λe n1 n2=>b2.at (λz=>by rw[z,gr]at e;cases e;exact n2 _ rfl) (b1.at (λz=>by rw[z,gl]at e;cases e;exact n1 _ rfl) e);have R:Vi A S:=⟨λp C dx fs e=>Q e (by intro _ z;cases z) (by intro _ z;cases z),λa xs e=>Q e (by intro _ z;cases z) (by intro _ z;cases z)⟩;have ac:bc K S b xs∨bI K S b xs:=by
   refine EI (λo e=>?_) hP;exact as _ _ (aq _ _ e) (λz=>by rw[z,UN]at e;cases e) (λz=>by rw[z,Z]at e;cases e)
  have ad:oT S xs ns:=bg.up R.2;have a5:=as _ _ G aV (λz=>by rw[z,Y]at G;cases G);have bX:=R.1 _ _ _ _ hp;have a6:Sj K mg S D (z9 (g.zip cs)):=by
   obtain⟨⟨n,e1,e2⟩,e3⟩:=a4;exact⟨⟨n,Q e1 (by intro _ z;cases z) (by intro _ z;cases z),e2⟩,λa b v x e=>⟨(e3 a b v x e).1.up R,(e3 a b v x e).2⟩⟩
  have a7:=G4 O xr.1 xr.2 bi;have mono:∀k,ct c k<=ct (d3 c x.c x.k) k:=λk=>by
   rw[tD];by_cases w:k=x.c
   ·rw[if_pos w,w];omega
   ·rw[if_neg w];exact aaW _
  cbv;refine⟨b,r,j',rfl,xs,d3 c x.c x.k,ns,ac,.inl J,ad,q1,λk hk h=>ab8 (q2 k hk h) (mono _),λj2 a1 a2 a3=>?_⟩;cbv;refine⟨cl,x.c,rfl,hs,bc.of a5,lhs,λA3 cf s bZ bj=>?_⟩;cbv;refine DR (EI (λo e=>s _ _ e) ac) (ad.up (.same s)) a1 a2 a3 λy U=>?_;cbv;refine⟨cf,D,r,y,rfl,_,_,d3 c x.c x.k,FL ns (d3 c x.c x.k),bc.of bj,a6.same s,.inl (s _ _ J),a7.toCk,U,λA4 av=>?_⟩;refine⟨mz cs (d3 c x.c x.k),ml,ab++[(.ref p,x)],Ya x.c,d3 c x.c x.k,j2,rfl,rfl,λx o e n1 n2=>av _ _ (s _ _ (as x o e n1 n2)),?_,av _ _ (s _ _ J),a7,.step fw z,a1,a2,?_⟩
  ·rw[Yx];exact av _ _ (s _ _ (b2.at aU ag))
  ·rw[Yu];show ab.length+ 1+ _<=60;omega
noncomputable def jR(m:List (Int×Int))(x:bK):Bool:=decide (x.kd="one")&&QV m x
def TN(zs:List (V×bK))(m:List (Int×Int)):Option (V×bK)->Prop
 |none=>∀q∈zs,jR m q.2=false
 |some q=>q∈zs/\jR m q.2=true/\∀a∈zs,jR m a.2=true->HT.eD [a.2.c,a.2.k] [q.2.c,q.2.k]=false
def nX(K:Yc)(mg:Yo->Option Yd):Sp:=λe H Q _=>∃(a d:Ye),e=[.ref a,.ref d]/\∃b cs m,bc K H a b/\Fn K mg H b cs/\cs.length<=60/\Rd H d (.dK (dI m))/\Ck m/\∀c o,aH H c->TN (b.zip cs) m o->Q (Rx o) c
abbrev EV:List Yo:=["calls","counts"]
theorem xv:aE ["calls","counts"] EV (ao jx):=eY
variable(jc:∅ 2 vi r6 pW (sS K mg))(wz:mg "min"=Yb)
include eV j6 j5 cV cW cJ bH df bS jc fR wz av aA az aw aB aD aR cj a8 cO a7 cK in
theorem xA(F:bG K "least_asking" "least_asking" jx f fd):∅ 4 f fd EV (nX K mg):=by
 refine F.oj xv ?_;rintro _ A _ _ H _ _ E U L _ _ ⟨a,d,rfl,h⟩;refine⟨_,(au (aL (Kp (K:=K) rfl rfl (aco (ac1 (by decide) _) L) (aa (bM ["counts","call"] [Ya 1,Yb] rfl rfl (by kernel_rfl) (bC (K:=K) rfl (pv 0)) (λ_ _ _ _ _ nd=>aP (i:=1) nd rfl (Or.inl rfl)) (λ_ _ _ _ _=>(d9 (PW.pt (sY (dA K rfl (bB (bV.cons az.cl a7 cJ bH (bV.cons av.cl aR cJ bH (bV.cons aA.cl a8 df bS bV.nil))) (pv 1) U)) (qN (dA K rfl (bO (bV.cons az.cl cK j6 j5 (bV.cons av.cl cj cV cW (bV.cons aA.cl cO cV cW bV.nil))) (pv 1) U (aa (pv 0) af)))))))) (λ_ _ _ _ _=>(pv 1))) af) qH (by rfl) wz jc fR.mg fR.bd (by rfl) U))),?_⟩;obtain⟨r,cs,m,hS,W,lc,hd,cm,kk⟩:=h;have lw:r.length=cs.length:=Y7 W;cbv;intro E hE;refine bD (K:=K) (a:=a) (xs:=r) (λi σ A=>∃v g,σ=[Ya (.ref d),v]/\aH H A/\A E=Ya (.lst ((g:List (V×bK)).map (·.1)))/\g=((r.zip cs).take i).filter λq=>jR m q.2) ⟨Yb,[],rfl,aC hE,ai,rfl⟩ ?_ ?_ ?_
 ·rintro i σ A _ ⟨_,_,_,z,_⟩;exact z.seq hS
 ·rintro i v σ A hx ⟨v0,g,rfl,s,I,u⟩;obtain⟨x,hy,cy⟩:=dB W hx;have hi:=(Yj.mp hy).1;have tk:=Dh r cs i hx hy;have lz:g.length<=i:=by
   rw[u];exact xy (Y0 _ _) (acd _ _)
  have X:=cR s hd;have Y:jR m x=true->g++[(v,x)]=((r.zip cs).take (i+ 1)).filter λq=>jR m q.2:=λw=>by
   rw[tk,Y3,←u];simp[w]
  have no:jR m x=false->g=((r.zip cs).take (i+ 1)).filter λq=>jR m q.2:=λw=>by
   rw[tk,Y3,←u];simp[w]
  obtain⟨p,C,dx,t,M,rfl,J,hT,hp,ht,B,D⟩:=cy.up (.same s);obtain⟨kd,n,c,k,w,j⟩:=x;have J:Ts mg kd C:=J;have hp:A p=Ya (.ins C dx (u4 (.int n) (.int c) (.int k) (.int w) (.ref t))):=hp;have B:jQ A M j:=B;have D:Ck j:=D;rcases J with⟨rfl,e⟩|⟨rfl,e⟩|⟨rfl,e⟩
  ·rw[aD]at e;cases e;cbv;refine⟨p,rfl,?_⟩;cbv;exact⟨_,g,rfl,s,I,no (by unfold jR;rw[RG];rfl)⟩
  ·rw[aw]at e;cases e;cbv;refine⟨p,rfl,?_⟩;cbv;exact⟨_,g,rfl,s,I,no (by unfold jR;rw[RL];rfl)⟩
  ·have ev:jR m ⟨"one",n,c,k,w,j⟩=(decide (ct m c=k-1)&&cov m (eU j)):=by
    unfold jR QV;rw[LV,RE];simp
   rw[aB]at e;cases e;cbv;refine⟨p,rfl,?_⟩;cbv;refine⟨p,d,rfl,_,dx,m,_,c,k,_,t,M,j,.inr aB,hp,X,ht,B,cm,D,λA1 T=>?_⟩;cbv;refine dh (λh1=>?_) λh1=>?_
   ·have Z:=T _ _ I;cbv;refine⟨_,Z,by rw[Yg];exact aG (by omega),_,g++[(.ref p,⟨"one",n,c,k,w,j⟩)],rfl,λb o z=>?_,by rw[ai,Yx];rfl,Y (by rw[ev];exact h1)⟩;rw[ak (ax z hE)];exact T _ _ (s b o z)
   ·exact⟨_,g,rfl,s.trans T,T _ _ I,no (by rw[ev];exact abD.mpr h1)⟩
 rintro σ A ⟨v,g,rfl,s,I,u⟩;rw[show(r.zip cs).take r.length=r.zip cs by rw[acv];rw[aiA];omega]at u;have N:=pI (.same s) W;have G:∀q∈g,q∈r.zip cs/\jR m q.2=true:=λq y=>by
  rw[u]at y;exact cw.mp y
 have O:∀{i:Nat} {v:V},(g.map (·.1))[i]?=Ya v->∃q,g[i]?=Ya q/\q.1=v:=fun{i v} h=>by
  rw[Yy]at h;cases w:g[i]? with
  |none=>rw[w]at h;cases h
  |some q=>rw[w]at h;exact⟨q,rfl,YK h⟩
 cbv;refine⟨E,g.map (·.1),g.map (λq=>[q.2.c,q.2.k]),rfl,bc.of I,by rw[Yg,Yg],λv Q=>?_,λi v k H3 Q' Q J s3 y=>?_,λe=>?_,λi v kb H' Q R S s'=>?_⟩
 ·obtain⟨q,y,rfl⟩:=YC.mp Q;obtain⟨p,_,_,_,_,e,_⟩:=xW N (G q y).1;exact⟨p,e⟩
 ·obtain⟨q,l,rfl⟩:=O Q;rw[Yy,l]at J;cases J;have cq:=(xW N (G q (YA l)).1).up (.same s3);exact⟨q.1,rfl,q.2,cq,λH4 t s4 _ g4=>y H4 t s4 (bI.of g4)⟩
 ·refine kk A Yb s λq y=>?_;have e0:g=[]:=ace.mp e;rw[u]at e0;have:=List.filter_eq_nil_iff.mp e0 q y;exact abD.mpr this
 ·obtain⟨q,l,rfl⟩:=O Q;rw[Yy,l]at R;cases R;obtain⟨z1,z2⟩:=G q (YA l);refine kk H' (Ya q) (s.trans s') ⟨z1,z2,λq' ab ha=>?_⟩;have:q'∈g:=by rw[u];exact cw.mpr ⟨ab,ha⟩
  obtain⟨j',ac⟩:=YS this;exact(S j' [q'.2.c,q'.2.k] (by rw[Yy,ac];rfl)).1
noncomputable abbrev zx:Y4:=eZ 43
noncomputable abbrev lK:Y4:=eZ 6
noncomputable abbrev y7:Y4:=eZ 7
noncomputable abbrev yK:Y4:=eZ 8
noncomputable abbrev za:Y4:=eZ 18
noncomputable abbrev LL:Y4:=eZ 19
noncomputable abbrev sF:Y4:=eZ 20
noncomputable abbrev ig:Y4:=bw (eZ 32) 0
noncomputable abbrev lu:Y4:=bw (eZ 32) 1
noncomputable abbrev jh:Y4:=bw (eZ 32) 6
noncomputable abbrev kT:Y4:=bw (eZ 32) 7
def Sr(zs:List (V×bK)):Prop:=∀q∈zs,∀r∈zs,q.2.c=r.2.c->q.2.k=r.2.k->q=r
theorem O4(u:Sr zs)(h:q∈zs):z9 zs q.2.c q.2.k=Ya q:=by
 cases z:z9 zs q.2.c q.2.k with
 |none=>
  unfold z9 at z;have:=aez.mp z q (ah5.mpr h);exact absurd (decide_eq_true ⟨rfl,rfl⟩) this
 |some r=>
  obtain⟨a,b,c⟩:=qR z;rw[u r a q h b c]
theorem Nl{cs:List bK}(h:∀k,ct m k=ct m' k):mz cs m=mz cs m':=by
 unfold mz;congr 1;refine congrArg (λf=>cs.filter f) ?_;funext q;rw[h]
theorem W9{hs:List Int}{cs:List bK}(h:Fw hs (z9 (ws.zip cs)) ns m0 rw Zh m):rw.length+ mz cs m<=mz cs m0:=by
 induction h with
 |start=>rw[abd];omega
 |step f e ih=>
  obtain⟨h,_,a,_⟩:=x9 e;obtain⟨b,c,d⟩:=qR a;have:=Mj (acm b).2 (by rw[c];exact d);rw[Yu,Y1];omega
theorem QJ{hs:List Int}(h:Fw hs L ns m0 rw Zh m)(e:fst (Vo hs Zh) L m (FL ns m)=Yb)(n:fst hs L m0 (FL ns m0)≠Yb):0<rw.length:=by
 cases h with
 |start=>exact absurd e n
 |step=>rw[Yu,Y1];omega
theorem B7{x:bK}(h:jR m x=true):x.kd="one"/\ct m x.c=x.k-1:=by
 unfold jR QV at h;simp at h;exact⟨h.1,h.2.1⟩
theorem Uy{x:bK}(h:jR m x=true):DZ m x (Ya (x.n,x.c,x.k))=true:=by
 unfold jR at h;unfold DZ;simp at h⊢;exact h.2
theorem QO{hs:List Int}(u:Sr zs)(h:q∈zs)(ha:jR m q.2=true)(a:q.2.c∈hs):fst hs (z9 zs) m (Ya (q.2.n,q.2.c,q.2.k))≠none:=by
 intro z;unfold fst at z;have:=List.findSome?_eq_none_iff.mp z _ a;unfold DW at this;rw[show ct m q.2.c+ 1=q.2.k by have:=(B7 ha).2;omega,O4 u h]at this;have this:(if DZ m q.2 (Ya (q.2.n,q.2.c,q.2.k))=true then Ya q else Yb)=none:=this;rw[if_pos (Uy ha)]at this;cases this
theorem QH{p:Nm}(h1:∀k (hk:k<ns.length),k<j->E8 m ns[k])(h2:j<=ns.length)(h3:¬ E8 m p):FL (ns.take j++[p]) m=Ya p:=by
 unfold FL;rw[ahz];have:(ns.take j).find? (λp=>!decide (E8 m p))=none:=by
  rw[aez];intro q a;obtain⟨k,hk⟩:=YS a;rw[ahf]at hk;by_cases w:k<j
  ·rw[if_pos w]at hk;obtain⟨b,e⟩:=Yj.mp hk;have:=h1 k b w;rw[e]at this;simp[this]
  ·rw[if_neg w]at hk;cases hk
 rw[this,adp,afX (by simpa using h3)]
theorem Q6(h:∀k,ct m k=ct m' k)(x:bK):jR m x=jR m' x:=by
 unfold jR QV cov;simp only[h]
def HsO(cs:List bK)(hs:List Int):Prop:=hs.Pairwise (·<·)/\∀h,h∈hs↔∃x∈cs,x.c=h
def Rn(c:List V)(cs:List bK)(m:List (Int×Int))(ns:List Nm)(rw:List (V×bK))(a:List (Int×Int)):Prop:=∃hs b d,HsO cs hs/\Td b/\(∀k,ct b k=ct m k)/\Fw hs (z9 (c.zip cs)) ns b rw d a/\fst (Vo hs d) (z9 (c.zip cs)) a (FL ns a)=Yb
def Fo(ns:List Nm)(m:List (Int×Int))(j:Nat):Prop:=j<=ns.length/\(∀k (a:k<ns.length),k<j->E8 m ns[k])/\∀b:j<ns.length,¬ E8 m ns[j]
inductive Pw (ws:List V) (cs:List bK) (m:List (Int×Int)) (ns:List Nm):List (V×bK)->List Nm->List (Int×Int)->Prop
 |start {rw:List (V×bK)} {m':List (Int×Int)}:Rn ws cs m ns rw m'->Pw ws cs m ns rw ns m'
 |step {Zv rw:List (V×bK)} {gs:List Nm} {m1 m2:List (Int×Int)} {q:V×bK} {j:Nat}:Pw ws cs m ns Zv gs m1->TN (ws.zip cs) m1 (Ya q)->Fo gs m1 j->Rn ws cs m1 (gs.take j++[(q.2.n,q.2.c,q.2.k)]) rw m2->Pw ws cs m ns (Zv++rw) (gs.take j++[(q.2.n,q.2.c,q.2.k)]) m2
theorem Dd{cs:List bK}(h:Rn ws cs m ns rw m'):rw.length+ mz cs m'<=mz cs m:=by
 obtain⟨hs,a,b,_,_,e,f,_⟩:=h;have:=W9 f;rw[Nl e]at this;exact this
theorem IA{cs:List bK}(u:Sr (ws.zip cs))(i:TN (ws.zip cs) m (Ya q))(b:Fo gs m j)(h:Rn ws cs m (gs.take j++[(q.2.n,q.2.c,q.2.k)]) rw m'):0<rw.length:=by
 obtain⟨hs,a,r,⟨_,hm⟩,_,e,f,g⟩:=h;obtain⟨c,l,_⟩:=i;have d:jR a q.2=true:=by rw[Q6 e];exact l
 have n:q.2.c∈hs:=(hm _).mpr ⟨q.2,(acm c).2,rfl⟩;refine QJ f g ?_;rw[QH (λk o p=>?_) b.1 ?_]
 ·exact QO u c d n
 ·show ¬ (q.2.k<=ct a q.2.c);have:=(B7 d).2;omega
 ·show _<=ct a _;rw[e];exact b.2.1 k o p
theorem DO(xs:List V)(k:Nat)(h:k<=xs.length):zk xs Yb (Ya (k:Int))=xs.take k:=by
 unfold zk;have a:HT.z8 xs.length 0 Yb=0:=rfl;have b:HT.z8 xs.length xs.length (Ya (k:Int))=k:=by
  show(if(k:Int)<0 then((k:Int)+ (xs.length:Nat)).toNat else min (k:Int).toNat xs.length)=k;rw[if_neg (by omega),YQ];omega
 rw[a,b,aiR,ajn]
theorem zI{H:Hp}:∀{xs:List V} {ns:List Nm} (k:Nat),oT H xs ns->oT H (xs.take k) (ns.take k)
 |_,_,0,_=>.nil
 |_,_,k+ 1,.nil=>.nil
 |_,_,k+ 1,.cons r t=>.cons r (zI k t)
theorem Vz:decide (("one":Yo)="heard")=false:=by decide +kernel
def Ax(K:Yc)(mg:Yo->Option Yd):Sp:=λk H Q _=>∃(d a b:Ye),k=[.ref d,.ref a,.ref b]/\∃m e cs f ns,Rd H d (.dK (dI m))/\Ck m/\bc K H a e/\Fn K mg H e cs/\cs.length<=60/\Sr (e.zip cs)/\(∀x∈cs,0<=x.c/\x.c<63)/\(bc K H b f∨bI K H b f)/\oT H f ns/\ns.length<=300/\
 ∀c t l g rw h i j,aH H c->H l=Yb->H g=Yb->c t=Ya (.tup [.ref l,.ref g])->c l=Ya (.lst ((rw:List (V×bK)).map (·.1)))->c g=Ya (.lst h)->oT c h i->Pw e cs m ns rw i j->TN (e.zip cs) j Yb->Q (.ref t) c
theorem fb:aE ["counts","calls","places","given","told","row","call"] qm (ao zx):=eY
variable{ME:Ye}{qt:Ye}{F4:YD}{nH:YD}(nR:∅ 6 m8 kU IS (lg K))(f6:∅ 6 eX f9 aO (cP K))(LA:∅ 6 ME F4 qm (F6 K mg))(Bi:d6 K mg "run" ME F4 qm)(jL:∅ 6 qt nH EV (nX K mg))(jw:d6 K mg "least_asking" qt nH EV)
include eV nR f7 f6 bj LA Bi jL jw gK av aA az aw aB aD aV bg bh in
theorem Kx(F:bG K "placed" "placed" zx f fd):∅ 7 f fd qm (Ax K mg):=by
 refine F.oj fb ?_;rintro _ A _ _ H _ _ _ L _ _ _ ⟨d,a,b,rfl,h⟩;refine⟨_,(aj (aW (i:=3) fb.nd rfl (Or.inl rfl) (bN (y3 (K:=K) rfl) (by rfl) gK aaX (aa (pv 2) af)))
   (aj (aW (i:=4) fb.nd rfl (Or.inl rfl) (a9 LA Bi L (aa (pv 0) (aa (pv 1) (aa (pv 3) af)))))
   (aj (aW (i:=5) fb.nd rfl (Or.inl rfl) (bz (bA (K:=K) rfl) (pv 4) ay (λ_ _=>rfl)))
   (aj (aW (i:=6) fb.nd rfl (Or.inl rfl) (a9 jL jw L (aa (pv 1) (aa (bz (bA (K:=K) rfl) (pv 4) ay (λ_ _=>rfl)) af))))
   (aj (zK aai (bo xZ (pv 6) qH (bu _))
   (aj (aW (i:=3) fb.nd rfl (Or.inl rfl) (aX FY (uI (ud (K:=K) rfl) (pv 3) xP (xY (a9 nR f7 L (aa (pv 3) (aa (bz (bA (K:=K) rfl) (pv 4) ay (λ_ _=>rfl)) (aa ay af)))))) (dH (aa (bB (bV.cons az.cl bh f6 bj (bV.cons av.cl aV f6 bj (bV.cons aA.cl bg f6 bj bV.nil))) (pv 6) L) af))))
   (aj (aW (i:=4) fb.nd rfl (Or.inl rfl) (a9 LA Bi L (aa (bz (bA (K:=K) rfl) (pv 4) ay (λ_ _=>rfl)) (aa (pv 1) (aa (pv 3) af)))))
   (aj (aW (i:=5) fb.nd rfl (Or.inl rfl) (aX FY (pv 5) (bz (bA (K:=K) rfl) (pv 4) ay (λ_ _=>rfl))))
   (au (aW (i:=6) fb.nd rfl (Or.inl rfl) (a9 jL jw L (aa (pv 1) (aa (bz (bA (K:=K) rfl) (pv 4) ay (λ_ _=>rfl)) af)))))))))
   (au (aL (cC (aa (pv 5) (aa (pv 3) af)))))))))),?_⟩
 obtain⟨m,D,cs,N,ns,hd,cm,hS,hc,lc,u,rg,hP,hn,ln,kk⟩:=h;have lw:D.length=cs.length:=Y7 hc;have lx:=hn.len;cbv;refine⟨b,N,rfl,hP,λg0 O=>?_⟩;have Q:=aC (o:=.lst N) O;have g1:(upd H g0 (.lst N)) g0=Ya (.lst N):=ai;generalize upd H g0 (.lst N)=H1 at Q g1⊢;cbv;refine⟨d,a,g0,rfl,m,D,cs,N,ns,cR Q hd,cm,Q.seq hS,pI (.same Q) hc,lc,rg,.inl (bc.of g1),hn.up (.same Q),λH2 t l r hs m0 rw Zh m' s2 hl L gt gl gr ac R an ap e0 fw fe=>?_⟩;have rn:Rn D cs m ns rw m':=⟨hs,m0,Zh,⟨R,an⟩,ap,e0,fw,fe⟩;have gT:bI K H2 t [.ref l,.ref r]:=bI.of gt;have E:=Q.trans s2;cbv;refine⟨a,r,rfl,D,cs,m',E.seq hS,pI (.same E) hc,lc,.inl gr,ac.toCk,λH3 o s3 S=>?_⟩;have a1:mz cs m<=60:=xy (Y0 _ _) lc;cbv;let aq:Nat->St->Hp->Prop:=λM σ A=>∃t l ll r g T G y s o,M=mz cs s/\σ=[Ya (.ref d),Ya (.ref a),Ya (.ref b),Ya (.ref g),Ya (.ref t),Ya (.ref l),Ya (Rx o)]/\aH H A/\H l=Yb/\H g=Yb/\A t=Ya (.tup [.ref ll,.ref r])/\A l=Ya (.lst ((T:List (V×bK)).map (·.1)))/\A r=Ya (.dK (dI s))/\Td s/\A g=Ya (.lst G)/\oT A G y/\Pw D cs m ns T y s/\TN (D.zip cs) s o/\T.length+ mz cs s<=60/\y.length<=ns.length+ T.length;refine⟨aq,⟨_,t,l,l,r,g0,rw,N,ns,m',o,rfl,rfl,E.trans s3,Q.free hl,O,s3 _ _ gt,s3 _ _ gl,s3 _ _ gr,ac,s3 _ _ (s2 _ _ g1),hn.up (.same (E.trans s3)),.start rn,S,by have:=Dd rn;omega,by omega⟩,?_⟩;clear S gT gt gl gr g1 hl L O rn fw fe;rintro M σ A ⟨t,l,ll,r,g,T,G,y,s,o,rfl,rfl,sA,hl,hg,gt,gl,gr,ar,gg,nm,pw,S,q1,q2⟩;have ly:=nm.len;cases o with
 |none=>
  cbv;rw[show decide (Rx Yb=V.non)=true from decide_eq_true rfl];cbv;intro t' A1 a2 s9 g9;exact kk A1 t' l g T G y s (sA.trans s9) hl hg g9 (s9 _ _ gl) (s9 _ _ gg) (nm.up (.same s9)) pw S
 |some q=>
  obtain⟨v,n,a3⟩:=id S;obtain⟨vq,x⟩:=q;have cx:gY K mg A vq x:=xW (pI (.same sA) hc) v;obtain⟨p,C,dx,tt,a4,rfl,hk,hT,hp,ht,a5,a6⟩:=id cx;have ek:=(B7 n).1;obtain⟨kd,nn,c,k,w,as⟩:=x;have ek:kd="one":=ek;subst ek;have hp:A p=Ya (.ins C dx (u4 (.int nn) (.int c) (.int k) (.int w) (.ref tt))):=hp;have hk:Ts mg "one" C:=hk;rcases hk with⟨z,_⟩|⟨z,_⟩|⟨_,e⟩
  ·exact absurd z (of_decide_eq_false LV)
  ·exact absurd z (of_decide_eq_false Vz)
  rw[aB]at e;cases e;rw[show Rx (Ya (V.ref p,(⟨"one",nn,c,k,w,as⟩:bK)))=V.ref p from rfl];cbv;rw[show decide (V.ref p=V.non)=false from decide_eq_false (by intro z;cases z)];refine dh (λ_=>?_) λz=>absurd rfl z;refine⟨_,λ_ _ z=>z,?_⟩;have a7:bI K A t [.ref ll,.ref r]:=bI.of gt;cbv;refine⟨g,r,0,rfl,G,s,y,.inl (bc.of gg),.inl gr,nm,Y9 _,λk _ h=>absurd h (ad3 _),λj j1 j2 j3=>?_⟩;have a8:bc K A g G:=bc.of gg;cbv;intro c1 A1 ba t1 ad;rw[DO _ _ (by omega)]at ad;have R:=t1 _ _ hp;cbv;refine⟨p,rfl,_,dx,_,_,_,_,_,hT,R,λA2 u2 t2 bb g2=>?_⟩;cbv;intro e1 A3 bd t3 g3;have aw:=t3 _ _ (t2 _ _ ad);have lt:=acd j G;refine Lf aw g3 (by rw[Y1];omega) λg' A4 aD t4 g4=>?_;have B:aH A A4:=t1.trans (t2.trans (t3.trans t4));have ae:oT A4 (G.take j++[.ref u2]) (y.take j++[(nn,c,k)]):=oT.snoc (zI j (nm.up (.same B))) ⟨u2,rfl,t4 _ _ (t3 _ _ g2)⟩;have be:bI K A4 t [.ref ll,.ref r]:=bI.of (B _ _ gt);have I:=sA.trans B;cbv;refine⟨r,a,g',rfl,s,D,cs,_,_,.inl (B _ _ gr),ar.toCk,I.seq hS,pI (.same I) hc,lc,rg,.inl (bc.of g4),ae,λA5 U l5 r5 aI m5 ag W J s5 bf bi X aK ah al aN aR aS e5 aT aU=>?_⟩;have Y:Rn D cs s (y.take j++[(nn,c,k)]) ag J:=⟨aI,m5,W,⟨aN,aR⟩,aS,e5,aT,aU⟩;have fo:Fo y s j:=⟨j1,j2,j3⟩;have pos:=IA u S fo Y;have bl:=Dd Y;have bm:bI K A5 U [.ref l5,.ref r5]:=bI.of X;have am:=s5 _ _ (B _ _ gl);cbv;refine Lf am aK (by rw[Yg,Yg];omega) λl6 A6 aZ Z g6=>?_;rw[←Yx]at g6;have bn:bI K A6 U [.ref l5,.ref r5]:=bI.of (Z _ _ X);have ab:=I.trans (s5.trans Z);cbv;refine⟨a,r5,rfl,D,cs,J,ab.seq hS,pI (.same ab) hc,lc,.inl (Z _ _ ah),al.toCk,λA7 o7 s7 a0=>?_⟩;refine⟨mz cs J,by omega,U,l6,l5,r5,g',T++ag,G.take j++[.ref u2],y.take j++[(nn,c,k)],J,o7,rfl,rfl,ab.trans s7,(I.trans s5).free aZ,(sA.trans (t1.trans (t2.trans t3))).free aD,s7 _ _ (Z _ _ X),s7 _ _ g6,s7 _ _ (Z _ _ ah),al,s7 _ _ (Z _ _ (s5 _ _ g4)),ae.up (.same (s5.trans (Z.trans s7))),.step pw S fo Y,a0,?_,?_⟩
  ·rw[Yu];omega
  ·rw[Yu,Yu,Y1];have:=acd j y;omega
def pJ(K:Yc):Sp:=λf H Q _=>∃(a:Ye) (h:Int) (d:List V) (c:List (List (Int×Int))),f=[.ref a,.int h]/\bc K H a d/\OO H d c/\c≠[]/\c.length<=10/\∀(e:Hp) (b:Int),aH H e->G8 c h b->Q (.int b) e
abbrev DK:List Yo:=["some","hand"]
theorem y4:aE ["some","hand"] DK (ao lK):=eY
include eV cL bL wz in
theorem yl(F:bG K "least_count" "least_count" lK f fd):∅ 2 f fd DK (pJ K):=by
 refine F.oj y4 ?_;rintro _ _ _ _ H _ _ _ s _ _ _ ⟨a,h,l,n,rfl,h⟩;refine⟨_,(au (aL (br (Jy rfl) (by rfl) wz acL (aa (bM ["hand","counts"] [Ya 1,Yb] rfl rfl (by kernel_rfl) (bC (K:=K) rfl (pv 0)) (λ_ _ _ _ _ nd=>aP (i:=1) nd rfl (Or.inl rfl)) (λ_ _ _ _ _=>eE) (λ_ _ _ _ _=>(a9 cL bL s (aa (pv 1) (aa (pv 0) af))))) af)))),?_⟩;obtain⟨p,dc,ne,l10,k⟩:=h;have t:l.length=n.length:=Y7 dc;refine⟨_,rfl,a,rfl,⟨_,p⟩,λD r=>?_⟩;refine bD (K:=K) (a:=a) (xs:=l) (λi σ g=>∃v,σ=[Ya (.int h),v]/\aH H g/\g D=Ya (.lst (((n.take i).map λm=>ct m h).map V.int))) ⟨Yb,rfl,aC r,ai⟩ ?_ ?_ ?_
 ·rintro i σ g _ ⟨_,_,q,_⟩;exact q.seq p
 ·rintro i x σ g u ⟨v,rfl,q,c⟩;obtain⟨m,hm,d,rfl,hd⟩:=OO.get dc u;have y:=(Yj.mp hm).1;refine Bv ⟨_,rfl,_,rfl,d,m,h,rfl,cR q hd,_,c,?_,Ya (.ref d),rfl,λb o z=>?_,?_⟩
  ·rw[Yg,Yg,xj];exact aG (by omega)
  ·rw[ak (ax z r)];exact q b o z
  ·rw[ai,aQ hm,Yx,Yx];rfl
 rintro σ g ⟨v,rfl,q,c⟩;rw[t,YY]at c;refine⟨D,_,rfl,bc.of c,λz=>ne (ace.mp z),λb A lo=>k _ b q ?_⟩;obtain⟨m,hm,e⟩:=YC.mp A;exact⟨⟨m,hm,e⟩,λB j=>lo _ (YV (f:=λm=>ct m h) j)⟩
def Bj(K:Yc):Sp:=λe H Q _=>∃(a:Ye) (d:List V) (b:List (List (Int×Int))),e=[.ref a]/\bc K H a d/\OO H d b/\(∀m∈b,Ck m)/\b.length<=10/\
 ∀(c:Hp) (p:Ye) (j:List (Int×Int)),aH H c->H p=Yb->c p=Ya (.dK (dI j))->Td j->(b=[]->j=[])->(b≠[]->∀k,G8 b k (ct j k))->Q (.ref p) c
theorem JJ:aE ["some"] zf (ao y7):=eY
variable{rK:Ye}{pX:YD}(lQ:∅ 2 lD jO zf (jP K))(ri:∅ 2 rK pX DK (pJ K))(rX:d6 K mg "least_count" rK pX DK)
include eV lQ dY iB eQ ri rX in
theorem KQ(F:bG K "common" "common" y7 f fd):∅ 3 f fd zf (Bj K):=by
 refine F.oj JJ ?_;rintro _ _ _ _ _ _ _ _ G _ _ _ ⟨a,N,r,rfl,h⟩;refine⟨_,(au (aL (a9 iB eQ G (aa (bM ["some","hand"] [Ya 0,Yb] rfl rfl (by kernel_rfl) (bC (K:=K) rfl (a9 lQ dY G (aa (pv 0) af))) (λ_ _ _ _ _ nd=>aP (i:=1) nd rfl (Or.inl rfl)) (λ_ _ _ _ _=>eE) (λ_ _ _ _ _=>(cC (aa (pv 1) (aa (a9 ri rX G (aa (pv 0) (aa (pv 1) af))) af))))) af)))),?_⟩;obtain⟨O,dc,H,l10,k⟩:=h;refine⟨_,rfl,a,N,r,rfl,O,dc,H,l10,λX l S I hl nd mem=>?_⟩;have rg:∀j∈S,0<=j/\j<63:=λj d=>by
  obtain⟨m,h1,h2⟩:=(mem j).mp d;exact(H m h1).keys j h2
 have lS:=iO nd rg;refine⟨l,rfl,⟨_,bc.of hl⟩,λD Q=>?_⟩;refine bD (K:=K) (a:=l) (xs:=S.map V.int) (λi σ u=>∃v s f,σ=[Ya (.ref a),v]/\aH X u/\u D=Ya (.lst s)/\s.length<=i/\jQ u s (NW (S.take i) f)/\∀j∈S.take i,G8 r j (f j)) ⟨Yb,[],λ_=>0,rfl,aC Q,ai,Yl _,.nil,λj d=>by simp at d⟩ ?_ ?_ ?_
 ·rintro i σ u _ ⟨_,_,_,_,q,_⟩;exact bc.of (q _ _ hl)
 ·rintro i x σ u Y ⟨v,s,f,rfl,q,t,R,C,A⟩;obtain⟨j,d,rfl⟩:=gz Y;have Z:=(Yj.mp d).1;have T:=I.trans q;have ne:r≠[]:=λz=>by
   obtain⟨m,h1,_⟩:=(mem j).mp (YA d);rw[z]at h1;cases h1
  refine Bv ⟨_,rfl,_,rfl,_,rfl,a,j,N,r,rfl,T.seq O,Nz T dc,ne,l10,λH2 b g hb=>⟨by show 2<=YB;decide,λp hp=>?_⟩⟩;have n:=g _ _ t;have B:D≠p:=ax n hp;have U:j∉S.take i:=by
   have:=nd.sublist (acy (i+ 1) S);rw[aQ d,KW]at this;exact λz=>this.2.2 _ z _ (by simp) rfl
  refine⟨s,by rw[ak B];exact n,aG (by omega),Ya (.int j),_,λy=>if y=j then b else f y,rfl,λc o z=>?_,ai,by rw[Yu];exact abm R,?_,λy E=>?_⟩
  ·rw[ak (ax z Q),ak (ax (g _ _ (q c o z)) hp)];exact g _ _ (q c o z)
  ·rw[aQ d];show jQ _ _ (ah3 _ (_++[j]));rw[Yx];have e:(S.take i).map (λy=>(y,if y=j then b else f y))=NW (S.take i) f:=aax λy E=>by rw[if_neg (λz:y=j=>U (z▸E))]
   rw[e];refine jQ.snoc (C.mono λa s z=>?_) ⟨p,rfl,?_⟩
   ·have J:=g _ _ z;rw[ak (bU J n (by intro z;cases z)),ak (ax J hp)];exact J
   ·rw[ak (Ne.symm B),ai];show _=Ya (HO.tup [V.int j,V.int (if j=j then b else f j)]);rw[if_pos rfl]
  ·rw[aQ d]at E;rcases YM.mp E with z|z
   ·show G8 r y (if y=j then b else f y);rw[if_neg (λy2:y=j=>U (y2▸z))];exact A y z
   ·have W:=Yi.mp z;show G8 r y (if y=j then b else f y);rw[if_pos W,W];exact hb
 rintro σ u ⟨v,s,f,rfl,q,t,R,C,A⟩;rw[show S.take (S.map V.int).length=S by rw[Yg,YY]]at C A;refine⟨D,s,_,rfl,.inl (bc.of t),C,?_,by rw[lX];exact nd,λH2 p g L hp=>?_⟩
 ·show(ah3 _ S).length<=1000;rw[Yg];omega
 have nn:∀j∈S,0<=f j:=λj d=>by
  obtain⟨⟨m,hm,e⟩,_⟩:=A j d;rw[←e];exact(H m hm).ct j
 refine k _ p _ ((I.trans q).trans g) ((I.trans q).free L) hp (Mi nd rg) (λz=>?_) λne j=>?_
 ·have:S=[]:=by
   cases S with
   |nil=>rfl
   |cons j S=>
    obtain⟨m,h1,_⟩:=(mem j).mp Ys;rw[z]at h1;cases h1
  rw[this];rfl
 ·by_cases d:j∈S
  ·rw[Lx nd j d (nn j d)];exact A j d
  ·rw[HC d];have z:∀m∈r,ct m j=0:=λm hm=>kX λz=>d ((mem j).mpr ⟨m,hm,z⟩);cases r with
   |nil=>exact absurd rfl ne
   |cons m r=>exact⟨⟨m,Ys,z m Ys⟩,λm' M=>by rw[z m' M];exact aaW _⟩
def vM(K:Yc):Sp:=λc H Q _=>∃(d:Ye) (m:List (Int×Int)),c=[.ref d]/\Rd H d (.dK (dI m))/\m.length<64/\
 ∀(a:Hp) (t:Ye) (b:List V) (S:List Int),aH H a->H t=Yb->S.Perm (m.map (·.1))->S.Pairwise (·<=·)->a t=Ya (.tup b)->jQ a b (sW m S)->Q (.ref t) a
abbrev Ao:List Yo:=["counts"]
theorem Jb:aE ["counts"] Ao (ao yK):=eY
variable(je:mg "tuple"=Yb)
include eV dP je in
theorem Kb(F:bG K "packed" "packed" yK f fd):∅ 1 f fd Ao (vM K):=by
 refine F.oj Jb ?_;rintro _ _ _ _ H _ _ _ _ _ _ L ⟨d,m,rfl,h⟩;refine⟨_,(au (aL (bN (iL (K:=K) rfl) (by rfl) je abI (aa (bM ["counts","hand"] [Ya 0,Yb] rfl rfl (by kernel_rfl) (bC (K:=K) rfl (br (BX rfl) (by rfl) dP aa7 (aa (pv 0) af))) (λ_ _ _ _ _ nd=>aP (i:=1) nd rfl (Or.inl rfl)) (λ_ _ _ _ _=>(d9 (bo Ot (xQ L (pv 0) (pv 1) (λ_ _=>rfl)) ay (bu _)))) (λ_ _ _ _ _=>(cC (aa (pv 1) (aa (xQ L (pv 0) (pv 1) (λ_ _=>rfl)) af))))) af)))),?_⟩;obtain⟨hd,r,k⟩:=h;refine⟨_,rfl,d,m,rfl,hd,r,λl S hl C O=>?_⟩;have g:aH H (upd H l (.lst (S.map V.int))):=aC hl;have E:(upd H l (.lst (S.map V.int))) l=Ya (.lst (S.map V.int)):=ai;generalize upd H l (.lst (S.map V.int))=H0 at g E⊢;have T:S.length<64:=by rw[C.length_eq,Yg];exact r
 refine⟨l,rfl,⟨_,bc.of E⟩,λD M=>?_⟩;refine bD (K:=K) (a:=l) (xs:=S.map V.int) (λi σ s=>∃v j,σ=[Ya (.ref d),v]/\aH H0 s/\s D=Ya (.lst j)/\j.length<=i/\jQ s j (sW m (S.take i))) ⟨Yb,[],rfl,aC M,ai,Yl _,.nil⟩ ?_ ?_ ?_
 ·rintro i σ s _ ⟨_,_,_,q,_⟩;exact bc.of (q _ _ E)
 ·rintro i x σ s Q ⟨v,j,rfl,q,c,G,u⟩;obtain⟨n,hn,rfl⟩:=gz Q;have R:=(Yj.mp hn).1;have y:n∈m.map (·.1):=C.mem_iff.mp (YA hn);have A:Rd s d (.dK (dI m)):=cR q (cR g hd);have N:Ya (V.int (ct m n))=eF (dI m) (YN n:bJ):=by rw[sV,Xk y];rfl
  refine⟨_,rfl,_,rfl,d,V.int (ct m n),rfl,.inl ⟨_,YN n,A,rfl,N⟩,_,_,rfl,rfl,_,rfl,dh (λh=>?_) λh=>?_⟩
  ·have I:0<ct m n:=of_decide_eq_true h;refine⟨_,rfl,_,rfl,_,rfl,d,V.int (ct m n),rfl,.inl ⟨_,YN n,A,rfl,N⟩,by show 2<=YB;decide,λp hp=>?_⟩;have B:D≠p:=ax c hp;refine⟨j,by rw[ak B];exact c,aG (by omega),Ya (.int n),_,rfl,λb o e=>?_,ai,by rw[Yu];exact abm G,?_⟩
   ·rw[ak (ax e M),ak (ax (q b o e) hp)];exact q b o e
   ·rw[aQ hn,IK I];refine jQ.snoc (u.mono λa U e=>?_) ⟨p,rfl,?_⟩
    ·rw[ak (bU e c (by intro z;cases z)),ak (ax e hp)];exact e
    ·rw[ak (Ne.symm B),ai]
  ·have I:¬ 0<ct m n:=λz=>h (decide_eq_true z);refine⟨Ya (.int n),j,rfl,q,c,acD G,?_⟩;rw[aQ hn,Og I];exact u
 rintro σ s ⟨v,j,rfl,q,c,G,u⟩;rw[show S.take (S.map V.int).length=S by rw[Yg,YY]]at u;refine⟨D,j,rfl,.inl ⟨bc.of c,λt J=>?_⟩⟩;exact k _ t j S (g.trans (q.trans (aC J))) (g.free (q.free J)) C O ai (LO (aC J) u)
def A0(K:Yc):Sp:=λa H Q _=>∃h:Int,a=[.int h]/\0<=h/\h<=1000/\Q (.int (2^h.toNat)) H
def Np(K:Yc):Sp:=λa H Q _=>∃n h:Int,a=[.int n,.int h]/\0<=n/\0<=h/\h<=1000/\Q (.bl (n.toNat.testBit h.toNat)) H
def wR(K:Yc):Sp:=λb H Q _=>∃n:Int,b=[.int n]/\0<=n/\n<9223372036854775808/\∀a l,H l=Yb->aH H a->a l=Ya (.lst ((GB.hl n).map V.int))->Q (.ref l) a
theorem Ko:aE ["hand"] ["hand"] (ao za):=eY
include eV in
theorem JP(F:bG K "bit_of" "bit_of" za f fd):∅ 1 f fd ["hand"] (A0 K):=by
 refine F.oj Ko ?_;rintro _ _ _ _ H _ Q _ _ _ _ _ ⟨x,rfl,h⟩;refine⟨_,(au (aL (yF (bo AB (pv 0) ay (bu _)) (aX Me ay (pv 0)) ay))),?_⟩;obtain⟨h0,h1,k⟩:=h;refine⟨_,rfl,_,_,rfl,rfl,_,rfl,?_⟩;rw[decide_eq_true (show(0:Int)<=x from h0)];refine Uo ⟨_,rfl,_,_,rfl,rfl,⟨h0,by omega,by decide⟩,?_⟩;show Q (.int (1*2^x.toNat)) H;rw[ahD];exact k
abbrev C6:List Yo:=["hands","hand"]
theorem Ub:aE ["hands","hand"] C6 (ao LL):=eY
variable{Ff:Ye}{Bn:YD}(E1:∅ 1 Ff Bn ["hand"] (A0 K))(EN:d6 K mg "bit_of" Ff Bn ["hand"])
include eV E1 EN in
theorem Ut(F:bG K "has" "has" LL f fd):∅ 2 f fd C6 (Np K):=by
 refine F.oj Ub ?_;rintro _ _ _ _ H _ Q _ a _ _ _ ⟨n,x,rfl,h⟩;refine⟨_,(au (aL (jg Iv (aX UM (pv 0) (a9 E1 EN a (aa (pv 1) af))) ay (bu _)))),?_⟩;obtain⟨hn,h0,h1,k⟩:=h;refine⟨_,rfl,_,rfl,x,rfl,h0,h1,_,_,rfl,rfl,rfl,?_⟩;show Q (.bl (!decide (V.int (Builtin.bitAnd n (2^x.toNat))=V.int 0))) H;rw[L1 hn h0];exact k
abbrev rT:List Yo:=["hands"]
theorem E5:aE ["hands"] rT (ao sF):=eY
variable{RI:Ye}{NN:YD}(R5:∅ 2 RI NN C6 (Np K))(RP:d6 K mg "has" RI NN C6)(jd:mg "range"=Yb)
include eV R5 RP jd in
theorem DU(F:bG K "hands_of" "hands_of" sF f fd):∅ 3 f fd rT (wR K):=by
 refine F.oj E5 ?_;rintro _ _ _ _ H _ _ _ c _ _ _ ⟨n,rfl,h⟩;refine⟨_,(au (aL (bM ["hands","hand"] [Ya 0,Yb] rfl rfl (by kernel_rfl) (qL rfl jd (aa (BI PySem.F.plainAttrs_int PySem.F.slot_int_bit_length PySem.F.type_int_bit_length JC (pv 0)) af)) (λ_ _ _ _ _ nd=>aP (i:=1) nd rfl (Or.inl rfl)) (λ_ _ _ _ _=>(d9 (dA K rfl (a9 R5 RP c (aa (pv 0) (aa (pv 1) af)))))) (λ_ _ _ _ _=>(pv 1))))),?_⟩;obtain⟨h0,h1,k⟩:=h;obtain⟨m,d⟩:=JU h0 h1;refine⟨_,rfl,rfl,n,rfl,rfl,_,rfl,by omega,by omega,λD b=>?_⟩;refine sD (λi σ a=>∃v,σ=[Ya (.int n),v]/\a=upd H D (.lst ((yO n i).map V.int))) ⟨Yb,rfl,rfl⟩ ?_ ?_
 ·rintro i σ a g ⟨v,rfl,rfl⟩;have j:i<aaI n:=by simpa using g
  refine⟨_,rfl,_,rfl,n,_,rfl,h0,(by omega),(by omega),_,rfl,?_⟩;have l:(0+ (i:Int)).toNat=i:=by omega
  rw[l];cases e:n.toNat.testBit i with
  |true=>
   refine Uo ⟨_,rfl,_,ai,?_,_,rfl,?_⟩
   ·rw[Yg];have:=MP n i;exact aG (by omega)
   ·rw[Ru,MO e,Yx,afq];rfl
  |false=>
   refine WS ⟨_,rfl,?_⟩;rw[Pk e]
 ·rintro σ a ⟨v,rfl,rfl⟩;have e:((aaI n:Nat):Int).toNat=aaI n:=YQ _;rw[e,d];exact k _ D b (aC b) ai
def kL(K:Yc):Sp:=λe H Q _=>∃(p:Ye) (n:Int),e=[.ref p,.int n]/\∃C c,GJ K C/\H p=Ya (.ins C c [])/\0<=n/\n<9223372036854775808/\∀a d rs,(∀b o,H b=Ya o->b≠p->a b=Ya o)->a p=Ya (.ins C c [("learnt",.ref d)])->a d=Ya (.dK (dG rs))->sQ a rs ((GB.hl n).map λh=>(h,[]))->(∀q∈rs,q.2≠V.ref d)->H d=Yb->(∀q∈rs,∀r,q.2=V.ref r->H r=Yb)->Q .non a
theorem QP(m:dC H H'):∀{xs:List V} {ps:List (Int×V)},Dj H xs ps->Dj H' xs ps:=by
 intro a b w
 induction w with
 |nil=>exact .nil
 |cons w _ ih=>
  obtain⟨a,e,h⟩:=w;exact .cons ⟨a,e,m _ _ h⟩ ih
theorem KU:∀{xs:List V} {ps:List (Int×V)} {x:V} {p:Int×V},Dj H xs ps->(∃a,x=.ref a/\H a=Ya (.tup [.int p.1,p.2]))->Dj H (xs++[x]) (ps++[p]):=by
 intro b c d e w h
 induction w with
 |nil=>exact .cons h .nil
 |cons r _ ih=>exact .cons r ih
theorem Ni{ps:List (Int×V)}(h:Dj H xs ps):xs.length=ps.length:=Y7 h
theorem gj(k:∀r m,H r=Ya (.dK (dI m))->H' r=Ya (.dK (dI m))):∀{rs:List (Int×V)} {tb:List (Int×List (Int×Int))},sQ H rs tb->sQ H' rs tb:=by
 intro a b w
 induction w with
 |nil=>exact .nil
 |cons w _ ih=>
  obtain⟨e,r,c,d⟩:=w;exact .cons ⟨e,r,c,k _ _ d⟩ ih
theorem Mr:∀{rs:List (Int×V)} {tb:List (Int×List (Int×Int))} {q:Int×V} {e:Int×List (Int×Int)},sQ H rs tb->(q.1=e.1/\∃r,q.2=.ref r/\H r=Ya (.dK (dI e.2)))->sQ H (rs++[q]) (tb++[e]):=by
 intro a b c d w h
 induction w with
 |nil=>exact .cons h .nil
 |cons r _ ih=>exact .cons r ih
theorem V6(n:Int):(GB.hl n).Nodup:=by
 unfold GB.hl;refine ahA _ (λa b h=>?_) (GB.kF n.toNat);intro e;have:a<b:=h;omega
theorem JG{j:List (Int×Int)}(hn:h∉tb.map (·.1)):uZ tb h j=tb:=by
 unfold uZ
 conv=>rhs;rw[←adv tb]
 refine aax λe a=>?_;rw[if_neg (λz=>hn (by rw[←z];exact YV a))];rfl
theorem Pa{r:Ye}{j:List (Int×Int)}(b:H r=Ya (.dK (dI j))):∀{rs:List (Int×V)} {tb:List (Int×List (Int×Int))},(tb.map (·.1)).Nodup->h∈tb.map (·.1)->sQ H rs tb->sQ H (xJ rs h (.ref r)) (uZ tb h j):=by
 intro rs tb nd hm w
 induction w with
 |nil=>simp at hm
 |@cons q e rs tb w t ih=>
  obtain⟨a,c,d,f⟩:=w;rw[YF,BD]at nd;have g:uZ (e::tb) h j=(if e.1=h then(e.1,j)else e)::uZ tb h j:=rfl;rw[g];unfold xJ;by_cases z:e.1=h
  ·rw[if_pos (a.trans z),if_pos z,JG (by rw[←z];exact nd.1)];exact .cons ⟨a,r,rfl,b⟩ t
  ·rw[if_neg (λw=>z (a.symm.trans w)),if_neg z];rw[YF]at hm;exact .cons ⟨a,c,d,f⟩ (ih nd.2 ((Yn.mp hm).resolve_left λw=>z w.symm))
theorem Uv{d:Ye}:∀{rs:List (Int×V)} {tb:List (Int×List (Int×Int))},sQ H rs tb->H d=Yb->∀q∈rs,q.2≠V.ref d:=by
 intro rs tb w hd
 induction w with
 |nil=>exact λq a=>nomatch a
 |cons w t ih=>
  obtain⟨_,r,c,b⟩:=w;intro q a;rcases Yn.mp a with z|z
  ·rw[z,c];intro w;cases w;rw[hd]at b;cases b
  ·exact ih q z
theorem Rc{d:Ye}:∀{rs:List (Int×V)} {tb:List (Int×List (Int×Int))},sQ H rs tb->(∀q∈rs,q.2≠V.ref d)->(∀r o,r≠d->H r=Ya o->H' r=Ya o)->sQ H' rs tb:=by
 intro rs tb w ap k
 induction w with
 |nil=>exact .nil
 |cons w t ih=>
  obtain⟨e,r,a,b⟩:=w;exact .cons ⟨e,r,a,k _ _ (λz=>ap _ Ys (by rw[a,z])) b⟩ (ih λq c=>ap q (Yr _ c))
abbrev Fc:List Yo:=["self","hands"]
theorem uK:aE ["self","hands"] Fc (ao ig):=eY
variable{zw:Ye}{wJ:YD}(mT:∅ 3 zw wJ rT (wR K))(mV:d6 K mg "hands_of" zw wJ rT)
include eV mT mV pT in
theorem uQ(F:bG K "__init__" "Known.__init__" ig f fd):∅ 4 f fd Fc (kL K):=by
 refine F.oj uK ?_;rintro _ _ _ _ H _ _ _ L _ _ _ ⟨p,n,rfl,h⟩;refine⟨_,(au (cE (K:=K) rfl (pv 0) (bN (F5 rfl) (by rfl) pT acu (aa (bM ["hand"] [Yb] rfl rfl (by kernel_rfl) (bC (K:=K) rfl (a9 mT mV L (aa (pv 1) af))) (λ_ _ _ _ _ nd=>aP (i:=0) nd rfl (Or.inl rfl)) (λ_ _ _ _ _=>eE) (λ_ _ _ _ _=>(cC (aa (pv 0) (aa pC af))))) af)) rfl)),?_⟩;obtain⟨C,dx,⟨cl,n1⟩,hp,h0,h1,k⟩:=h;cbv;refine⟨n,rfl,h0,h1,λU l hl M g1=>?_⟩;cbv;intro D W;have ln:=GB.SE n;refine bD (K:=K) (a:=l) (xs:=(GB.hl n).map V.int) (λi σ A=>∃v u rs,σ=[v]/\aH U A/\A D=Ya (.lst u)/\Dj A u rs/\rs.map (·.1)=(GB.hl n).take i/\sQ A rs (((GB.hl n).take i).map λh=>(h,[]))/\∀q∈rs,∀r,q.2=V.ref r->U r=Yb) ⟨Yb,[],[],rfl,aC W,ai,.nil,rfl,.nil,λq G=>nomatch G⟩ ?_ ?_ ?_
 ·rintro i σ A _ ⟨_,_,_,_,z,_⟩;exact bc.of (z _ _ g1)
 ·rintro i x σ A hx ⟨v,u,rs,rfl,X,N,s,E,c,B⟩;obtain⟨h,O,rfl⟩:=gz hx;have hi:=(Yj.mp O).1;have ly:u.length<=i:=by
   rw[Ni s,←Yg (f:=(·.1)),E,xj];omega
  cbv;intro r Q L y Y;cbv;intro t R ht g J;have j:=g _ _ (y _ _ N);refine⟨u,j,aG (by omega),Ya (.int h),_,rs++[(h,.ref r)],rfl,λb o z=>?_,ai,?_,?_,?_,λq G r' e=>?_⟩
  ·rw[ak (ax z W)];exact g _ _ (y _ _ (X b o z))
  ·exact KU (QP ((dC.same (y.trans g)).trans (dC.lst j)) s) ⟨t,rfl,dC.lst j _ _ J⟩
  ·rw[Yx,E,aQ O];rfl
  ·rw[aQ O,Yx];have kp:∀r m,A r=Ya (.dK (dI m))->(upd R D (.lst (u++[V.ref t]))) r=Ya (.dK (dI m)):=λr m e=>by rw[ak (bU (g _ _ (y _ _ e)) j (by intro z;cases z))];exact g _ _ (y _ _ e)
   exact Mr (gj kp c) ⟨rfl,r,rfl,by rw[ak (bU (g _ _ Y) j (by intro z;cases z))];exact g _ _ Y⟩
  ·rcases YM.mp G with z|z
   ·exact B q z r' e
   ·rw[Yi.mp z]at e;cases e;exact X.free L
 rintro σ Q ⟨v,u,rs,rfl,y,S,s,E,c,B⟩;rw[show(GB.hl n).take ((GB.hl n).map V.int).length=GB.hl n by rw[Yg,YY]]at E c;refine⟨D,u,rs,rfl,S,s,by rw[E];exact V6 n,by rw[←Yg (f:=(·.1)),E];omega,λd hd=>?_⟩;have g:=aC (o:=.dK (dG rs)) hd;have J:(upd Q d (.dK (dG rs))) d=Ya (.dK (dG rs)):=ai;generalize upd Q d (.dK (dG rs))=R at g J⊢;have Z:aH H R:=M.trans (y.trans g);have I:=Z _ _ hp;cbv;intro H5 T g5;refine k H5 d rs (λb o e hb=>T.at hb (Z _ _ e)) g5 (T.of I J (by intro z;cases z)) (gj (λr m e=>T.of I e (by intro z;cases z)) (gj (λr m e=>g _ _ e) c)) (Uv c hd) ((M.trans y).free hd) (λq G r e=>M.free (B q G r e))
def ji(K:Yc)(mg:Yo->Option Yd):Sp:=λi H Q _=>∃(p:Ye) (h:Int) (c:Ye),i=[.ref p,.int h,.ref c]/\∃d rs a m,lL K mg H p d rs a/\Rd H c (.dK (dI m))/\Ck m/\
 ∀e b f,K0 d H e->lL K mg e p d b f->(tbl a h=Yb->f=a)->(∀g,tbl a h=Ya g->∃j,Td j/\(∀k,Lw [g,m] k (ct j k))/\f=uZ a h j)->(∀q∈b,q∈rs∨∃r,q.2=.ref r/\H r=Yb)->Q .non e
abbrev Bc:List Yo:=["self","hand","counts"]
theorem yr:aE ["self","hand","counts"] Bc (ao lu):=eY
variable{cS:Ye}(wY:∅ 2 yg vy zq (vA K))(aN:GJ K cS)(aT:mg "Known"=Ya (.ref cS))
include eV wY uD aN aT in
theorem zo(F:bG K "learn" "Known.learn" lu f fd):∅ 3 f fd Bc (ji K mg):=by
 refine F.oj yr ?_;rintro _ _ _ _ H _ _ _ Q _ _ D ⟨p,x,c,rfl,h⟩;refine⟨_,(au (dS (BG (M7 D (pv 1) (aJ (K:=K) rfl (pv 0) rfl))) (au (qT D (aJ (K:=K) rfl (pv 0) rfl) (pv 1) (a9 wY uD Q (aa (xQ D (aJ (K:=K) rfl (pv 0) rfl) (pv 1) (λ_ _=>rfl)) (aa (pv 2) af))) rfl)) bP)),?_⟩;obtain⟨d,rs,s,m,S,R,T,k⟩:=h;obtain⟨⟨C,U,J,hp⟩,hd,a,g,t,u⟩:=id S;rw[aT]at J;cases J;obtain⟨cl,n1⟩:=id aN;have i:=a.keys;have nd:(rs.map (·.1)).Nodup:=by rw[i];exact g.up.imp λh=>by omega
 have V:rs.length<YB:=aG (by
  have:=iO (by rw[←i];exact nd) g.rg;rw[Yg]at this;have e:rs.length=s.length:=Y7 a;omega)
 cbv;rcases a.lk x with⟨E,l⟩|⟨r,m0,E,l,W⟩
 ·rw[E];refine dh (λz=>absurd z (by decide)) λ_=>?_;exact k H rs s (.refl _ _) S (λ_=>rfl) (λm0 z=>by rw[l]at z;cases z) λq v=>.inl v
 ·have X:=hd;rw[E];refine dh (λ_=>?_) λz=>absurd rfl z;cbv;have Y:=t _ (tbl_mem l);refine⟨r,c,m0,m,rfl,.inl W,R,Y.toCk,T,λH1 q j A v Z L mx=>?_⟩;have G:=A _ _ hp;have I:=A _ _ hd;cbv;intro M B g2;have Zi:x∈s.map (·.1):=tbl_key.mp (by rw[l];rfl);have N:q≠d:=λz=>by rw[z]at v;rw[v]at hd;cases hd
  have y:sQ M rs s:=Rc a u λr o n e=>B.at n (A _ _ e);refine k M _ (uZ s x j) (λb o n e=>B.at n (A _ _ e)) ⟨⟨_,U,aT,B.of I G (by intro z;cases z)⟩,g2,Pa (B.at N Z) (by rw[←i];exact nd) Zi y,by rw[va];exact g,λe he=>?_,λw hw=>?_⟩ (λz=>by rw[l]at z;cases z) (λm1 z=>⟨j,L,?_,rfl⟩) λw hw=>?_
  ·obtain⟨O,h0,rfl⟩:=YC.mp he;by_cases w:O.1=x
   ·rw[if_pos w];exact L
   ·rw[if_neg w];exact t O h0
  ·rcases u7 _ _ _ _ hw with z|z
   ·rw[z];intro w;cases w;exact N rfl
   ·exact u w z
  ·rw[l]at z;cases z;exact mx
  ·rcases u7 _ _ _ _ hw with z|z
   ·rw[z];exact .inr ⟨q,rfl,v⟩
   ·exact .inl z
theorem kz:∀{rs:List (Int×V)} {tb:List (Int×List (Int×Int))} {i:Nat} {q:Int×V},sQ H rs tb->rs[i]?=Ya q->∃e r,tb[i]?=Ya e/\q.1=e.1/\q.2=.ref r/\H r=Ya (.dK (dI e.2)):=by
 intro a b i q w
 induction w generalizing i with
 |nil=>exact λe=>by simp at e
 |cons w _ ih=>
  intro e;cases i with
  |zero=>
   obtain⟨c,r,d,f⟩:=w;simp at e;subst e;exact⟨_,r,rfl,c,d,f⟩
  |succ i=>
   obtain⟨p,r,h1,h2⟩:=ih (i:=i) (by simpa using e);exact⟨p,r,by simpa using h1,h2⟩
theorem NH{m:List (Int×V)}{k:bJ}(h:(dG m)[i]?=Ya (k,v)):∃p,m[i]?=Ya p/\k=YN p.1/\v=p.2:=by
 unfold dG at h;rw[Yy]at h;cases e:m[i]? with
 |none=>rw[e]at h;cases h
 |some p=>rw[e]at h;cases h;exact⟨p,rfl,rfl,rfl⟩
theorem Xi{a:Hp}{d:Ye}{rs:List (Int×V)}(s:aH B a)(k:lL K mg B p d rs tb):lL K mg a p d rs tb:=by
 obtain⟨⟨C,b,e,h⟩,h2,h3,h4,h5,h6⟩:=k;exact⟨⟨C,b,e,s _ _ h⟩,s _ _ h2,gj (λr m q=>s _ _ q) h3,h4,h5,h6⟩
noncomputable def xf(g:Int->Int):List (Int×Int):=(B9.filter λk=>decide (0<g k)).map λk=>(k,g k)
theorem pY:∀{l m:List Int},l.Pairwise (·<·)->m.Pairwise (·<·)->(∀x,x∈l↔x∈m)->l=m
 |[],[],_,_,_=>rfl
 |[],b::m,_,_,h=>absurd ((h b).mpr Ys) (by simp)
 |a::l,[],_,_,h=>absurd ((h a).mp Ys) (by simp)
 |a::l,b::m,hl,hm,h=>by
  rw[adb]at hl hm;have e:a=b:=by
   rcases Yn.mp ((h a).mp Ys)with z|z
   ·exact z
   ·rcases Yn.mp ((h b).mpr Ys)with w|w
    ·exact w.symm
    ·have:=hm.1 a z;have:=hl.1 b w;omega
  subst e;rw[pY hl.2 hm.2 λx=>?_];constructor
  ·intro c;rcases Yn.mp ((h x).mp (Yr _ c))with z|z
   ·have:=hl.1 x c;omega
   ·exact z
  ·intro c;rcases Yn.mp ((h x).mpr (Yr _ c))with z|z
   ·have:=hm.1 x c;omega
   ·exact z
theorem Cp:B9.Pairwise (·<·):=by decide +kernel
theorem MH{S:List Int}(a:S.Pairwise (·<=·))(nd:S.Nodup):S.Pairwise (·<·):=by
 have:=ago.mpr ⟨a,nd⟩;exact this.imp λh=>by omega
theorem HA{S:List Int}(c:Ck m)(a:S.Perm (m.map (·.1)))(b:S.Pairwise (·<=·)):sW m S=xf (ct m):=by
 unfold sW xf;have:=pY (l:=S.filter λk=>decide (0<ct m k)) (m:=B9.filter λk=>decide (0<ct m k)) ((MH b (a.nodup_iff.mpr c.nd)).filter _) (Cp.filter _) λx=>?_
 ·rw[this]
 ·rw[cw,cw];constructor
  ·rintro⟨h1,h2⟩;obtain⟨p,hp,e⟩:=YC.mp (a.mem_iff.mp h1);have:=c.rg p hp;rw[e]at this;exact⟨BH.mpr this,h2⟩
  ·rintro⟨h1,h2⟩;have h3:0<ct m x:=of_decide_eq_true h2;exact⟨a.mem_iff.mpr (W6 (by omega)),h2⟩
def Jt(H:Hp)(x:V)(e:Int×List (Int×Int)):Prop:=∃t u a,x=.ref t/\H t=Ya (.tup [.int e.1,.ref u])/\H u=Ya (.tup a)/\jQ H a e.2
abbrev yt(H:Hp):List V->List (Int×List (Int×Int))->Prop:=fm (Jt H)
theorem Jt.up(h:∀a xs,H a=Ya (.tup xs)->H' a=Ya (.tup xs)){x:V}(q:Jt H x e):Jt H' x e:=by
 obtain⟨t,u,xs,b,c,d,f⟩:=q;exact⟨t,u,xs,b,h _ _ c,h _ _ d,f.mono h⟩
theorem iz(h:∀a xs,H a=Ya (.tup xs)->H' a=Ya (.tup xs)){ls:List (Int×List (Int×Int))}(q:yt H xs ls):yt H' xs ls:=fm.mapP q λ_ _ z=>z.up h
theorem JY:∀{xs:List V} {ls:List (Int×List (Int×Int))} {x:V} {e:Int×List (Int×Int)},yt H xs ls->Jt H x e->yt H (xs++[x]) (ls++[e]):=by
 intro a b c d w h
 induction w with
 |nil=>exact .cons h .nil
 |cons r _ ih=>exact .cons r ih
noncomputable def uR(tb:List (Int×List (Int×Int))):List (Int×List (Int×Int)):=(tb.filter λe=>!e.2.isEmpty).map λe=>(e.1,xf (ct e.2))
theorem Bl(a:tb[i]?=Ya e):uR (tb.take (i+ 1))=uR (tb.take i)++if e.2.isEmpty then[]else[(e.1,xf (ct e.2))]:=by
 unfold uR;rw[aQ a,Y3,Yx];congr 1;cases z:e.2.isEmpty<;>simp[z]
theorem Dx(c:Ck m):m.length<64:=by
 have:=iO c.nd (λk a=>by obtain⟨p,hp,e⟩:=YC.mp a;rw[←e];exact c.rg p hp);rw[Yg]at this;exact this
def nY(K:Yc)(mg:Yo->Option Yd):Sp:=λe H Q _=>∃(p:Ye),e=[.ref p]/\∃d rs b,lL K mg H p d rs b/\∀a t c,aH H a->H t=Yb->a t=Ya (.tup c)->yt a c (uR b)->Q (.ref t) a
theorem xC:aE ["self"] aO (ao jh):=eY
variable{zQ:Ye}{vP:YD}(Ep:∅ 1 zQ vP Ao (vM K))(ux:d6 K mg "packed" zQ vP Ao)
include eV Ep ux je aN aT in
theorem xg(F:bG K "listed" "Known.listed" jh f fd):∅ 2 f fd aO (nY K mg):=by
 refine F.oj xC ?_;rintro _ A _ _ H _ _ _ hr _ U hu ⟨p,rfl,h⟩;refine⟨_,(au (Hx (aL (bN (iL (K:=K) rfl) (by rfl) je abI (aa (bM ["hand","row"] [Yb,Yb] rfl rfl (by kernel_rfl) (Nv (aJ (K:=K) rfl (pv 0) rfl)) (λ_ _ _ _ _ nd=>mX (K:=K) (n:=2) rfl rfl (c7 (aP (i:=0) nd rfl (Or.inl rfl)) (c7 (aP (i:=1) nd rfl (Or.inl rfl)) mU))) (λ_ _ _ _ _=>(d9 (bo (Uq U) (pv 1) pC (bu _)))) (λ_ _ _ _ _=>(cC (aa (pv 0) (aa (a9 Ep ux hr (aa (pv 1) af)) af))))) af))))),?_⟩;obtain⟨d,rs,W,S,k⟩:=h;obtain⟨⟨C,dx,eC,hp⟩,hd,E,G,X,Y⟩:=id S;rw[aT]at eC;cases eC;obtain⟨cl,n1⟩:=id aN;have I:rs.length=W.length:=Y7 E;have am:W.length<64:=by
  have:=iO (G.up.imp λh=>by omega) G.rg;rw[Yg]at this;exact this
 refine NL (d:=d) hd ?_;cbv;refine VZ hd λo A O Z=>?_;intro D Q;have an:D≠d:=λz=>by rw[z,O]at Q;cases Q
 refine Ge (λi σ s=>∃v1 v2 g,σ=[v1,v2]/\aH A s/\s D=Ya (.lst g)/\yt s g (uR (W.take i))/\g.length<=i) ⟨Yb,Yb,[],rfl,aC Q,ai,.nil,Yl _⟩ ?_ ?_ ?_
 ·rintro i σ s _ ⟨_,_,_,_,z,_⟩;exact z _ _ O
 ·rintro i ky v t σ H0 s ab ⟨v1,v2,g,rfl,ac,ad,ae,j⟩ ap s0 m;obtain⟨q,hq,rfl,rfl⟩:=NH ab;obtain⟨e,r,R,e1,e2,e3⟩:=kz E hq;have hi:=(Yj.mp R).1;have ag:r≠d:=λz=>Y q (YA hq) (by rw[e2,z]);have sm:=ac.trans s0;have ah:=sm _ _ (Z _ _ ag e3);have x:=s0 _ _ ad;have J:=iz (λa c z=>s0 a _ z) ae;rw[e2]at m;have m:=bI.of (K:=K) m;cbv;intro l H1 hl L g1;have al:Rd H1 r (.dK (dI e.2)):=.inl (L _ _ ah);have aq:Rd H1 l (.dK []):=.inl g1;cbv;refine dh (λh1=>?_) λh1=>?_
  ·have ne:e.2.isEmpty=false:=by
    cases z:e.2.isEmpty
    ·rfl
    ·rw[z]at h1;cases h1
   have te:=X e (YA R);cbv;refine⟨r,e.2,rfl,al,Y2 (Dx te.toCk) (Yl _),λH2 u c S s2 hu pm so gu pr=>?_⟩;rw[HA te.toCk pm so]at pr;cbv;intro t3 T ar y g3;have B:aH s T:=L.trans (s2.trans y);have M:=B _ _ x;have kp:∀a c,T a=Ya (.tup c)->(upd T D (.lst (g++[V.ref t3]))) a=Ya (.tup c):=λa c z=>by
    rw[ak (bU z M (by intro z;cases z))];exact z
   refine⟨g,M,aG (by omega),_,_,_,rfl,λb o z=>?_,ai,?_,by rw[Yu];exact abm j⟩
   ·rw[ak (ax z Q)];exact B _ _ (sm b o z)
   ·rw[Bl R,ne];refine JY (iz (λa c z=>kp a c (B _ _ z)) J) ⟨t3,u,c,rfl,?_,kp _ _ (y _ _ gu),(pr.mono λa c z=>kp _ _ (y _ _ z))⟩;rw[←e1];exact kp _ _ g3
  ·have ne:e.2.isEmpty=true:=by
    cases z:e.2.isEmpty
    ·rw[z]at h1;exact absurd rfl h1
    ·rfl
   refine⟨_,_,g,rfl,sm.trans L,L _ _ x,?_,acD j⟩;rw[Bl R,ne];simp only[if_true,sq];exact iz (λa c z=>L _ _ z) J
 rintro σ s ⟨v1,v2,g,rfl,sm,x,J,j⟩;rw[sT,I,YY]at J;rw[sT,I]at j;cbv;intro t T m y g3;have kd:=y _ _ (sm _ _ O);have N:t≠d:=λz=>by rw[z,sm _ _ O]at m;cases m
 refine⟨⟨o,kd⟩,?_⟩;refine k _ t g (thaw_same (λb u n e=>y _ _ (sm _ _ (Z b u n e))) hd) ?_ (by rw[ak N];exact g3) (iz (λa c z=>?_) J)
 ·cases z:H t with
  |none=>rfl
  |some u=>rw[sm _ _ (Z t u N z)]at m;cases m
 ·have z3:=y _ _ z;rw[ak (bU z3 kd (by intro z;cases z))];exact z3
noncomputable def R3:List (Int×List (Int×Int))->Int->Int->Int->Int
 |[],_,_,c=>c
 |e::ls,h,k,c=>R3 ls h k (if e.1=h then max c (ct e.2 k)else c)
theorem Iu(h k:Int)(e:Int×List (Int×Int)):∀(ls:List (Int×List (Int×Int))) (c:Int),R3 (ls++[e]) h k c=if e.1=h then max (R3 ls h k c) (ct e.2 k)else R3 ls h k c
 |[],c=>rfl
 |_::ls,c=>Iu h k e ls _
theorem Q4{K:Yc}{d:Ye}{kvs:List (bJ×V)}(b:K0 d H H')(hd:H d=Ya (.dK kvs))(h:bI K H a xs):bI K H' a xs:=by
 rcases h with(h|⟨z,h⟩)|h
 ·exact .inl (.inl (b _ _ (bU h hd (by intro z;cases z)) h))
 ·exact .inl (.inr ⟨z,b _ _ (bU h hd (by intro z;cases z)) h⟩)
 ·exact .inr h
theorem gy:h∉tb.map (·.1)↔tbl tb h=none:=by
 rw[←tbl_key];cases tbl tb h<;>simp
theorem Px(t:Td m):eU m=m:=by
 unfold eU;exact List.filter_eq_self.mpr λp hp=>decide_eq_true (t.ps p hp)
theorem Mx:∀{xs:List V} {ls:List (Int×List (Int×Int))} {i:Nat} {x:V},yt H xs ls->xs[i]?=Ya x->∃e,ls[i]?=Ya e/\Jt H x e:=by
 intro a b i x w
 induction w generalizing i with
 |nil=>exact λe=>by simp at e
 |cons r _ ih=>
  intro e;cases i with
  |zero=>simp at e;subst e;exact⟨_,rfl,r⟩
  |succ i=>
   obtain⟨p,h1,h2⟩:=ih (i:=i) (by simpa using e);exact⟨p,by simpa using h1,h2⟩
def pV(K:Yc)(mg:Yo->Option Yd):Sp:=λj H Q _=>∃(p a:Ye),j=[.ref p,.ref a]/\∃d rs c i ls,lL K mg H p d rs c/\bI K H a i/\yt H i ls/\ls.length<=64/\(∀e∈ls,Td e.2)/\
 ∀f b g,K0 d H f->lL K mg f p d b g->g.map (·.1)=c.map (·.1)->(∀h∈c.map (·.1),∀k,ct ((tbl g h).getD []) k=R3 ls h k (ct ((tbl c h).getD []) k))->(∀q∈b,q∈rs∨∃r,q.2=.ref r/\H r=Yb)->Q .non f
abbrev CY:List Yo:=["self","listed"]
theorem jk:aE ["self","listed","hand","row"] CY (ao kT):=eY
variable{lF:Ye}{jv:YD}(rJ:∅ 3 ng kj F3 (jY K))(rY:∅ 3 lF jv Bc (ji K mg))(fA:Binds K jv Bc [])(cF:bx K cS "learn" lF)
include eV rJ eQ rY fA aN aT cF in
theorem zM(F:bG K "merge" "Known.merge" kT f fd):∅ 4 f fd CY (pV K mg):=by
 refine F.oj jk ?_;rintro _ _ _ _ H _ _ _ Y _ _ _ ⟨p,a,rfl,h⟩;refine⟨_,(au (jC aai rfl (Ho (K:=K) rfl (pv 1)) (mX (K:=K) (n:=2) rfl rfl (c7 (aP (i:=2) jk.nd rfl (Or.inl rfl)) (c7 (aP (i:=3) jk.nd rfl (Or.inl rfl)) mU)))
   (au (dw (bO (bV.cons aN.cl cF rY fA bV.nil) (pv 0) Y (aa (pv 2) (aa (a9 rJ eQ Y (aa (pv 3) af)) af))))))),?_⟩
 obtain⟨d,rs,y,Z,ls,S,hS,hx,hl,ht,k⟩:=h;have lx:Z.length=ls.length:=Y7 hx;cbv;let I:Nat->St->Hp->Prop:=λi σ s=>∃J L g c,σ=[Ya (.ref p),Ya (.ref a),J,L]/\K0 d H s/\lL K mg s p d g c/\c.map (·.1)=y.map (·.1)/\(∀h∈y.map (·.1),∀k,ct ((tbl c h).getD []) k=R3 (ls.take i) h k (ct ((tbl y h).getD []) k))/\(∀q∈g,q∈rs∨∃r,q.2=.ref r/\H r=Yb);refine CD (xs:=Z) I ⟨Yb,Yb,rs,y,rfl,.refl _ _,S,rfl,λ_ _ _=>rfl,λq hq=>.inl hq⟩ (λi σ s _ z=>?_) ?_ ?_
 ·obtain⟨_,_,_,_,_,z,_⟩:=z;exact Q4 z S.dc hS
 ·rintro i x σ s M ⟨J,L,g,c,rfl,l,A,v,B,N⟩;obtain⟨e,he,t,u,ys,rfl,e2,e3,e4⟩:=Mx hx M;have D:=ht e (YA he);have O:t≠d:=bU e2 S.dc (by intro z;cases z);have Q:u≠d:=bU e3 S.dc (by intro z;cases z);have ab:=bI.of (K:=K) (l _ _ O e2);have R:=bI.of (K:=K) (l _ _ Q e3);have py:jQ s ys e.2:=e4.mono λb zs z=>l _ _ (bU z S.dc (by intro z;cases z)) z;obtain⟨⟨C,dx,eC,hp⟩,m,_⟩:=id A;rw[aT]at eC;cases eC;obtain⟨cl,n1⟩:=id aN;cbv;refine⟨u,ys,e.2,rfl,.inr R,py,by have:=Dx D.toCk;omega,D.nd,λH2 q E hq g2=>?_⟩;have S2:=Xi E A;rw[Px D]at g2;have m:=E _ _ m;cbv;refine⟨p,e.1,q,rfl,d,g,c,e.2,S2,.inl g2,D.toCk,λH3 T U V S3 c1 c2 c3=>?_⟩;refine⟨_,_,T,U,rfl,λb o n z=>V _ _ n (E _ _ (l _ _ n z)),S3,?_,λh hh k=>?_,λw hw=>?_⟩
  ·cases z:tbl c e.1 with
   |none=>rw[c1 z];exact v
   |some m0=>
    obtain⟨j,_,_,W⟩:=c2 m0 z;rw[W,va];exact v
  ·rw[aQ he,Iu,←B h hh k];cases z:tbl c e.1 with
   |none=>
    rw[c1 z,if_neg];intro w;rw[w,←gy]at z;exact z (by rw[v];exact hh)
   |some m0=>
    obtain⟨j,_,mx,W⟩:=c2 m0 z;rw[W,uS];by_cases w:e.1=h
    ·rw[if_pos w,if_pos ⟨w.symm,by rw[z];rfl⟩,←w,z];exact AH (mx k)
    ·rw[if_neg w,if_neg (λu=>w u.1.symm)]
  ·rcases c3 w hw with z|⟨r,e5,G⟩
   ·exact N w z
   ·refine .inr ⟨r,e5,?_⟩;have X:r≠d:=λz=>by rw[z,m]at G;cases G
    cases z:H r with
    |none=>rfl
    |some o=>rw[E _ _ (l _ _ X z)]at G;cases G
 rintro σ s ⟨J,L,g,c,rfl,l,A,v,B,N⟩;cbv;rw[lx,YY]at B;exact k _ g c l A v B N
noncomputable abbrev lB:Y4:=bw (eZ 32) 4
noncomputable abbrev m6:Y4:=bw (eZ 32) 5
noncomputable abbrev kQ:Y4:=bw (eZ 32) 3
noncomputable abbrev jB:Y4:=bw (eZ 25) 1
noncomputable abbrev hZ:Y4:=bw (eZ 26) 0
noncomputable abbrev jD:Y4:=bw (eZ 27) 0
noncomputable abbrev ph:Y4:=bw (eZ 24) 7
noncomputable abbrev vj:Y4:=eZ 30
noncomputable def EC(tb:List (Int×List (Int×Int)))(h c:Int):Nat:=(tb.filter λe=>decide (c<=ct e.2 h)).length
noncomputable def ON(tb:List (Int×List (Int×Int))):List Nm->Nat
 |[]=>0
 |p::ns=>if 2*EC tb p.2.1 p.2.2<=tb.length then 0 else ON tb ns+ 1
theorem Gd{tb:List (Int×List (Int×Int))}:∀{ns:List Nm} {i:Nat},(∀k (hk:k<ns.length),k<i->¬ 2*EC tb ns[k].2.1 ns[k].2.2<=tb.length)->i<=ns.length->(∀a:i<ns.length,2*EC tb ns[i].2.1 ns[i].2.2<=tb.length)->ON tb ns=i
 |[],i,_,h2,_=>by
  have:i=0:=by simpa using h2
  rw[this];rfl
 |p::ns,0,_,_,h3=>by
  have this:2*EC tb p.2.1 p.2.2<=tb.length:=h3 (by simp);unfold ON;rw[if_pos this]
 |p::ns,i+ 1,h1,h2,h3=>by
  have z:¬ 2*EC tb p.2.1 p.2.2<=tb.length:=h1 0 (by simp) (by omega);unfold ON;rw[if_neg z,Gd (i:=i) (λk hk b=>h1 (k+ 1) (by simpa using hk) (by omega)) (by simpa using h2) λa=>h3 (by simpa using a)]
def pS(K:Yc)(mg:Yo->Option Yd):Sp:=λe H Q _=>∃(p t:Ye),e=[.ref p,.ref t]/\∃d rs a n h c,lL K mg H p d rs a/\H t=Ya (.tup [.int n,.int h,.int c])/\∀b,aH H b->Q (.int (EC a h c)) b
theorem Dv{c:Int}(a:tb[i]?=Ya e):EC (tb.take (i+ 1)) h c=EC (tb.take i) h c+ if c<=ct e.2 h then 1 else 0:=by
 unfold EC;rw[aQ a,Y3,Yu];congr 1;by_cases z:c<=ct e.2 h
 ·rw[if_pos z];simp[z]
 ·rw[if_neg z];simp;omega
abbrev DY:List Yo:=["self","name"]
theorem zm:aE ["self","name"] DY (ao lB):=eY
include eV iA cU eh aN aT in
theorem zi(F:bG K "reach" "Known.reach" lB f fd):∅ 3 f fd DY (pS K mg):=by
 refine F.oj zm ?_;rintro _ A _ _ _ _ _ _ X _ _ _ ⟨p,t,rfl,h⟩;refine⟨_,(au (Hx (aL (br (de (K:=K) rfl) (by rfl) eh aat (aa (bM ["name","row"] [Ya 1,Yb] rfl rfl (by kernel_rfl) (Qo (aJ (K:=K) rfl (pv 0) rfl)) (λ_ _ _ _ _ nd=>aP (i:=1) nd rfl (Or.inl rfl)) (λ_ _ _ _ _=>(d9 (dA K rfl (a9 iA cU X (aa (pv 1) (aa (pv 0) af)))))) (λ_ _ _ _ _=>(pv 1))) af))))),?_⟩;obtain⟨d,rs,G,n,x,c,S,T,k⟩:=h;obtain⟨⟨C,dx,U,hp⟩,hd,l,m,Y,H⟩:=id S;rw[aT]at U;cases U;obtain⟨cl,n1⟩:=id aN;have I:rs.length=G.length:=Y7 l;have Z:G.length<64:=by
  have:=iO (m.up.imp λh=>by omega) m.rg;rw[Yg]at this;exact this
 refine NL (d:=d) hd ?_;cbv;refine VZ hd λo A J L=>?_;intro D E;have ab:D≠d:=λz=>by rw[z,J]at E;cases E
 refine Kt (λi σ s=>∃v j,σ=[Ya (.ref t),v]/\aH A s/\s D=Ya (.lst j)/\j.length=EC (G.take i) x c/\j.length<=i) ⟨Yb,[],rfl,aC E,ai,by simp[EC],Yl _⟩ ?_ ?_ ?_
 ·rintro i σ s _ ⟨_,_,_,z,_⟩;exact z _ _ J
 ·rintro i ky v σ s M ⟨v1,j,rfl,a,g,y,B⟩;obtain⟨q,V,rfl,rfl⟩:=NH M;obtain⟨e,r,N,e1,W,e3⟩:=kz l V;have hi:=(Yj.mp N).1;have O:r≠d:=λz=>H q (YA V) (by rw[W,z]);have Q:=a _ _ (L _ _ O e3);have R:=a _ _ (L _ _ (bU T hd (by intro z;cases z)) T);rw[W];cbv;refine⟨r,t,rfl,_,_,_,_,.inl Q,bI.of R,?_⟩;cbv;refine dh (λh1=>?_) λh1=>?_
  ·have h1:c<=ct e.2 x:=of_decide_eq_true h1;cbv;refine⟨_,g,aG (by omega),_,_,rfl,λb o z=>?_,ai,?_,?_⟩
   ·rw[ak (ax z E)];exact a b o z
   ·rw[Yu,y,Dv N,if_pos h1];rfl
   ·rw[Yu];exact abm B
  ·have h1:¬ c<=ct e.2 x:=λz=>h1 (decide_eq_true z);exact⟨_,j,rfl,a,g,by rw[y,Dv N,if_neg h1];rfl,by omega⟩
 rintro σ s ⟨v1,j,rfl,a,g,y,B⟩;rw[sT,I,YY]at y;cbv;refine⟨⟨o,a _ _ J⟩,?_⟩;rw[y];exact k _ (thaw_same (λb u n e=>a _ _ (L b u n e)) hd)
def rP(K:Yc)(mg:Yo->Option Yd):Sp:=λf H Q _=>∃(p a:Ye),f=[.ref p,.ref a]/\∃d rs c b ns,lL K mg H p d rs c/\(bc K H a b∨bI K H a b)/\oT H b ns/\ns.length<=1000/\∀e,aH H e->Q (.int (ON c ns)) e
abbrev Ef:List Yo:=["self","places"]
theorem iu:aE ["self","places","so_many","name"] Ef (ao m6):=eY
variable{rM:Ye}{pL:YD}(rj:∅ 3 rM pL DY (pS K mg))(rS:Binds K pL DY [])(gi:bx K cS "reach" rM)
include eV rj rS eh aN aT gi in
theorem zV(F:bG K "sure" "Known.sure" m6 f fd):∅ 4 f fd Ef (rP K mg):=by
 refine F.oj iu ?_;rintro _ _ _ _ H _ _ _ D _ _ _ ⟨p,a,rfl,h⟩;refine⟨_,(aj (aW (i:=2) iu.nd rfl (Or.inl rfl) ay)
   (aj (jC aai rfl (Hw (K:=K) rfl (pv 1)) (aP (i:=3) iu.nd rfl (Or.inl rfl))
   (aj (dS (bo VA (aX vx ay (bO (bV.cons aN.cl gi rj rS bV.nil) (pv 0) D (aa (pv 3) af))) (br Gw (by rfl) eh aat (aa (aJ (K:=K) rfl (pv 0) rfl) af)) (bu _)) (au Od) bP)
   (au (aW (i:=2) iu.nd rfl (Or.inl rfl) (aX eG (pv 2) ay)))))
   (au (aL (pv 2))))),?_⟩
 obtain⟨d,rs,b,W,ns,S,E,hn,X,k⟩:=h;have hl:=hn.len;have G:∀z:Int,Cz 2 z:=λz=>.inl ⟨by decide,by decide⟩;cbv;let l:Nat->St->Hp->Prop:=λi σ g=>∃v,σ=[Ya (.ref p),Ya (.ref a),Ya (.int i),v]/\aH H g/\∀k (u:k<ns.length),k<i->¬ 2*EC b ns[k].2.1 ns[k].2.2<=b.length;refine Ol E l ⟨Yb,rfl,aH.refl _,λ_ _ z=>absurd z (ad3 _)⟩ (λi m g _ z=>by obtain⟨_,_,z,_⟩:=z;exact z) ?_ ?_
 ·rintro i x σ g I ⟨v,rfl,c,e⟩;obtain⟨q,J,t,rfl,L⟩:=hn.get I;obtain⟨M,rfl⟩:=Yj.mp J;have y:=Xi c S;obtain⟨⟨C,Y,A,hp⟩,hd,n,O,Q,R⟩:=id y;rw[aT]at A;cases A;obtain⟨cl,n1⟩:=id aN;have o:rs.length=b.length:=Y7 n;cbv;refine Be (λm B=>m=[Ya (.ref p),Ya (.ref a),Ya (.int i),Ya (.ref t)]/\aH H B/\¬ 2*EC b ns[i].2.1 ns[i].2.2<=b.length) ?_ λN T=>?_
  ·rintro m B ⟨rfl,r,s⟩;cbv;refine⟨_,rfl,r,λk u h=>?_⟩;rcases abx k i with z|z
   ·exact e k u z
   ·obtain rfl:k=i:=by omega
    exact s
  ·have Z:=G (EC b ns[i].2.1 ns[i].2.2);cbv;refine⟨p,t,rfl,d,rs,b,_,_,_,y,c _ _ L,λH2 j=>?_⟩;have U:=j _ _ hd;have V:=j _ _ hp;cbv;rw[sT,o];refine dh (λh1=>?_) λh1=>?_
   ·have h1:2*((EC b ns[i].2.1 ns[i].2.2:Nat):Int)<=((b.length:Nat):Int):=of_decide_eq_true h1;have h1:2*EC b ns[i].2.1 ns[i].2.2<=b.length:=by omega
    cbv;have:=Gd (tb:=b) (ns:=ns) e (by omega) λ_=>h1;rw[←this];exact k _ (c.trans j)
   ·have h1:¬ 2*((EC b ns[i].2.1 ns[i].2.2:Nat):Int)<=((b.length:Nat):Int):=λz=>h1 (decide_eq_true z);exact T _ _ ⟨rfl,c.trans j,by omega⟩
 rintro σ g ⟨v,rfl,c,e⟩;cbv;rw[hl]at e⊢;have:=Gd (tb:=b) (ns:=ns) e (Yl _) λz=>absurd z (Y8 _);rw[←this];exact k _ c
def pM(K:Yc)(mg:Yo->Option Yd):Sp:=λc H Q _=>∃(p:Ye),c=[.ref p]/\∃d rs a,lL K mg H p d rs a/\a≠[]/\a.length<=10/\∀b q j,aH H b->H q=Yb->b q=Ya (.dK (dI j))->Td j->(∀k,G8 (a.map (·.2)) k (ct j k))->Q (.ref q) b
theorem PV:∀{rs:List (Int×V)} {tb:List (Int×List (Int×Int))},sQ H rs tb->OO H ((dG rs).map (·.2)) (tb.map (·.2)):=by
 intro a b w
 induction w with
 |nil=>exact .nil
 |cons w _ ih=>
  obtain⟨_,r,c,d⟩:=w;exact .cons ⟨r,c,.inl d⟩ ih
theorem zA:aE ["self"] aO (ao kQ):=eY
variable{Fy:Ye}{Bk:YD}(DJ:∅ 3 Fy Bk zf (Bj K))(EF:d6 K mg "common" Fy Bk zf)
include eV DJ EF gK aN aT in
theorem yd(F:bG K "floor" "Known.floor" kQ f fd):∅ 4 f fd aO (pM K mg):=by
 refine F.oj zA ?_;rintro _ _ _ _ H _ _ _ x _ _ _ ⟨p,rfl,h⟩;refine⟨_,(au (aL (a9 DJ EF x (aa (bN (G6 rfl) (by rfl) gK aaX (aa (BI aaQ aby adg FU (aJ (K:=K) rfl (pv 0) rfl)) af)) af)))),?_⟩;obtain⟨d,rs,r,S,i,h10,k⟩:=h;obtain⟨⟨C,O,s,hp⟩,hd,a,y,n,A⟩:=id S;rw[aT]at s;cases s;obtain⟨cl,n1⟩:=id aN;have B:rs.length=r.length:=Y7 a;cbv;refine⟨d,_,rfl,rfl,hd,λv D=>?_⟩;have b:=aC (o:=Hf v d) D;have t:(upd H v (Hf v d)) v=Ya (Hf v d):=ai;generalize upd H v (Hf v d)=H1 at b t⊢;cbv;refine⟨v,d,_,rfl,t,.inl (b _ _ hd),by rw[sT];omega,λl hl=>?_⟩;have g:=aC (o:=.lst ((dG rs).map (·.2))) hl;have u:(upd H1 l (.lst ((dG rs).map (·.2)))) l=Ya (.lst ((dG rs).map (·.2))):=ai;generalize upd H1 l (.lst ((dG rs).map (·.2)))=H2 at g u⊢;cbv;have c:r.map (·.2)≠[]:=λz=>i (ace.mp z);refine⟨l,_,_,rfl,bc.of u,PV (gj (λ_ _ q=>g _ _ (b _ _ q)) a),λm hm=>?_,by rw[Yg];exact h10,λE q j G I J L _ M=>?_⟩
 ·obtain⟨e,N,rfl⟩:=YC.mp hm;exact(n e N).toCk
 ·exact k E q j (b.trans (g.trans G)) (b.free (g.free I)) J L (M c)
def lP(H:Hp)(v:V)(x:bK):Prop:=∃a t b,v=.ref a/\H a=Ya (.tup [.int x.n,.int x.c,.int x.k,.str x.kd,.int x.w,.ref t])/\H t=Ya (.tup b)/\jQ H b x.cs
structure Wf(x:bK):Prop where
 kd:x.kd="own"∨x.kd="heard"∨x.kd="one"
 w:(if x.w<0 then-x.w else x.w)<10^(60:Int).toNat
 cs:Ck x.cs
 ow:x.kd="own"->x.cs=[]
 c0:0<=x.c
 c1:x.c<63
variable{cs:List bK}{kd:Yo}
abbrev Xv(H:Hp):List V->List bK->Prop:=fm (lP H)
theorem lP.up(s:dC H H'){x:bK}(h:lP H v x):lP H' v x:=by
 obtain⟨a,t,b,c,d,e,f⟩:=h;exact⟨a,t,b,c,s _ _ d,s _ _ e,f.mono s⟩
noncomputable def Vh(x:bK):abJ:=.tuple [.int x.n,.int x.c,.int x.k,.str x.kd,.int x.w,.tuple (x.cs.map Xm)]
theorem lP.dp{K:Yc}{x:bK}(h:lP H v x):Dp K H v (Vh x):=by
 obtain⟨a,t,e,rfl,b,c,d⟩:=h;exact .tup (bI.of b) (.cons (.int _) (.cons (.int _) (.cons (.int _) (.cons (.str _) (.cons (.int _) (.cons (.tup (bI.of c) d.dps) .nil))))))
theorem Xv.dps{K:Yc}{H:Hp}:∀{vs:List V} {cs:List bK},Xv H vs cs->Ea K H vs (cs.map Vh)
 |_,_,.nil=>.nil
 |_,_,.cons r t=>.cons r.dp (Xv.dps t)
theorem Su{x:bK}(wf:Wf x):(Vh x).canLay0=true:=by
 have e:PyData.strOk x.kd=true:=by
  rcases wf.kd with h|h|h<;>rw[h]<;>decide +kernel
 simp[Vh,agp,aaK,BN,e]
theorem Iq:∀{cs:List bK},(∀x∈cs,Wf x)->aaK (cs.map Vh)=true
 |[],_=>rfl
 |p::ns,h=>by rw[YF,abN,Su (h p Ys),Iq λx a=>h x (Yr _ a)];rfl
def oa(K:Yc):Sp:=λa H Q _=>∃(p:Ye),a=[.ref p]/\Q (.str "own") H
def kM(K:Yc):Sp:=λa H Q _=>∃(p:Ye),a=[.ref p]/\Q (.str "heard") H
def nN(K:Yc):Sp:=λa H Q _=>∃(p:Ye),a=[.ref p]/\Q (.str "one") H
theorem xF:aE ["self"] aO (ao jB):=eY
include eV in
theorem wZ(F:bG K "kind" "OwnCall.kind" jB f fd):∅ 1 f fd aO (oa K):=by
 refine F.oj xF ?_;rintro _ _ _ _ _ _ _ _ _ _ _ _ ⟨p,rfl,h⟩;refine⟨_,(au (aL jH)),?_⟩;cbv;exact h
theorem uY:aE ["self"] aO (ao hZ):=eY
include eV in
theorem uq(F:bG K "kind" "HeardCall.kind" hZ f fd):∅ 1 f fd aO (kM K):=by
 refine F.oj uY ?_;rintro _ _ _ _ _ _ _ _ _ _ _ _ ⟨p,rfl,h⟩;refine⟨_,(au (aL jH)),?_⟩;cbv;exact h
theorem xH:aE ["self"] aO (ao jD):=eY
include eV in
theorem xK(F:bG K "kind" "OneCall.kind" jD f fd):∅ 1 f fd aO (nN K):=by
 refine F.oj xH ?_;rintro _ _ _ _ _ _ _ _ _ _ _ _ ⟨p,rfl,h⟩;refine⟨_,(au (aL jH)),?_⟩;cbv;exact h
def mI(K:Yc)(mg:Yo->Option Yd):Sp:=λb H Q _=>∃(v:V),b=[v]/\∃x,gY K mg H v x/\∀a t,aH H a->H t=Yb->lP a (.ref t) x->Q (.ref t) a
theorem BQ:aE ["self"] aO (ao ph):=eY
variable{qo:Ye}{mj:Ye}{oX:Ye}{ou:YD}{jT:YD}{oz:YD}(p4:∅ 1 qo ou aO (oa K))(pG:Binds K ou aO [])(l8:∅ 1 mj jT aO (kM K))(lV:Binds K jT aO [])(ql:∅ 1 oX oz aO (nN K))(pZ:Binds K oz aO [])(d8:bx K bf "kind" mj)(fH:bx K bE "kind" oX)(fG:bx K bF "kind" qo)
include eV p4 pG l8 lV ql pZ av aA az aw aB aD d8 fH fG in
theorem B5(F:bG K "told" "Call.told" ph f fd):∅ 2 f fd aO (mI K mg):=by
 refine F.oj BQ ?_;rintro _ _ _ _ H _ _ _ q _ _ _ ⟨v,rfl,h⟩;refine⟨_,(au (aL (cC (aa (aJ (K:=K) rfl (pv 0) rfl) (aa (aJ (K:=K) rfl (pv 0) rfl) (aa (aJ (K:=K) rfl (pv 0) rfl) (aa (bB (bV.cons az.cl fG p4 pG (bV.cons av.cl d8 l8 lV (bV.cons aA.cl fH ql pZ bV.nil))) (pv 0) q) (aa (aJ (K:=K) rfl (pv 0) rfl) (aa (aJ (K:=K) rfl (pv 0) rfl) af))))))))),?_⟩;obtain⟨x,⟨p,C,r,t,j,rfl,l,s,hp,m,d,y⟩,o⟩:=h;obtain⟨kd,n,c,k,w,cs⟩:=x;have l:Ts mg kd C:=l;have hp:H p=Ya (.ins C r (u4 (.int n) (.int c) (.int k) (.int w) (.ref t))):=hp;have d:jQ H j cs:=d;obtain⟨cl,n1,n2,n3,n4,n5⟩:=id s;rcases l with⟨rfl,e⟩|⟨rfl,e⟩|⟨rfl,e⟩
 ·rw[aD]at e;cases e;cbv;refine⟨p,rfl,?_⟩;cbv;intro u g a b i;exact o g u b a ⟨u,t,j,rfl,i,b _ _ m,d.mono (dC.same b)⟩
 ·rw[aw]at e;cases e;cbv;refine⟨p,rfl,?_⟩;cbv;intro u g a b i;exact o g u b a ⟨u,t,j,rfl,i,b _ _ m,d.mono (dC.same b)⟩
 ·rw[aB]at e;cases e;cbv;refine⟨p,rfl,?_⟩;cbv;intro u g a b i;exact o g u b a ⟨u,t,j,rfl,i,b _ _ m,d.mono (dC.same b)⟩
def zF(K:Yc)(mg:Yo->Option Yd):Sp:=λb H Q _=>∃(v:V),b=[v]/\∃x,lP H v x/\Wf x/\∀a p,aH H a->H p=Yb->gY K mg a (.ref p) x->Q (.ref p) a
theorem Gh:aE ["told"] ["told"] (ao vj):=eY
variable{oY:Ye}{mQ:YD}(wU:∅ 4 oY mQ IW (mW K mg))(jS:d6 K mg "make_call" oY mQ IW)
include eV wU jS av aA az aw aB aD in
theorem GK(F:bG K "call_of" "call_of" vj f fd):∅ 5 f fd ["told"] (zF K mg):=by
 refine F.oj Gh ?_;rintro _ _ _ _ H _ _ _ i _ _ _ ⟨v,rfl,h⟩;refine⟨_,(au (aL (a9 wU jS i (aa (bz (bA (K:=K) rfl) (pv 0) ay (λ_ _=>rfl)) (aa (bz (bA (K:=K) rfl) (pv 0) ay (λ_ _=>rfl)) (aa (bz (bA (K:=K) rfl) (pv 0) ay (λ_ _=>rfl)) (aa (bz (bA (K:=K) rfl) (pv 0) ay (λ_ _=>rfl)) (aa (bz (bA (K:=K) rfl) (pv 0) ay (λ_ _=>rfl)) (aa (bz (bA (K:=K) rfl) (pv 0) ay (λ_ _=>rfl)) af))))))))),?_⟩;obtain⟨x,⟨ta,e,j,rfl,h1,h2,h3⟩,a,k⟩:=h;have st:bI K H ta [.int x.n,.int x.c,.int x.k,.str x.kd,.int x.w,.ref e]:=bI.of h1;cbv;refine⟨x.n,x.c,x.k,x.kd,x.w,e,rfl,j,a.kd,a.w,h2,λl p C m n g hp b tc c d=>?_⟩;refine k l p g hp ⟨p,C,m,n,_,rfl,b,tc,c,d,?_,a.cs⟩;by_cases z:x.kd="own"
 ·rw[if_pos z,a.ow z];exact .nil
 ·rw[if_neg z];exact h3.mono (dC.same g)
noncomputable abbrev yX:Y4:=eZ 45
noncomputable abbrev vR:Y4:=eZ 35
noncomputable abbrev By:Y4:=eZ 21
structure Pg where
 me:Int
 nu:Int
 ha:Int
 ro:Int
 ma:Int
 dn:List (Int×Int)
 tk:List (V×bK)
 kp:List (V×bK)
 od:List Nm
 ta:List (Int×List (Int×Int))
 ab:List (Int×List (Int×Int))
variable{S S' S2:Pg}
structure RS where
 d:Ye
 t:Ye
 k:Ye
 o:Ye
 ta:Ye
 da:Ye
 ab:Ye
 db:Ye
 ra:List (Int×V)
 rb:List (Int×V)
variable{x x':RS}{d:List (Int×Int)}{t:Ye}
noncomputable def rwa(rs:List (Int×V)):List Ye:=rs.filterMap λq=>match q.2 with| .ref r=>Ya r|_=>Yb
theorem c9{rs:List (Int×V)}{r:Ye}:r∈rwa rs↔∃q∈rs,q.2=.ref r:=by
 unfold rwa;rw[acj];constructor
 ·rintro⟨q,a,e⟩;refine⟨q,a,?_⟩;split at e
  ·rename_i c b;cases e;exact b
  ·cases e
 ·rintro⟨q,a,e⟩;exact⟨q,a,by rw[e]⟩
noncomputable def RS.ft(x:RS)(p:Ye):List Ye:=[p,x.d,x.t,x.k,x.o,x.ta,x.da,x.ab,x.db]++(rwa x.ra++rwa x.rb)
noncomputable def dX(x:bK):List bJ:=[YN x.n,YN x.c,YN x.k]
noncomputable def Bz(q:V×bK):List bJ×V:=(dX q.2,q.1)
structure gZ(K:Yc)(mg:Yo->Option Yd)(H:Hp)(p:Ye)(S:Pg)(x:RS):Prop where
 ob:∃C dx,mg "Page"=Ya (.ref C)/\AI K C/\H p=Ya (.ins C dx (qW (.int S.me) (.int S.nu) (.int S.ha) (.int S.ro) (.int S.ma) (.ref x.d) (.ref x.t) (.ref x.k) (.ref x.o) (.ref x.ta) (.ref x.ab)))
 dn:H x.d=Ya (.dK (dI S.dn))
 td:Td S.dn
 tk:H x.t=Ya (.lst (S.tk.map (·.1)))
 tc:∀q∈S.tk,gY K mg H q.1 q.2
 kp:H x.k=Ya (.dT (S.kp.map Bz))
 kc:∀q∈S.kp,gY K mg H q.1 q.2
 kn:(S.kp.map λq=>dX q.2).Nodup
 kr:∀q∈S.kp,0<=q.2.c/\q.2.c<63
 od:∃xs,H x.o=Ya (.lst xs)/\oT H xs S.od
 ta:lL K mg H x.ta x.da x.ra S.ta
 ab:lL K mg H x.ab x.db x.rb S.ab
 to:x.t≠x.o
 dd:x.d≠x.da/\x.d≠x.db/\x.da≠x.db
 rr:∀q∈x.ra++x.rb,q.2≠V.ref x.d/\q.2≠V.ref x.da/\q.2≠V.ref x.db
 me:0<=S.me/\S.me<63
 ha:0<=S.ha/\S.ha<9223372036854775808
variable{dn:List (Int×Int)}
def Vc:HO->Prop
 | .dK _=>True
 | .lst _=>True
 | .dT _=>True
 | .ins _ _ fs=>fs.length≠5
 |_=>False
theorem gZ.fto(h:gZ K mg H p S x):∀a∈x.ft p,∃o,H a=Ya o/\Vc o:=by
 intro a ha;unfold RS.ft at ha;obtain⟨C,n,_,_,hp⟩:=h.ob;obtain⟨⟨s,f,_,h1⟩,h2,h3,_⟩:=h.ta;obtain⟨⟨t,g,_,h4⟩,h5,h6,_⟩:=h.ab;obtain⟨u,ho,_⟩:=h.od;have b:∀{rs:List (Int×V)} {c:List (Int×List (Int×Int))},sQ H rs c->a∈rwa rs->∃o,H a=Ya o/\Vc o:=fun{rs c} rw j=>by
  obtain⟨q,k,e⟩:=c9.mp j;obtain⟨i,l⟩:=YS k;obtain⟨_,r,_,_,d,m⟩:=kz rw l;rw[e]at d;cases d;exact⟨_,m,trivial⟩
 rcases YM.mp ha with z|z
 ·simp only[Yn,aac,or_false]at z;rcases z with rfl|rfl|rfl|rfl|rfl|rfl|rfl|rfl|rfl
  ·exact⟨_,hp,by show(11:Nat)≠5;decide⟩
  ·exact⟨_,h.dn,trivial⟩
  ·exact⟨_,h.tk,trivial⟩
  ·exact⟨_,h.kp,trivial⟩
  ·exact⟨_,ho,trivial⟩
  ·exact⟨_,h1,by show(1:Nat)≠5;decide⟩
  ·exact⟨_,h2,trivial⟩
  ·exact⟨_,h4,by show(1:Nat)≠5;decide⟩
  ·exact⟨_,h5,trivial⟩
 ·rcases YM.mp z with z|z
  ·exact b h3 z
  ·exact b h6 z
def Off(F:List Ye)(H a:Hp):Prop:=∀b o,H b=Ya o->b∉F->a b=Ya o
theorem Off.refl(F:List Ye)(H:Hp):Off F H H:=λ_ _ e _=>e
theorem Off.same{C:Hp}(a:Off F A B)(s:aH B C):Off F A C:=λb o e n=>s _ _ (a b o e n)
theorem Off.of(s:aH A B):Off F A B:=λb o e _=>s _ _ e
def mM(H a:Hp):Prop:=∀b o,H b=Ya o->¬ Vc o->a b=Ya o
theorem mM.same(s:aH H H'):mM H H':=λb o e _=>s _ _ e
theorem mM.smh(k:mM H H'):dC H H':=λb a e=>k _ _ e (by intro z;exact z)
theorem ja(o:Off F H H')(h:∀a∈F,∃u,H a=Ya u/\Vc u):mM H H':=λb u e n=>o b u e λz=>by
 obtain⟨v,c,d⟩:=h b z;rw[e]at c;cases c;exact n d
theorem gY.kpf(s:mM H H'){x:bK}(h:gY K mg H v x):gY K mg H' v x:=by
 obtain⟨p,C,a,t,b,c,d,e,f,g,i,j⟩:=h;exact⟨p,C,a,t,b,c,d,e,s _ _ f (by intro z;exact z rfl),s _ _ g (by intro z;exact z),i.mono s.smh,j⟩
theorem iV{d:Ye}{rs:List (Int×V)}(h:lL K mg H p d rs tb)(o:Off F H H')(hp:p∉F)(hd:d∉F)(c:∀r∈rwa rs,r∉F):lL K mg H' p d rs tb:=by
 obtain⟨⟨C,f,e,h1⟩,h2,h3,h4,h5,h6⟩:=h;refine⟨⟨C,f,e,o _ _ h1 hp⟩,o _ _ h2 hd,?_,h4,h5,h6⟩;have go:∀{rs:List (Int×V)} {tb:List (Int×List (Int×Int))},sQ H rs tb->(∀q∈rs,∀r,q.2=.ref r->r∉F)->sQ H' rs tb:=by
  intro rs tb h
  induction h with
  |nil=>intro _;exact .nil
  |cons r t ih=>
   intro n;obtain⟨e,g,b,i⟩:=r;exact .cons ⟨e,g,b,o _ _ i (n _ Ys _ b)⟩ (ih λq a=>n q (Yr _ a))
 exact go h3 λq a r e=>c r (c9.mpr ⟨q,a,e⟩)
theorem gZ.off(h:gZ K mg H p S x)(o:Off F H H')(k:mM H H')(n:∀a∈x.ft p,a∉F):gZ K mg H' p S x:=by
 obtain⟨C,d,e,f,hp⟩:=h.ob;obtain⟨g,ho,hn⟩:=h.od;have m:∀{a},a∈[p,x.d,x.t,x.k,x.o,x.ta,x.da,x.ab,x.db]->a∉F:=λha=>n _ (YU _ ha);refine⟨⟨C,d,e,f,o _ _ hp (m (by simp))⟩,o _ _ h.dn (m (by simp)),h.td,o _ _ h.tk (m (by simp)),λq b=>(h.tc q b).kpf k,o _ _ h.kp (m (by simp)),λq b=>(h.kc q b).kpf k,h.kn,h.kr,⟨g,o _ _ ho (m (by simp)),hn.up k.smh⟩,
  iV h.ta o (m (by simp)) (m (by simp)) (λr c=>n r (YH _ (YU _ c))),iV h.ab o (m (by simp)) (m (by simp)) (λr c=>n r (YH _ (YH _ c))),h.to,h.dd,h.rr,h.me,h.ha⟩
theorem gZ.same(h:gZ K mg H p S x)(s:aH H H'):gZ K mg H' p S x:=h.off (F:=[]) (Off.of s) (.same s) λ_ _ z=>nomatch z
def AQ(K:Yc)(mg:Yo->Option Yd):Sp:=λa H Q _=>∃(v:V),a=[v]/\∃x,gY K mg H v x/\Q (.str (if x.kd="one"then "sure"else "ready")) H
theorem Ky:aE ["call"] pW (ao yX):=eY
variable(eI:∅ 1 d5 fM aO (fO K))(fQ:∅ 1 eO dZ aO (d4 K))
include eV eI bH fQ bS av aA az aw aB aD aR a8 a7 in
theorem KR(F:bG K "why_of" "why_of" yX f fd):∅ 2 f fd pW (AQ K mg):=by
 refine F.oj Ky ?_;rintro _ _ _ _ H _ Q _ d _ _ _ ⟨v,rfl,h⟩;refine⟨_,(au (aL (yF (dA K rfl (bB (bV.cons az.cl a7 eI bH (bV.cons av.cl aR eI bH (bV.cons aA.cl a8 fQ bS bV.nil))) (pv 0) d)) jH jH))),?_⟩;obtain⟨x,⟨p,C,g,t,l,rfl,b,m,hp,o,i,j⟩,a⟩:=h;obtain⟨kd,n,c,k,w,cs⟩:=x;have b:Ts mg kd C:=b;have hp:H p=Ya (.ins C g (u4 (.int n) (.int c) (.int k) (.int w) (.ref t))):=hp;have a:Q (.str (if kd="one"then "sure"else "ready")) H:=a;rcases b with⟨rfl,e⟩|⟨rfl,e⟩|⟨rfl,e⟩
 ·rw[aD]at e;cases e;rw[if_neg (by decide +kernel)]at a;cbv;refine⟨p,rfl,?_⟩;cbv;exact a
 ·rw[aw]at e;cases e;rw[if_neg (by decide +kernel)]at a;cbv;refine⟨p,rfl,?_⟩;cbv;exact a
 ·rw[aB]at e;cases e;rw[if_pos rfl]at a;cbv;refine⟨p,rfl,?_⟩;cbv;exact a
def zu(K:Yc)(mg:Yo->Option Yd):Sp:=λe H Q _=>∃(a:Ye),e=[.ref a]/\∃c cs,bc K H a c/\Fn K mg H c cs/\c.length<64/\∀d D b,aH H d->H D=Yb->b.Perm c->tP (cs.map λx=>[x.c,x.k]) c b->d D=Ya (.lst b)->Q (.ref D) d
theorem G2:aE ["calls"] ["calls"] (ao vR):=eY
include eV jc fR dP av aA az aw aB aD in
theorem Gi(F:bG K "by_rank" "by_rank" vR f fd):∅ 4 f fd ["calls"] (zu K mg):=by
 refine F.oj G2 ?_;rintro _ _ _ _ _ _ _ _ g _ _ _ ⟨a,rfl,h⟩;refine⟨_,(au (aL (FD (K:=K) rfl (aa (pv 0) af) (by rfl) dP jc fR.mg fR.bd (by rfl) g))),?_⟩;obtain⟨d,cs,j,e,hl,l⟩:=h;have m:d.length=cs.length:=Y7 e;cbv;refine⟨a,d,cs.map λx=>[x.c,x.k],rfl,j,hl,by rw[Yg];exact m,λk b=>?_,λi v k G H n b o p=>?_,λD c q r s od s' u=>?_⟩
 ·obtain⟨x,_,rfl⟩:=YC.mp b;intro z;cases z
 ·obtain⟨x,y,A⟩:=dB e n;rw[Yy,y]at b;cases b;exact⟨v,rfl,x,A.up (.same o),λB t C _ E=>p B t C (bI.of E)⟩
 ·exact l q D c s' r s od u
noncomputable def Ac(n:Int):V:=match GB.hl n with|[]=>.non|a::_=>.int a
def C0(K:Yc):Sp:=λb H Q _=>∃n:Int,b=[.int n]/\0<=n/\n<9223372036854775808/\∀a,aH H a->Q (Ac n) a
theorem Om:aE ["hands"] rT (ao By):=eY
include eV mT mV wz in
theorem LC(F:bG K "least" "least" By f fd):∅ 4 f fd rT (C0 K):=by
 refine F.oj Om ?_;rintro _ _ _ _ _ _ _ _ j _ _ _ ⟨n,rfl,h⟩;refine⟨_,(au (aL (Ks (IU rfl) (by rfl) wz acL (aa (a9 mT mV j (aa (pv 0) af)) af) (Qu qH T5)))),?_⟩;obtain⟨h0,h1,d⟩:=h;cbv;refine WH ?_;cbv;refine⟨n,rfl,h0,h1,λg l hl i k=>?_⟩;cbv;refine⟨l,GB.hl n,_,rfl,rfl,bc.of k,λe=>?_,λb c hm=>?_⟩
 ·have:=d g i;unfold Ac at this;rw[e]at this;exact this
 ·have:=d g i;unfold Ac at this;cases e:GB.hl n with
  |nil=>rw[e]at c;cases c
  |cons a r=>
   rw[e]at this;have m:=GB.Nq e b c;have o:=hm a (by rw[e];exact Ys);have:b=a:=by omega
   subst this;assumption
noncomputable abbrev iW:Y4:=bw (eZ 46) 0
noncomputable def Pg.new(me nu ha ro:Int):Pg:=⟨me,nu,ha,ro,0,[],[],[],[],(GB.hl ha).map λh=>(h,[]),(GB.hl ha).map λh=>(h,[])⟩
theorem RD(n:Int):Hs (GB.hl n):=by
 refine⟨?_,λx c=>?_⟩
 ·unfold GB.hl;exact ahA _ (λa b h=>by have:a<b:=h;omega) (GB.kF n.toNat)
 ·unfold GB.hl at c;obtain⟨h,d,rfl⟩:=YC.mp c;have:=(GB.En.mp d).1;omega
def mq(K:Yc)(mg:Yo->Option Yd):Sp:=λd H Q _=>∃(p:Ye) (me nu ha ro:Int),d=[.ref p,.int me,.int nu,.int ha,.int ro]/\∃C e,mg "Page"=Ya (.ref C)/\AI K C/\H p=Ya (.ins C e [])/\0<=ha/\ha<9223372036854775808/\0<=me/\me<63/\
 ∀c x,(∀b o,H b=Ya o->b≠p->c b=Ya o)->gZ K mg c p (Pg.new me nu ha ro) x->(∀a∈x.ft p,a=p∨H a=Yb)->Q .non c
abbrev Fh:List Yo:=["self","me","number","hands","room"]
theorem vO:aE ["self","me","number","hands","room"] Fh (ao iW):=eY
variable{mw:Ye}{jU:YD}(ik:∅ 4 mw jU Fc (kL K))(hU:Binds K jU Fc [])(uv:Mk K cS mw)
include eV ik hU aN aT uv in
theorem vm(F:bG K "__init__" "Page.__init__" iW f fd):∅ 6 f fd Fh (mq K mg):=by
 refine F.oj vO ?_;rintro _ A _ s H _ _ _ hr _ _ _ ⟨p,me,nu,ha,ro,rfl,h⟩;refine⟨_,(aj (cE (K:=K) rfl (pv 0) (pv 1) rfl)
   (aj (cE (K:=K) rfl (pv 0) (pv 2) rfl)
   (aj (cE (K:=K) rfl (pv 0) (pv 3) rfl)
   (aj (cE (K:=K) rfl (pv 0) (pv 4) rfl)
   (aj (cE (K:=K) rfl (pv 0) ay rfl)
   (aj (cE (K:=K) rfl (pv 0) pC rfl)
   (aj (cE (K:=K) rfl (pv 0) (dH af) rfl)
   (aj (cE (K:=K) rfl (pv 0) ET rfl)
   (aj (cE (K:=K) rfl (pv 0) (dH af) rfl)
   (aj (cE (K:=K) rfl (pv 0) (qO uv ik hr rfl aT hU .nil nQ (aa (pv 3) af)) rfl)
   (au (cE (K:=K) rfl (pv 0) (qO uv ik hr rfl aT hU .nil nQ (aa (pv 3) af)) rfl)))))))))))),?_⟩
 obtain⟨C,dx,mP,T,hp,h0,h1,m0,m1,kk⟩:=h;obtain⟨cl,n1,n2,n3,n4,n5,n6,n7,n8,n9,n10,n11⟩:=id T;cbv;intro H1 b1 g1;cbv;intro H2 b2 g2;cbv;intro H3 b3 g3;cbv;intro H4 b4 g4;cbv;intro H5 b5 g5;have k5:∀b o,H b=Ya o->b≠p->H5 b=Ya o:=λb o e n=>b5.at n (b4.at n (b3.at n (b2.at n (b1.at n e))));cbv;intro d A1 hd s1 gd;have bg:=s1 _ _ g5;cbv;intro H6 b6 g6;cbv;intro t A2 ht s2 gt;have bh:=s2 _ _ g6;cbv;intro H7 b7 g7;cbv;intro k hk;have s3:=aC (o:=.dT []) hk;have gk:(upd H7 k (.dT [])) k=Ya (.dT []):=ai;generalize upd H7 k (.dT [])=A3 at s3 gk⊢;have bi:=s3 _ _ g7;cbv;intro H8 b8 g8;cbv;intro o A4 ho s4 go;have bj:=s4 _ _ g8;cbv;intro M b9 g9;have st:∀{A B:Hp},K2 p A B->∀b u,A b=Ya u->b≠p->B b=Ya u:=λs b u e n=>s.at n e;have k9:∀b u,H b=Ya u->b≠p->M b=Ya u:=λb u e n=>b9.at n (s4 _ _ (b8.at n (s3 _ _ (b7.at n (s2 _ _ (b6.at n (s1 _ _ (k5 b u e n))))))));have np:∀{a:Ye} {A:Hp} {u:HO},A p=Ya u->A a=Yb->a≠p:=λe n z=>by rw[z]at n;rw[n]at e;cases e
 have j:=np g5 hd;have x:=np g6 ht;have N:=np g7 hk;have ab:=np g8 ho;have y:M d=Ya (.dK []):=b9.at j (s4 _ _ (b8.at j (s3 _ _ (b7.at j (s2 _ _ (b6.at j gd))))));have a2:M t=Ya (.lst []):=b9.at x (s4 _ _ (b8.at x (s3 _ _ (b7.at x gt))));have a3:M k=Ya (.dT []):=b9.at N (s4 _ _ (b8.at N gk));have a4:M o=Ya (.lst []):=b9.at ab go;have back:∀{a:Ye},a≠p->M a=Yb->H a=none:=fun{a} n e=>by
  cases z:H a with
  |none=>rfl
  |some u=>rw[k9 a u z n]at e;cases e
 have a5:∀{a:Ye},a≠p->H5 a=Yb->H a=none:=fun{a} n e=>by
  cases z:H a with
  |none=>rfl
  |some u=>rw[k5 a u z n]at e;cases e
 have fd:=a5 j hd;have k6:∀b u,H b=Ya u->b≠p->H6 b=Ya u:=λb u e n=>b6.at n (s1 _ _ (k5 b u e n));have k7:∀b u,H b=Ya u->b≠p->H7 b=Ya u:=λb u e n=>b7.at n (s2 _ _ (k6 b u e n));have k8:∀b u,H b=Ya u->b≠p->H8 b=Ya u:=λb u e n=>b8.at n (s3 _ _ (k7 b u e n));have fr:∀{a:Ye} {A:Hp},(∀b u,H b=Ya u->b≠p->A b=Ya u)->a≠p->A a=Yb->H a=none:=fun{a A} kA n e=>by
  cases z:H a with
  |none=>rfl
  |some u=>rw[kA a u z n]at e;cases e
 have ft:=fr k6 x ht;have fk:=fr k7 N hk;have fo:=fr k8 ab ho;cbv;intro q1 e1 A5 ac s5 a6;have ad:=s5 _ _ g9;refine⟨q1,ha,rfl,_,e1,aN,a6,h0,h1,λA6 da ra av gq a7 a8 aw D az=>⟨rfl,?_⟩⟩;have O:q1≠p:=np g9 ac;have aA:=av _ _ ad (Ne.symm O);cbv;intro l Q ae;have R:∀b u,M b=Ya u->b≠p->b≠q1->l b=Ya u:=λb u e n1 n2=>Q.at n1 (av _ _ (s5 _ _ e) n2);cbv;intro q2 e2 A7 ag Y ba;have E:=Y _ _ ae;refine⟨q2,ha,rfl,_,e2,aN,ba,h0,h1,λA8 db rb aB bb bd be aD c G=>⟨rfl,?_⟩⟩;have ah:q2≠p:=np ae ag;have al:=aB _ _ E (Ne.symm ah);cbv;intro v S aI;rw[OP]at aI;have U:∀b u,l b=Ya u->b≠p->b≠q2->v b=Ya u:=λb u e n1 n2=>S.at n1 (aB _ _ (Y _ _ e) n2);have W:∀{a u},M a=Ya u->a≠q1:=λe z=>by rw[z,ac]at e;cases e
 have X:∀{a u},l a=Ya u->a≠q2:=λe z=>by rw[z,ag]at e;cases e
 have up:∀{a u},M a=Ya u->a≠p->v a=Ya u:=fun{a u} e n=>by
  have aK:=R _ _ e n (W e);exact U _ _ aK n (X aK)
 have am:da≠p:=λz=>by rw[z,ad]at D;cases D
 have aR:db≠p:=λz=>by rw[z,E]at c;cases c
 have Z:l q1=Ya (.ins _ _ [("learnt",.ref da)]):=Q.at O gq;have aS:=U _ _ Z O (X Z);have g:l da=Ya (.dK (dG ra)):=Q.at am a7;have an:=U _ _ g am (X g);have bf:∀{A B:Hp} {rs:List (Int×V)} {tb:List (Int×List (Int×Int))},sQ A rs tb->(∀r m,A r=Ya (.dK (dI m))->B r=Ya (.dK (dI m)))->sQ B rs tb:=λh k=>gj k h;have I:sQ l ra _:=gj (λr m e=>Q.at (λz=>by rw[z,aA]at e;cases e) e) a8;have ap:sQ v ra _:=gj (λr m e=>U _ _ e (λz=>by rw[z,ae]at e;cases e) (X e)) I;have aq:sQ v rb _:=gj (λr m e=>S.at (λz=>by rw[z,al]at e;cases e) e) be;have ar:v db=Ya (.dK (dG rb)):=S.at aR bd;have as:=S.at ah bb;have aU:(((GB.hl ha).map λh=>(h,([]:List (Int×Int)))).map (·.1))=GB.hl ha:=by
  rw[gf];exact adj _
 have aV:∀e∈((GB.hl ha).map λh=>(h,([]:List (Int×Int)))),Td e.2:=λe he=>by
  obtain⟨h,_,rfl⟩:=YC.mp he;exact Td.nil
 have kA:lL K mg v q1 da ra ((GB.hl ha).map λh=>(h,[])):=⟨⟨_,_,aT,aS⟩,an,ap,by rw[aU];exact RD ha,aV,aw⟩;have kB:lL K mg v q2 db rb ((GB.hl ha).map λh=>(h,[])):=⟨⟨_,_,aT,as⟩,ar,aq,by rw[aU];exact RD ha,aV,aD⟩;have aZ:∀{a:Ye},A5 a=Yb->M a=none:=λe=>s5.free e;have a0:∀{a:Ye},A7 a=Yb->l a=none:=λe=>Y.free e;have J:∀{a:Ye},a≠p->l a=Yb->H a=none:=fun{a} n e=>by
  cases z:H a with
  |none=>rfl
  |some u=>
   have e9:=k9 a u z n;rw[R _ _ e9 n (W e9)]at e;cases e
 refine kk v ⟨d,t,k,o,q1,da,q2,db,ra,rb⟩ (λb u e n=>up (k9 b u e n) n) ⟨⟨C,dx,mP,T,aI⟩,up y j,Td.nil,up a2 x,(λq L=>nomatch L),up a3 N,(λq L=>nomatch L),.nil,(λq L=>nomatch L),⟨[],up a4 ab,.nil⟩,kA,kB,?_,⟨?_,?_,?_⟩,λq L=>?_,⟨m0,m1⟩,⟨h0,h1⟩⟩ λa ha=>?_
 ·intro z;have z:t=o:=z;have:H8 o=Ya (.lst []):=by rw[←z];exact b8.at x (s3 _ _ (b7.at x gt))
  rw[ho]at this;cases this
 ·intro z;have z:d=da:=z;rw[←z,s5 _ _ y]at D;cases D
 ·intro z;have z:d=db:=z;rw[←z,Y _ _ (R _ _ y j (W y))]at c;cases c
 ·intro z;have z:da=db:=z;rw[←z,Y _ _ g]at c;cases c
 ·rcases YM.mp L with z|z
  ·refine⟨λw=>?_,aw q z,λw=>?_⟩
   ·have:=az q z _ w;rw[s5 _ _ y]at this;cases this
   ·obtain⟨i,hi⟩:=YS z;obtain⟨_,r,_,_,a1,e3⟩:=kz I hi;rw[w]at a1;cases a1;rw[Y _ _ e3]at c;cases c
  ·refine⟨λw=>?_,λw=>?_,aD q z⟩
   ·have:=G q z _ w;rw[Y _ _ (R _ _ y j (W y))]at this;cases this
   ·have:=G q z _ w;rw[Y _ _ g]at this;cases this
 ·rcases YM.mp ha with z|z
  ·simp only[Yn,aac,or_false]at z;rcases z with rfl|rfl|rfl|rfl|rfl|rfl|rfl|rfl|rfl
   ·exact .inl rfl
   ·exact .inr fd
   ·exact .inr ft
   ·exact .inr fk
   ·exact .inr fo
   ·exact .inr (back O ac)
   ·exact .inr (back am (aZ D))
   ·exact .inr (J ah ag)
   ·exact .inr (J aR (a0 c))
  ·rcases YM.mp z with z|z
   ·obtain⟨q,L,e⟩:=c9.mp z;have n:=az q L _ e;exact .inr (back (λw=>by rw[w,ad]at n;cases n) (aZ n))
   ·obtain⟨q,L,e⟩:=c9.mp z;have n:=G q L _ e;exact .inr (J (λw=>by rw[w,E]at n;cases n) (a0 n))
noncomputable abbrev iT:Y4:=bw (eZ 15) 0
noncomputable abbrev gG:Y4:=bw (eZ 46) 1
noncomputable abbrev qb:Y4:=bw (eZ 46) 2
noncomputable abbrev gw:Y4:=bw (eZ 46) 3
noncomputable abbrev pH:Y4:=bw (eZ 46) 6
def mf(K:Yc):Sp:=λd H Q _=>∃(p:Ye) (a b:V),d=[.ref p,a,b]/\∃C,OL K C/\jJ K (.ref C) "many"=Ya Yb/\jJ K (.ref C) "room"=Ya Yb/\H p=Ya (xM p C Yb)/\
 ∀c e,(∀b o,H b=Ya o->b≠p->c b=Ya o)->c p=Ya (xM p C (Ya e))->Q .non c
abbrev De:List Yo:=["self","many","room"]
theorem vK:aE ["self","many","room"] De (ao iT):=eY
include eV in
theorem vh(F:bG K "__init__" "Held.__init__" iT f fd):∅ 1 f fd De (mf K):=by
 refine F.oj vK ?_;rintro _ _ _ _ _ _ _ _ _ _ _ _ ⟨p,a,b,rfl,h⟩;refine⟨_,(aj (HY (K:=K) rfl (pv 0) (pv 1) rfl)
   (au (HY (K:=K) rfl (pv 0) (pv 2) rfl))),?_⟩
 obtain⟨C,d,i,j,hp,k⟩:=h;cbv;refine Mo ?_;cbv;refine⟨p,C,rfl,d,i,.inl ⟨hp,λc hd nd=>?_⟩⟩;cbv;refine Mo ?_;cbv;refine⟨p,C,rfl,d,j,.inr ⟨c,_,ai,by rw[ak nd,ai],by show(1:Nat)<1000;decide,?_⟩⟩;refine k _ c (λb o e n=>?_) (by rw[ak (Ne.symm nd),ai]);have g:b≠c:=λz=>by rw[z,hd]at e;cases e
 rw[ak g,ak n,ak g];exact e
def Vd(tb:List (Int×List (Int×Int)))(j:List (Int×Int)):Prop:=Td j/\∀k,G8 (tb.map (·.2)) k (ct j k)
def jy(K:Yc)(mg:Yo->Option Yd):Sp:=λc H Q E=>∃(p:Ye),c=[.ref p]/\∃S x,gZ K mg H p S x/\S.ta≠[]/\S.ta.length<=10/\
 (∀a j,aH H a->Vd S.ta j->S.ma-ct j S.me<S.ro->Q .non a)/\∀a j b C,aH H a->Vd S.ta j->¬ (S.ma-ct j S.me<S.ro)->mg "Held"=Ya (.ref C)->H b=Yb->E (.ref b) (Ya C) a
theorem jG:aE ["self","held"] aO (ao gG):=eY
variable{rC:Ye}{nG:Ye}{bZ:Ye}{bX:Ye}{pR:YD}{lZ:YD}(iE:∅ 4 rC pR aO (pM K mg))(iG:Binds K pR aO [])(oM:∅ 3 nG lZ De (mf K))(oG:Binds K lZ De [])(aZ:AI K bZ)(aU:mg "Page"=Ya (.ref bZ))(cZ:bx K cS "floor" rC)(mO:mg "Held"=Ya (.ref bX))(xX:Xd K bX nG [.type "ValueError",.type "Exception",.type "BaseException",.type "object"] "ValueError.__new__")(x5:OL K bX)(ya:∃N up Zd,Ab K bX N up Zd/\up.contains (.type "BaseException")=true)(i9:jJ K (.ref bX) "many"=Ya Yb)(jf:jJ K (.ref bX) "room"=Ya Yb)
include eV iF bL iE iG oM oG aN aZ aT aU cZ mO xX x5 ya i9 jf in
theorem sZ(F:bG K "check_room" "Page.check_room" gG f fd):aF P w K mg base (CO P w) 5 f fd aO (jy K mg):=by
 refine F.okX jG (λv H Q E h=>?_) (λy A outer s H v Q E a h=>?_)
 ·obtain⟨p,rfl,_⟩:=h;rfl
 obtain⟨p,rfl,h⟩:=h;have n:=a.units;have B:=a.units0;have R:=HW a;refine⟨_,(aj (aW (i:=1) jG.nd rfl (Or.inl rfl) (aX yU (aJ (K:=K) rfl (pv 0) rfl) (a9 iF bL a (aa (bB (bV.cons aN.cl cZ iE iG bV.nil) (aJ (K:=K) rfl (pv 0) rfl) a) (aa (aJ (K:=K) rfl (pv 0) rfl) af)))))
   (au (dS (bo AB (pv 1) (aJ (K:=K) rfl (pv 0) rfl) (bu _)) (au (JO (Lh PySem.F.excBase_ValueError xX oM a (by rfl) mO oG (aa (pv 1) (aa (aJ (K:=K) rfl (pv 0) rfl) af))))) bP))),?_⟩
 obtain⟨S,x,PA,k,h10,D,G⟩:=h;obtain⟨C,U,V,T,hp⟩:=PA.ob;obtain⟨cl,n1,n2,n3,n4,n5,n6,n7,n8,n9,n10,n11⟩:=id T;obtain⟨⟨W,I,r,h1⟩,_⟩:=id PA.ta;rw[aT]at r;cases r;have X:=aN.cl;have Y:=aN.n1;cbv;refine⟨x.ta,rfl,x.da,x.ra,S.ta,PA.ta,k,h10,λZ q j c hq J t u=>?_⟩;have L:=c _ _ hp;cbv;refine⟨q,j,S.me,rfl,.inl J,?_⟩;cbv;refine dh (λz=>?_) λz=>?_
 ·have z:S.ro<=S.ma-ct j S.me:=of_decide_eq_true z;cbv;refine Oq ?_;refine PD ?_;cbv;refine⟨by show(2:Nat)<=YB;decide,λd g=>?_⟩;refine⟨d,_,_,rfl,_,x5,i9,jf,ai,λM d2 l N=>⟨rfl,?_⟩⟩;have O:aH H (OJ M d):=λb o e=>by
   have m:b≠d:=λw=>by rw[←w,c _ _ e]at g;cases g
   rw[Cr m];exact l b o (by rw[ak m];exact c _ _ e) m
  exact⟨d,_,_,rfl,N,ya,c.free g,G _ j d _ O ⟨t,u⟩ (by omega) mO (c.free g)⟩
 ·have z:¬ S.ro<=S.ma-ct j S.me:=λw=>z (decide_eq_true w);exact D _ j c ⟨t,u⟩ (by omega)
def mR(K:Yc)(mg:Yo->Option Yd):Sp:=λb H Q _=>∃(p:Ye) (v:V),b=[.ref p,v]/\∃S x c,gZ K mg H p S x/\gY K mg H v c/\dX c∉S.kp.map (λq=>dX q.2)/\0<=c.c/\c.c<63/\S.kp.length<=900/\
 ∀a,Off [x.k] H a->gZ K mg a p {S with kp:=S.kp++[(v,c)]} x->Q .non a
theorem BS{k:List bJ}(h:k∉kvs.map (·.1)):gL kvs k v=kvs++[(k,v)]:=by
 unfold gL;rw[if_neg];intro z;obtain⟨e,a,b⟩:=abM.mp z;exact h (YC.mpr ⟨e,a,of_decide_eq_true b⟩)
theorem Off.kpf1(o:Off [a] H H')(e:H a=Ya u)(f:Vc u):mM H H':=ja o λb c=>by
 rw[Yi.mp c];exact⟨u,e,f⟩
theorem Hr{v:HO}(h:H a=Ya u)(h':H b=Ya v)(d:u≠v):a∉[b]:=λz=>bU h h' d (Yi.mp z)
theorem gZ.setk(h:gZ K mg H p S x)(o:Off [x.k] H H')(j:H' x.k=Ya (.dT (Zj.map Bz)))(kc:∀q∈Zj,gY K mg H' q.1 q.2)(kn:(Zj.map λq=>dX q.2).Nodup)(kr:∀q∈Zj,0<=q.2.c/\q.2.c<63):gZ K mg H' p {S with kp:=Zj} x:=by
 have f:mM H H':=o.kpf1 h.kp trivial;obtain⟨C,l,m,b,hp⟩:=h.ob;obtain⟨s,ho,hn⟩:=h.od;obtain⟨⟨G,I,J,t⟩,v,w,_⟩:=id h.ta;obtain⟨⟨L,M,N,y⟩,A,B,_⟩:=id h.ab;have rw:∀{rs:List (Int×V)} {g:List (Int×List (Int×Int))},sQ H rs g->∀r∈rwa rs,r∉[x.k]:=fun{rs g} R r D=>by
  obtain⟨q,c,e⟩:=c9.mp D;obtain⟨i,E⟩:=YS c;obtain⟨_,O,_,_,b,F⟩:=kz R E;rw[e]at b;cases b;exact Hr F h.kp (by intro z;cases z)
 have n:=fun{a:Ye} {u:HO} (e:H a=Ya u) (d:∀k,u≠.dT k)=>o a u e (Hr e h.kp (d _));exact⟨⟨C,l,m,b,n hp (by intro _ z;cases z)⟩,n h.dn (by intro _ z;cases z),h.td,n h.tk (by intro _ z;cases z),λq c=>(h.tc q c).kpf f,j,kc,kn,kr,⟨s,n ho (by intro _ z;cases z),hn.up f.smh⟩,
  iV h.ta o (Hr t h.kp (by intro z;cases z)) (Hr v h.kp (by intro z;cases z)) (rw w),iV h.ab o (Hr y h.kp (by intro z;cases z)) (Hr A h.kp (by intro z;cases z)) (rw B),h.to,h.dd,h.rr,h.me,h.ha⟩
abbrev pq:List Yo:=["self","call"]
theorem BA:aE ["self","call"] pq (ao qb):=eY
variable(gC:∅ 1 eX f9 aO (cP K))
include eV gC bj av aA az aZ aw aB aD aU aV bg bh in
theorem B8(F:bG K "keep" "Page.keep" qb f fd):∅ 2 f fd pq (mR K mg):=by
 refine F.oj BA ?_;rintro _ _ _ _ H _ Q _ D _ _ E ⟨p,v,rfl,h⟩;refine⟨_,(au (qT E (aJ (K:=K) rfl (pv 0) rfl) (bB (bV.cons az.cl bh gC bj (bV.cons av.cl aV gC bj (bV.cons aA.cl bg gC bj bV.nil))) (pv 1) D) (pv 1) rfl)),?_⟩;obtain⟨S,x,c,PA,y,hn,c0,c1,hl,G⟩:=h;obtain⟨C,N,O,T,hp⟩:=PA.ob;obtain⟨cl,n1,n2,n3,n4,n5,n6,n7,n8,n9,n10,n11⟩:=id T;have R:=PA.kp;obtain⟨pc,U,i,t,W,rfl,I,n,j,X,J,L⟩:=id y;have tail:∀d tn,aH H d->d tn=Ya (.tup [.int c.n,.int c.c,.int c.k])->∃a A,V.ref x.k=.ref a/\z5 d a (.ref tn) (.ref pc) A/\Q .non A:=λd tn g l=>by
  have m:=PA.same g;refine⟨x.k,_,rfl,z5.t (k:=dX c) m.kp l (aG (by rw[Yg];omega)),?_⟩;rw[BS (by rw[gf];exact hn)];have o:Off [x.k] d (upd d x.k (.dT (S.kp.map Bz++[(dX c,.ref pc)]))):=λb u e r=>by rw[ak (λz=>r (Yi.mpr z))];exact e
  have B:mM d _:=o.kpf1 m.kp trivial;refine G _ (λb u e r=>o b u (g _ _ e) r) (m.setk o (by rw[ai,Yx];rfl) (λq s=>?_) ?_ λq s=>?_)
  ·rcases YM.mp s with z|z
   ·exact(m.kc q z).kpf B
   ·rw[Yi.mp z];exact(y.up (.same g)).kpf B
  ·rw[Yx,KW];refine⟨PA.kn,by simp,λa ha b M z=>?_⟩;have:b=dX c:=by simpa using M
   rw[z,this]at ha;exact hn ha
  ·rcases YM.mp s with z|z
   ·exact PA.kr q z
   ·rw[Yi.mp z];exact⟨c0,c1⟩
 cbv;rcases I with⟨_,e⟩|⟨_,e⟩|⟨_,e⟩
 ·rw[aD]at e;cases e;cbv;exact⟨pc,rfl,_,i,_,_,_,_,_,n,j,λd tn g _ l=>tail d tn g l⟩
 ·rw[aw]at e;cases e;cbv;exact⟨pc,rfl,_,i,_,_,_,_,_,n,j,λd tn g _ l=>tail d tn g l⟩
 ·rw[aB]at e;cases e;cbv;exact⟨pc,rfl,_,i,_,_,_,_,_,n,j,λd tn g _ l=>tail d tn g l⟩
def fK(K:Yc)(mg:Yo->Option Yd):Sp:=λc H Q _=>∃(p:Ye),c=[.ref p]/\∃S x,gZ K mg H p S x/\S.kp.length<64/\
 ∀a D (b:List (V×bK)),aH H a->H D=Yb->b.Perm S.kp->tP (S.kp.map λq=>[q.2.c,q.2.k]) (S.kp.map (·.1)) (b.map (·.1))->a D=Ya (.lst (b.map (·.1)))->Q (.ref D) a
theorem JD{α β:Type}{f:α->β}:∀{l:List α} {ws:List β},ws.Perm (l.map f)->∃zs:List α,zs.Perm l/\zs.map f=ws:=by
 intro l ws h;generalize e:l.map f=m at h
 induction h generalizing l with
 |nil=>exact⟨[],by rw[ace.mp e],rfl⟩
 |cons x h ih=>
  cases l with
  |nil=>cases e
  |cons a l=>
   rw[YF]at e;obtain⟨d,c⟩:=mr e;obtain⟨zs,p,q⟩:=ih c;exact⟨a::zs,p.cons a,by rw[YF,q,d]⟩
 |swap x y l'=>
  cases l with
  |nil=>cases e
  |cons a l=>
   cases l with
   |nil=>cases e
   |cons b l=>
    rw[YF,YF]at e;obtain⟨d,c⟩:=mr e;obtain⟨c,g⟩:=mr c;exact⟨b::a::l,agb a b l,by rw[YF,YF,d,c,g]⟩
 |trans h1 h2 ih1 ih2=>
  obtain⟨o,i,j⟩:=ih2 e;obtain⟨zs,k,n⟩:=ih1 j;exact⟨zs,k.trans i,n⟩
theorem G3{H:Hp}:∀{l:List (V×bK)},(∀q∈l,gY K mg H q.1 q.2)->Fn K mg H (l.map (·.1)) (l.map (·.2))
 |[],_=>.nil
 |q::l,h=>.cons (h q Ys) (G3 λr a=>h r (Yr _ a))
theorem sv:aE ["self"] aO (ao gw):=eY
variable{Bp:Ye}{yp:YD}(Az:∅ 4 Bp yp ["calls"] (zu K mg))(Ak:d6 K mg "by_rank" Bp yp ["calls"])
include eV Az Ak gK av aA az aZ aw aB aD aU in
theorem sO(F:bG K "kept_calls" "Page.kept_calls" gw f fd):∅ 5 f fd aO (fK K mg):=by
 refine F.oj sv ?_;rintro _ _ _ _ H _ _ _ j _ _ _ ⟨p,rfl,h⟩;refine⟨_,(au (aL (a9 Az Ak j (aa (bN (EA rfl) (by rfl) gK aaX (aa (BI aaQ aby adg OF (aJ (K:=K) rfl (pv 0) rfl)) af)) af)))),?_⟩;obtain⟨S,x,PA,hl,k⟩:=h;obtain⟨C,E,G,T,hp⟩:=PA.ob;obtain⟨cl,n1,n2,n3,n4,n5,n6,n7,n8,n9,n10,n11⟩:=id T;have c:=PA.kp;cbv;refine⟨.inr (.inr (.inl ⟨rfl,.inr ⟨_,c⟩⟩)),x.k,_,rfl,rfl,c,λv m=>?_⟩;have a:=aC (o:=Hf v x.k) m;have g:(upd H v (Hf v x.k)) v=Ya (Hf v x.k):=ai;generalize upd H v (Hf v x.k)=H1 at a g⊢;cbv;refine⟨v,x.k,_,rfl,g,.inl (a _ _ c),by rw[Yg];omega,λl d=>?_⟩;have b:=aC (o:=.lst ((S.kp.map Bz).map (·.2))) d;have e:(upd H1 l (.lst ((S.kp.map Bz).map (·.2)))) l=Ya (.lst ((S.kp.map Bz).map (·.2))):=ai;generalize upd H1 l (.lst ((S.kp.map Bz).map (·.2)))=H2 at b e⊢;rw[gf]at e;have n:=PA.same (a.trans b);have q:=G3 n.kc;cbv;refine⟨l,rfl,S.kp.map (·.1),S.kp.map (·.2),bc.of e,q,by rw[Yg];exact hl,λr D s t u y od i=>?_⟩;obtain⟨z,A,B⟩:=JD y;rw[←B]at od i;rw[gf]at od;exact k r D z (a.trans (b.trans t)) (a.free (b.free u)) A od i
def uu(K:Yc)(mg:Yo->Option Yd):Sp:=λb H Q _=>∃(p:Ye) (v:V),b=[.ref p,v]/\∃S x c,gZ K mg H p S x/\gY K mg H v c/\0<=c.c/\c.c<63/\0<c.k/\S.tk.length<=900/\
 ∀a,Off [x.d,x.t] H a->gZ K mg a p {S with dn:=d3 S.dn c.c c.k,tk:=S.tk++[(v,c)]} x->Q .non a
theorem gZ.setdt{d:List (Int×Int)}{f:List (V×bK)}(h:gZ K mg H p S x)(o:Off [x.d,x.t] H H')(t:H' x.d=Ya (.dK (dI d)))(td:Td d)(u:H' x.t=Ya (.lst (f.map (·.1))))(tc:∀q∈f,gY K mg H' q.1 q.2):gZ K mg H' p {S with dn:=d,tk:=f} x:=by
 have j:mM H H':=ja o λb k=>by
  simp only[Yn,aac,or_false]at k;rcases k with rfl|rfl
  ·exact⟨_,h.dn,trivial⟩
  ·exact⟨_,h.tk,trivial⟩
 obtain⟨C,v,w,g,hp⟩:=h.ob;obtain⟨y,ho,hn⟩:=h.od;obtain⟨⟨J,L,M,l⟩,A,B,_⟩:=id h.ta;obtain⟨⟨N,O,P,m⟩,D,E,_⟩:=id h.ab;have n:∀{a:Ye},a≠x.d->a≠x.t->a∉[x.d,x.t]:=λn1 n2 z=>by
  simp only[Yn,aac,or_false]at z;exact z.elim n1 n2
 have rw:∀{rs:List (Int×V)} {s:List (Int×List (Int×Int))},sQ H rs s->(∀q∈rs,q∈x.ra++x.rb)->∀r∈rwa rs,r∉[x.d,x.t]:=fun{rs s} R sub r F=>by
  obtain⟨q,c,e⟩:=c9.mp F;obtain⟨i,G⟩:=YS c;obtain⟨_,Q,_,_,g,I⟩:=kz R G;rw[e]at g;cases g;exact n (λz=>(h.rr q (sub q c)).1 (by rw[e,z])) (bU I h.tk (by intro z;cases z))
 refine⟨⟨C,v,w,g,o _ _ hp (n (bU hp h.dn (by intro z;cases z)) (bU hp h.tk (by intro z;cases z)))⟩,t,td,u,tc,o _ _ h.kp (n (bU h.kp h.dn (by intro z;cases z)) (bU h.kp h.tk (by intro z;cases z))),λq c=>(h.kc q c).kpf j,h.kn,h.kr,⟨y,o _ _ ho (n (bU ho h.dn (by intro z;cases z)) (Ne.symm h.to)),hn.up j.smh⟩,
  iV h.ta o (n (bU l h.dn (by intro z;cases z)) (bU l h.tk (by intro z;cases z))) (n (Ne.symm h.dd.1) (bU A h.tk (by intro z;cases z))) (rw B λq c=>YU _ c),
  iV h.ab o (n (bU m h.dn (by intro z;cases z)) (bU m h.tk (by intro z;cases z))) (n (Ne.symm h.dd.2.1) (bU D h.tk (by intro z;cases z))) (rw E λq c=>YH _ c),h.to,h.dd,h.rr,h.me,h.ha⟩
theorem Bt:aE ["self","call"] pq (ao pH):=eY
include eV av aA az aZ aw aB aD aU in
theorem Cs(F:bG K "take" "Page.take" pH f fd):∅ 1 f fd pq (uu K mg):=by
 refine F.oj Bt ?_;rintro _ _ _ _ H _ _ _ _ _ _ s ⟨p,v,rfl,h⟩;refine⟨_,(aj (qT s (aJ (K:=K) rfl (pv 0) rfl) (aJ (K:=K) rfl (pv 1) rfl) (aJ (K:=K) rfl (pv 1) rfl) rfl)
   (au (dw (sU (K:=K) rfl (Hk abH adh adi qK (aJ (K:=K) rfl (pv 0) rfl) (aa (pv 1) af)))))),?_⟩
 obtain⟨S,x,c,PA,l,c0,c1,y,hl,A⟩:=h;obtain⟨C,R,U,T,hp⟩:=PA.ob;obtain⟨cl,n1,n2,n3,n4,n5,n6,n7,n8,n9,n10,n11⟩:=id T;obtain⟨pc,V,B,t,W,rfl,X,D,E,Y,G,I⟩:=id l;obtain⟨J,Z,m2,m3,m4,m5⟩:=id D;have a:=PA.dn;have nd:=PA.td.nd;have ld:=PA.td.toCk.len;have d:=PA.tk;have ls:(S.tk.map (·.1)).length<YB:=aG (by rw[Yg];omega);cbv;intro H1 g L;have M:=g.of a hp (by intro z;cases z);have N:=g.of a d (by intro z;cases z);cbv;intro i m O;have j:x.d≠x.t:=bU a d (by intro z;cases z);have k:Off [x.d,x.t] H i:=λb u e n=>m.at (λz=>n (by rw[z];simp)) (g.at (λz=>n (by rw[z];simp)) e);have o:mM H i:=ja k λb r=>by
  simp only[Yn,aac,or_false]at r;rcases r with rfl|rfl
  ·exact⟨_,a,trivial⟩
  ·exact⟨_,d,trivial⟩
 refine A i k (PA.setdt k (m.at j L) (G4 PA.td c0 c1 y) (by rw[O,Yx];rfl) λq Q=>?_);rcases YM.mp Q with z|z
 ·exact(PA.tc q z).kpf o
 ·rw[Yi.mp z];exact l.kpf o
noncomputable abbrev lJ:Y4:=bw (eZ 46) 7
noncomputable def xR(j:List (Int×Int))(l:List (V×bK)):List (V×bK):=l.filter λq=>!decide (q.2.k<=ct j q.2.c)
def qE(K:Yc)(mg:Yo->Option Yd):Sp:=λd H Q _=>∃(p:Ye),d=[.ref p]/\∃S x,gZ K mg H p S x/\S.ta≠[]/\S.ta.length<=10/\S.kp.length<=60/\
 ∀b c j,Off [p,x.k] H b->(∀a,b a=Yb->H a=Yb)->H c=Yb->Vd S.ta j->gZ K mg b p {S with kp:=xR j S.kp} {x with k:=c}->Q .non b
theorem Jg{ps:List (List bJ×V)}(h:(ps.map (·.1)).Nodup):jn ps=ps:=by
 have go:∀(ps a:List (List bJ×V)),((a++ps).map (·.1)).Nodup->ps.foldl (λa p=>gL a p.1 p.2) a=a++ps:=by
  intro ps
  induction ps with
  |nil=>intro a _;rw[sq];rfl
  |cons p ps ih=>
   intro a hn;rw[abe,BS,ih]
   ·rw[abc];rfl
   ·rw[abc];exact hn
   ·rw[Yx,KW]at hn;exact λz=>hn.2.2 _ z _ (by simp) rfl
 exact go ps [] h
theorem gZ.newk{f:Ye}(h:gZ K mg H p S x)(o:Off [p,x.k] H H')(ob:∃C d,mg "Page"=Ya (.ref C)/\AI K C/\H' p=Ya (.ins C d (qW (.int S.me) (.int S.nu) (.int S.ha) (.int S.ro) (.int S.ma) (.ref x.d) (.ref x.t) (.ref f) (.ref x.o) (.ref x.ta) (.ref x.ab))))(v:H' f=Ya (.dT (Zj.map Bz)))(kn:(Zj.map λq=>dX q.2).Nodup)(sub:∀q∈Zj,q∈S.kp):gZ K mg H' p {S with kp:=Zj} {x with k:=f}:=by
 obtain⟨C,d,L,g,hp⟩:=h.ob;have j:mM H H':=ja o λb l=>by
  simp only[Yn,aac,or_false]at l;rcases l with rfl|rfl
  ·exact⟨_,hp,by show(11:Nat)≠5;decide⟩
  ·exact⟨_,h.kp,trivial⟩
 obtain⟨w,ho,hn⟩:=h.od;obtain⟨⟨M,m,N,y⟩,A,B,_⟩:=id h.ta;obtain⟨⟨O,s,P,D⟩,E,F,_⟩:=id h.ab;have n:∀{a:Ye} {u:HO},H a=Ya u->(∀k,u≠.dT k)->(∀C d fs,u=.ins C d fs->fs.length≠11)->a∉[p,x.k]:=λe m s z=>by
  simp only[Yn,aac,or_false]at z;rcases z with rfl|rfl
  ·rw[hp]at e;cases e;exact s _ _ _ rfl rfl
  ·rw[h.kp]at e;cases e;exact m _ rfl
 have rw:∀{rs:List (Int×V)} {t:List (Int×List (Int×Int))},sQ H rs t->∀r∈rwa rs,r∉[p,x.k]:=fun{rs t} R r G=>by
  obtain⟨q,c,e⟩:=c9.mp G;obtain⟨i,I⟩:=YS c;obtain⟨_,Q,_,_,g,J⟩:=kz R I;rw[e]at g;cases g;exact n J (by intro _ z;cases z) (by intro _ _ _ z;cases z)
 refine⟨ob,o _ _ h.dn (n h.dn (by intro _ z;cases z) (by intro _ _ _ z;cases z)),h.td,o _ _ h.tk (n h.tk (by intro _ z;cases z) (by intro _ _ _ z;cases z)),λq c=>(h.tc q c).kpf j,v,λq c=>(h.kc q (sub q c)).kpf j,kn,λq c=>h.kr q (sub q c),⟨w,o _ _ ho (n ho (by intro _ z;cases z) (by intro _ _ _ z;cases z)),hn.up j.smh⟩,
  iV h.ta o (n y (by intro _ z;cases z) (by intro _ _ _ z;cases z;show(1:Nat)≠11;decide)) (n A (by intro _ z;cases z) (by intro _ _ _ z;cases z)) (rw B),iV h.ab o (n D (by intro _ z;cases z) (by intro _ _ _ z;cases z;show(1:Nat)≠11;decide)) (n E (by intro _ z;cases z) (by intro _ _ _ z;cases z)) (rw F),h.to,h.dd,h.rr,h.me,h.ha⟩
theorem pF:aE ["self","floor"] aO (ao lJ):=eY
variable(mB:∅ 4 iy gR Gx (gU K))
include eV mB cU iE iG pT av aN aA az aZ aw aT aB aD aU cZ in
theorem yM(F:bG K "let_go" "Page.let_go" lJ f fd):∅ 5 f fd aO (qE K mg):=by
 refine F.oj pF ?_;rintro _ A _ _ H _ _ _ hr I _ hu ⟨p,rfl,h⟩;refine⟨_,(aj (aW (i:=1) pF.nd rfl (Or.inr rfl) (bB (bV.cons aN.cl cZ iE iG bV.nil) (aJ (K:=K) rfl (pv 0) rfl) hr))
   (au (cE (K:=K) rfl (pv 0) (bN (wX rfl (aco (ac1 (by decide) _) I)) (by rfl) pT acu (aa (bM ["floor","name","call"] [Ya 1,Yb,Yb] rfl rfl (by kernel_rfl) (Kk (aJ (K:=K) rfl (pv 0) rfl)) (λ_ _ _ _ _ nd=>mX (K:=K) (n:=2) rfl rfl (c7 (aP (i:=1) nd rfl (Or.inl rfl)) (c7 (aP (i:=2) nd rfl (Or.inl rfl)) mU))) (λ_ _ _ _ _=>(d9 (tf (dA K rfl (a9 mB cU hr (aa (pv 0) (aa (pv 1) af))))))) (λ_ _ _ _ _=>(cC (aa (pv 1) (aa (pv 2) af))))) af)) rfl))),?_⟩
 obtain⟨S,x,PA,X,h10,hl,kk⟩:=h;obtain⟨C,dx,mP,T,hp⟩:=PA.ob;obtain⟨cl,n1,n2,n3,n4,n5,n6,n7,n8,n9,n10,n11⟩:=id T;obtain⟨⟨C1,ag,G,h1⟩,_⟩:=id PA.ta;rw[aT]at G;cases G;have tK:=aN.cl;have nL:=aN.n1;cbv;refine⟨x.ta,rfl,x.da,x.ra,S.ta,PA.ta,X,h10,λH1 Y j R ah g1 tj mn=>?_⟩;have al:=R _ _ hp;have P1:=PA.same R;have J:=P1.kp;cbv;refine GP J λo A Z sA=>?_;intro D hD;have ab:Y≠x.k:=bU g1 J (by intro z;cases z);refine EX (λi σ B=>∃v1 v2 r,σ=[Ya (.ref Y),v1,v2]/\aH A B/\B D=Ya (.lst r)/\r.length<=i/\E3 B r ((xR j (S.kp.take i)).map Bz)) ⟨Yb,Yb,[],rfl,aC hD,ai,Yl _,.nil⟩ ?_ ?_ ?_
 ·rintro i σ B _ ⟨_,_,_,_,z,_⟩;exact z _ _ Z
 ·rintro i k v t b σ B B1 g ⟨v1,v2,r,rfl,s,gD,ly,L⟩ ht d gt gb;obtain⟨q,M,e⟩:∃q,S.kp[i]?=Ya q/\Bz q=(k,v):=by
   rw[Yy]at g;cases z:S.kp[i]? with
   |none=>rw[z]at g;cases g
   |some q=>rw[z]at g;exact⟨q,rfl,YK g⟩
  cases e;have hi:=(Yj.mp M).1;have N:B1 b=Ya (.tup [.int q.2.n,.int q.2.c,.int q.2.k]):=d _ _ gb;have ac:=d _ _ (s _ _ (sA _ _ ab g1));have O:=d _ _ gD;have st:bI K B1 t [.ref b,q.1]:=bI.of gt;cbv;refine⟨Y,b,rfl,j,_,_,_,.inl ac,bI.of N,?_⟩;cbv;refine dh (λz=>?_) λz=>?_
  ·have z:¬ q.2.k<=ct j q.2.c:=by simpa using z
   cbv;intro u B2 hu U g2;have Q:=U _ _ O;have kp:dC B2 (upd B2 D (.lst (r++[V.ref u]))):=dC.lst Q;refine⟨r,Q,aG (by omega),_,_,r++[.ref u],rfl,λc o e=>?_,ai,by rw[Yu];exact abm ly,?_⟩
   ·rw[ak (ax e hD)];exact U _ _ (d _ _ (s c o e))
   ·have G:xR j (S.kp.take (i+ 1))=xR j (S.kp.take i)++[q]:=by
     unfold xR;rw[aQ M,Y3];congr 1;simp[z]
    rw[G,Yx];exact Bb (B6 (λa xs e=>kp _ _ (U _ _ (d _ _ e))) L) ⟨u,b,rfl,kp _ _ g2,kp _ _ (U _ _ N)⟩
  ·have z:q.2.k<=ct j q.2.c:=by simpa using z
   have G:xR j (S.kp.take (i+ 1))=xR j (S.kp.take i):=by
    unfold xR;rw[aQ M,Y3];simp[z]
   refine⟨_,_,r,rfl,s.trans d,O,acD ly,?_⟩;rw[G];exact B6 (λa xs e=>d _ _ e) L
 rintro σ B ⟨v1,v2,r,rfl,s,gD,ly,L⟩;rw[Yg,YY]at L;cbv;have nk:((xR j S.kp).map λq=>dX q.2).Nodup:=PA.kn.sublist (List.Sublist.map _ aec);have lk:=Y0 (λq:V×bK=>!decide (q.2.k<=ct j q.2.c)) S.kp;refine⟨D,r,_,rfl,gD,L,by rw[Yg];unfold xR;omega,λy l=>?_⟩;have em:jn ((xR j S.kp).map Bz)=(xR j S.kp).map Bz:=Jg (by rw[gf];exact nk);rw[em];have s3:=aC (o:=.dT ((xR j S.kp).map Bz)) l;have g3:(upd B y (.dT ((xR j S.kp).map Bz))) y=Ya (.dT ((xR j S.kp).map Bz)):=ai;generalize upd B y (.dT ((xR j S.kp).map Bz))=H3 at s3 g3⊢;have E:Off [x.k] H H3:=λb u e W=>s3 _ _ (s _ _ (sA _ _ (λz=>W (Yi.mpr z)) (R _ _ e)));have am:=E _ _ hp (Hr hp PA.kp (by intro z;cases z));cbv;intro H4 b4 g4;rw[GS]at g4;have m:Off [p,x.k] H H4:=λb u e W=>b4.at (λz=>W (by rw[z];simp)) (E b u e (λz=>W (by rw[Yi.mp z];simp)));have fk:H y=none:=R.free (by
  cases z:H1 y with
  |none=>rfl
  |some u=>
   by_cases w:y=x.k
   ·rw[w,s _ _ Z]at l;cases l
   ·rw[s _ _ (sA _ _ w z)]at l;cases l)
 have ad:y≠p:=λz=>by rw[z,hp]at fk;cases fk
 have ae:∀a,H4 a=Yb->H a=none:=λa e=>by
  cases z:H a with
  |none=>rfl
  |some u=>
   by_cases w:a=p
   ·rw[w,g4]at e;cases e
   ·by_cases v:a=x.k
    ·rw[v]at e w;rw[b4.at w (s3 _ _ (s _ _ Z))]at e;cases e
    ·rw[m a u z (by simp[w,v])]at e;cases e
 refine kk H4 y j m ae fk ⟨tj,mn⟩ (PA.newk m ⟨C,dx,mP,T,g4⟩ (b4.at ad g3) nk λq M=>(cw.mp M).1)
theorem T7(u:Sr (ws.zip cs))(h:Pw ws cs m ns Zv gs m'):gs.length+ mz cs m'<=ns.length+ mz cs m:=by
 induction h with
 |start r=>have:=Dd r;omega
 |@step Zv rw gs m1 m2 q j p la fo rn ih=>
  have a:=Dd rn;have b:=IA u la fo rn;rw[Yu,Y1];have:(gs.take j).length<=gs.length:=by rw[xj];omega
  omega
theorem Wi{hs:List Int}(h0:∀k,0<=ct m0 k)(h:Fw hs (z9 zs) ns m0 rw Zh m):(∀k,0<=ct m k)/\∀q∈rw,q∈zs/\0<q.2.k:=by
 induction h with
 |start=>exact⟨h0,λq a=>nomatch a⟩
 |@step rw Zh m v x f e ih=>
  obtain⟨h,_,c,_⟩:=x9 e;obtain⟨d,g,b⟩:=qR c;have b:x.k=ct m h+ 1:=b;have n:=ih.1 h;refine⟨λk=>?_,λq a=>?_⟩
  ·rw[tD];by_cases z:k=x.c
   ·rw[if_pos z];omega
   ·rw[if_neg z];exact ih.1 k
  ·rcases YM.mp a with z|z
   ·exact ih.2 q z
   ·rw[Yi.mp z];refine⟨d,?_⟩;show 0<x.k;omega
theorem WE(h:Rn (zs.map (·.1)) (zs.map (·.2)) m ns rw m'):∀q∈rw,q∈zs/\0<q.2.k:=by
 obtain⟨hs,c,d,_,a,_,f,_⟩:=h;have b:(zs.map (·.1)).zip (zs.map (·.2))=zs:=by
  rw[agS];exact adj zs
 rw[b]at f;exact(Wi (λk=>a.toCk.ct k) f).2
def Us(tb:List (Int×List (Int×Int)))(h:Int)(m:List (Int×Int))(a:List (Int×List (Int×Int))):Prop:=(tbl tb h=Yb->a=tb)/\∀b,tbl tb h=Ya b->∃j,Td j/\(∀k,Lw [b,m] k (ct j k))/\a=uZ tb h j
theorem Us.keys(l:Us tb h m Zs):Zs.map (·.1)=tb.map (·.1):=by
 cases z:tbl tb h with
 |none=>rw[l.1 z]
 |some m0=>
  obtain⟨j,_,_,e⟩:=l.2 m0 z;rw[e,va]
theorem gZ.newo{o':Ye}{ma':Int}{c:List Nm}{b:List V}(h:gZ K mg H p S x)(o:Off [p] H H')(ob:∃C f,mg "Page"=Ya (.ref C)/\AI K C/\H' p=Ya (.ins C f (qW (.int S.me) (.int S.nu) (.int S.ha) (.int S.ro) (.int ma') (.ref x.d) (.ref x.t) (.ref x.k) (.ref o') (.ref x.ta) (.ref x.ab))))(go:H' o'=Ya (.lst b))(hn:oT H' b c)(g:x.t≠o'):gZ K mg H' p {S with ma:=ma',od:=c} {x with o:=o'}:=by
 obtain⟨C,f,F,j,hp⟩:=h.ob;have k:mM H H':=o.kpf1 hp (by show(11:Nat)≠5;decide);obtain⟨⟨G,I,J,s⟩,t,v,_⟩:=id h.ta;obtain⟨⟨L,l,M,w⟩,y,A,_⟩:=id h.ab;have n:∀{a:Ye} {u:HO},H a=Ya u->(∀C f fs,u=.ins C f fs->fs.length≠11)->a∉[p]:=λe l z=>by
  rw[Yi.mp z,hp]at e;cases e;exact l _ _ _ rfl rfl
 have rw:∀{rs:List (Int×V)} {m:List (Int×List (Int×Int))},sQ H rs m->∀r∈rwa rs,r∉[p]:=fun{rs m} R r B=>by
  obtain⟨q,d,e⟩:=c9.mp B;obtain⟨i,D⟩:=YS d;obtain⟨_,N,_,_,j,E⟩:=kz R D;rw[e]at j;cases j;exact n E (by intro _ _ _ z;cases z)
 exact⟨ob,o _ _ h.dn (n h.dn (by intro _ _ _ z;cases z)),h.td,o _ _ h.tk (n h.tk (by intro _ _ _ z;cases z)),λq d=>(h.tc q d).kpf k,o _ _ h.kp (n h.kp (by intro _ _ _ z;cases z)),λq d=>(h.kc q d).kpf k,h.kn,h.kr,⟨b,go,hn⟩,
  iV h.ta o (n s (by intro _ _ _ z;cases z;show(1:Nat)≠11;decide)) (n t (by intro _ _ _ z;cases z)) (rw v),iV h.ab o (n w (by intro _ _ _ z;cases z;show(1:Nat)≠11;decide)) (n y (by intro _ _ _ z;cases z)) (rw A),g,h.dd,h.rr,h.me,h.ha⟩
theorem gZ.lrb{c:List (Int×V)}{i:List (Int×List (Int×Int))}(h:gZ K mg H p S x)(o:K0 x.db H H')(kn:lL K mg H' x.ab x.db c i)(m:∀q∈c,q∈x.rb∨∃r,q.2=.ref r/\H r=Yb):gZ K mg H' p {S with ab:=i} {x with rb:=c}:=by
 obtain⟨C,s,t,v,hp⟩:=h.ob;obtain⟨y,ho,hn⟩:=h.od;obtain⟨⟨E,F,G,A⟩,B,I,_⟩:=id h.ta;obtain⟨⟨J,L,M,N⟩,j,O,_⟩:=id h.ab;have of:Off [x.db] H H':=λb u e n=>o b u (λz=>n (Yi.mpr z)) e;have l:mM H H':=of.kpf1 j trivial;have n:=fun{a:Ye} {u:HO} (e:H a=Ya u) (d:∀k,u≠.dK k)=>of a u e (Hr e j (d _));have rr:∀r∈rwa x.ra,r∉[x.db]:=λr D z=>by
  obtain⟨q,f,e⟩:=c9.mp D;exact(h.rr q (YU _ f)).2.2 (by rw[e,Yi.mp z])
 refine⟨⟨C,s,t,v,n hp (by intro _ z;cases z)⟩,o _ _ h.dd.2.1 h.dn,h.td,n h.tk (by intro _ z;cases z),λq f=>(h.tc q f).kpf l,n h.kp (by intro _ z;cases z),λq f=>(h.kc q f).kpf l,h.kn,h.kr,⟨y,n ho (by intro _ z;cases z),hn.up l.smh⟩,
  iV h.ta of (Hr A j (by intro z;cases z)) (λz=>h.dd.2.2 (Yi.mp z)) rr,kn,h.to,h.dd,λq f=>?_,h.me,h.ha⟩
 rcases YM.mp f with z|z
 ·exact h.rr q (YU _ z)
 ·rcases m q z with w|⟨r,e,g⟩
  ·exact h.rr q (YH _ w)
  ·rw[e];refine⟨λz=>?_,λz=>?_,λz=>?_⟩
   ·cases z;rw[h.dn]at g;cases g
   ·cases z;rw[B]at g;cases g
   ·cases z;rw[j]at g;cases g
theorem gZ.lra{c:List (Int×V)}{i:List (Int×List (Int×Int))}(h:gZ K mg H p S x)(o:K0 x.da H H')(kn:lL K mg H' x.ta x.da c i)(m:∀q∈c,q∈x.ra∨∃r,q.2=.ref r/\H r=Yb):gZ K mg H' p {S with ta:=i} {x with ra:=c}:=by
 obtain⟨C,s,t,v,hp⟩:=h.ob;obtain⟨y,ho,hn⟩:=h.od;obtain⟨⟨E,F,G,I⟩,j,J,_⟩:=id h.ta;obtain⟨⟨L,M,N,A⟩,B,O,_⟩:=id h.ab;have of:Off [x.da] H H':=λb u e n=>o b u (λz=>n (Yi.mpr z)) e;have l:mM H H':=of.kpf1 j trivial;have n:=fun{a:Ye} {u:HO} (e:H a=Ya u) (d:∀k,u≠.dK k)=>of a u e (Hr e j (d _));have rr:∀r∈rwa x.rb,r∉[x.da]:=λr D z=>by
  obtain⟨q,f,e⟩:=c9.mp D;exact(h.rr q (YH _ f)).2.1 (by rw[e,Yi.mp z])
 refine⟨⟨C,s,t,v,n hp (by intro _ z;cases z)⟩,o _ _ h.dd.1 h.dn,h.td,n h.tk (by intro _ z;cases z),λq f=>(h.tc q f).kpf l,n h.kp (by intro _ z;cases z),λq f=>(h.kc q f).kpf l,h.kn,h.kr,⟨y,n ho (by intro _ z;cases z),hn.up l.smh⟩,
  kn,iV h.ab of (Hr A j (by intro z;cases z)) (λz=>h.dd.2.2 (Yi.mp z).symm) rr,h.to,h.dd,λq f=>?_,h.me,h.ha⟩
 rcases YM.mp f with z|z
 ·rcases m q z with w|⟨r,e,g⟩
  ·exact h.rr q (YU _ w)
  ·rw[e];refine⟨λz=>?_,λz=>?_,λz=>?_⟩
   ·cases z;rw[h.dn]at g;cases g
   ·cases z;rw[j]at g;cases g
   ·cases z;rw[B]at g;cases g
 ·exact h.rr q (YH _ z)
noncomputable def X0(x:bK):Yo:=if x.kd="one"then "sure"else "ready"
def Wo(H:Hp)(v:V)(q:V×bK):Prop:=∃a b,v=.ref a/\H a=Ya (.tup [.ref b,.str (X0 q.2)])/\lP H (.ref b) q.2
def Gf(H:Hp)(ys:List V)(rw:List (V×bK)):Prop:=fm (Wo H) ys rw
theorem Wo.up(s:dC H H')(h:Wo H v q):Wo H' v q:=by
 obtain⟨a,b,e,h1,h2⟩:=h;exact⟨a,b,e,s _ _ h1,h2.up s⟩
theorem Gf.up(s:dC H H'){ys:List V}(h:Gf H ys rw):Gf H' ys rw:=fm.mapP h λ_ _ z=>z.up s
theorem Gf.snoc:∀{ys:List V} {rw:List (V×bK)} {v:V} {q:V×bK},Gf H ys rw->Wo H v q->Gf H (ys++[v]) (rw++[q]):=by
 intro a b c d w h
 induction w with
 |nil=>exact .cons h .nil
 |cons r _ ih=>exact .cons r ih
noncomputable def lq(m:List (Int×Int))(rw:List (V×bK)):List (Int×Int):=rw.foldl (λm q=>d3 m q.2.c q.2.k) m
def JM(S i:Pg)(rw:List (V×bK)):Prop:=∃(b e:List (V×bK)) (g k:List (Int×Int)) (a:List Nm) (c d:List (Int×List (Int×Int))) (j:List (Int×Int)),
 b.Perm S.kp/\tP (S.kp.map λq=>[q.2.c,q.2.k]) (S.kp.map (·.1)) (b.map (·.1))/\(Ac S.ha≠.int S.me->a=S.od)/\(Ac S.ha=.int S.me->∃f h,Pw (b.map (·.1)) (b.map (·.2)) S.dn S.od f a h/\TN b h Yb)/\
 Rn (b.map (·.1)) (b.map (·.2)) S.dn a e g/\Us S.ab S.me g c/\Rn (b.map (·.1)) (b.map (·.2)) S.dn (a.take (ON c a)) rw k/\Us S.ta S.me (lq S.dn rw) d/\Vd d j/\
 i={S with dn:=lq S.dn rw,tk:=S.tk++rw,kp:=xR j S.kp,od:=a,ta:=d,ab:=c}
noncomputable abbrev qq:Y4:=bw (eZ 46) 5
def tL(K:Yc)(mg:Yo->Option Yd):Sp:=λf H Q _=>∃(p:Ye),f=[.ref p]/\∃S x,gZ K mg H p S x/\S.ta≠[]/\S.ta.length<=10/\S.kp.length<=60/\S.od.length<=300/\S.tk.length<=800/\S.me∈GB.hl S.ha/\(∀q∈S.kp,q.2.n=S.nu)/\
 ∀b c d rw l e,Off (x.ft p) H b->(∀a,b a=Yb->H a=Yb)->gZ K mg b p d c->(∀a∈c.ft p,a∈x.ft p∨H a=Yb)->JM S d rw->H l=Yb->l∉c.ft p->b l=Ya (.lst e)->Gf b e rw->Q (.ref l) b
theorem Se{S:List (V×bK)}{n:Int}(hn:∀q∈S,q.2.n=n)(nd:(S.map λq=>dX q.2).Nodup):Sr S:=by
 intro q d r f m o;have e:dX q.2=dX r.2:=by
  unfold dX;rw[hn q d,hn r f,m,o]
 obtain⟨i,g⟩:=YS d;obtain⟨j,c⟩:=YS f;have a:=(Yj.mp g);have b:=(Yj.mp c);have:i=j:=by
  have h:i<(S.map λq=>dX q.2).length:=by rw[Yg];exact a.1
  have k:j<(S.map λq=>dX q.2).length:=by rw[Yg];exact b.1
  have l:(S.map λq=>dX q.2)[i]=(S.map λq=>dX q.2)[j]:=by rw[ab9,ab9,a.2,b.2];exact e
  rcases aeR i j with z|z|z
  ·exact absurd l (tq.mp nd i j h k z)
  ·exact z
  ·exact absurd l.symm (tq.mp nd j i k h z)
 subst this;rw[g]at c;exact YK c
theorem NX{tb:List (Int×List (Int×Int))}:∀ns:List Nm,ON tb ns<=ns.length
 |[]=>Yl _
 |p::ns=>by
  unfold ON;have:=NX (tb:=tb) ns;rw[Y5];split<;>omega
theorem lR(m:List (Int×Int))(l:List (V×bK))(q:V×bK):lq m (l++[q])=d3 (lq m l) q.2.c q.2.k:=by
 unfold lq;rw[aeU];rfl
theorem cv:a∈x.ft p↔a=p∨a=x.d∨a=x.t∨a=x.k∨a=x.o∨a=x.ta∨a=x.da∨a=x.ab∨a=x.db∨a∈rwa x.ra∨a∈rwa x.rb:=by
 unfold RS.ft;simp only[YM,Yn,aac,or_false];constructor
 ·rintro((h|h|h|h|h|h|h|h|h)|h|h)<;>simp[h]
 ·rintro(h|h|h|h|h|h|h|h|h|h|h)<;>simp[h]
theorem gQ:aE ["self","calls","sure_places","row","call"] aO (ao qq):=eY
variable{EY:Ye}{ub:Ye}{iM:Ye}{Fg:Ye}{Ht:Ye}{fU:Ye}{wQ:Ye}{rR:Ye}{AM:YD}{rh:YD}{mG:YD}{AY:YD}{DQ:YD}{fN:YD}{tY:YD}{pB:YD}(yc:∅ 7 ME F4 qm (F6 K mg))(D9:∅ 7 EY AM qm (Ax K mg))(ER:d6 K mg "placed" EY AM qm)(ic:∅ 7 lF jv Bc (ji K mg))(tM:∅ 7 ub rh Ef (rP K mg))(tN:Binds K rh Ef [])(ku:∅ 7 iM mG aO (mI K mg))(dD:Binds K mG aO [])(Fj:∅ 7 Fg AY pW (AQ K mg))(Fx:d6 K mg "why_of" Fg AY pW)(Iw:∅ 7 Ht DQ rT (C0 K))(Hy:d6 K mg "least" Ht DQ rT)(jZ:∅ 7 fU fN aO (fK K mg))(d7:Binds K fN aO [])(wb:∅ 7 wQ tY pq (uu K mg))(wu:Binds K tY pq [])(rQ:∅ 7 rR pB aO (qE K mg))(rp:Binds K pB aO [])(bW:bx K bf "told" iM)(iH:bx K cS "sure" ub)(cM:bx K bE "told" iM)(cN:bx K bF "told" iM)(bR:bx K bZ "kept_calls" fU)(fY:bx K bZ "let_go" rR)(i6:bx K bZ "take" wQ)
include eV yc Bi D9 ER ic fA tM tN ku dD Fj Fx Iw Hy jZ d7 wb wu rQ rp av aN aA az aZ aw aT aB aD aU bW cF iH cM cN bR fY i6 in
theorem CK(F:bG K "step" "Page.step" qq f fd):∅ 8 f fd aO (tL K mg):=by
 refine F.oj gQ ?_;rintro _ A _ _ H _ _ _ J _ _ hu ⟨p,rfl,h⟩;refine⟨_,(aj (aW (i:=1) gQ.nd rfl (Or.inl rfl) (bB (bV.cons aZ.cl bR jZ d7 bV.nil) (pv 0) J))
   (aj (dS (bo qg (aJ (K:=K) rfl (pv 0) rfl) (a9 Iw Hy J (aa (aJ (K:=K) rfl (pv 0) rfl) af)) (bu _)) (au (cE (K:=K) rfl (pv 0) (bz (bA (K:=K) rfl) (a9 D9 ER J (aa (aJ (K:=K) rfl (pv 0) rfl) (aa (pv 1) (aa (aJ (K:=K) rfl (pv 0) rfl) af)))) ay (λ_ _=>rfl)) rfl)) bP)
   (aj (dw (bO (bV.cons aN.cl cF ic fA bV.nil) (aJ (K:=K) rfl (pv 0) rfl) J (aa (aJ (K:=K) rfl (pv 0) rfl) (aa (bz (bA (K:=K) rfl) (a9 yc Bi J (aa (aJ (K:=K) rfl (pv 0) rfl) (aa (pv 1) (aa (aJ (K:=K) rfl (pv 0) rfl) af)))) ay (λ_ _=>rfl)) af))))
   (aj (aW (i:=2) gQ.nd rfl (Or.inl rfl) (uI (ud (K:=K) rfl) (aJ (K:=K) rfl (pv 0) rfl) xP (xY (bO (bV.cons aN.cl iH tM tN bV.nil) (aJ (K:=K) rfl (pv 0) rfl) J (aa (aJ (K:=K) rfl (pv 0) rfl) af)))))
   (aj (aW (i:=3) gQ.nd rfl (Or.inl rfl) (bz (bA (K:=K) rfl) (a9 yc Bi J (aa (aJ (K:=K) rfl (pv 0) rfl) (aa (pv 1) (aa (pv 2) af)))) ay (λ_ _=>rfl)))
   (aj (jC aai rfl (bC (K:=K) rfl (pv 3)) (aP (i:=4) gQ.nd rfl (Or.inl rfl))
   (au (dw (bO (bV.cons aZ.cl i6 wb wu bV.nil) (pv 0) J (aa (pv 4) af)))))
   (aj (dw (bO (bV.cons aN.cl cF ic fA bV.nil) (aJ (K:=K) rfl (pv 0) rfl) J (aa (aJ (K:=K) rfl (pv 0) rfl) (aa (aJ (K:=K) rfl (pv 0) rfl) af))))
   (aj (dw (bB (bV.cons aZ.cl fY rQ rp bV.nil) (pv 0) J))
   (au (aL (bM ["call"] [Yb] rfl rfl (by kernel_rfl) (bC (K:=K) rfl (pv 3)) (λ_ _ _ _ _ nd=>aP (i:=0) nd rfl (Or.inl rfl)) (λ_ _ _ _ _=>eE) (λ_ _ _ _ _=>(cC (aa (bB (bV.cons az.cl cN ku dD (bV.cons av.cl bW ku dD (bV.cons aA.cl cM ku dD bV.nil))) (pv 0) J) (aa (a9 Fj Fx J (aa (pv 0) af)) af))))))))))))))),?_⟩
 obtain⟨S,x,PA,b3,h10,hl,lo,lt,aS,b5,kk⟩:=h;obtain⟨C,dx,mP,T,hp⟩:=PA.ob;have eC:=mP;rw[aU]at eC;cases eC;obtain⟨cl,n1,n2,n3,n4,n5,n6,n7,n8,n9,n10,n11⟩:=id T;have tK:=aN.cl;have nL:=aN.n1;cbv;refine⟨p,rfl,S,x,PA,by omega,λH1 D m s1 hD pz od g1=>?_⟩;have P1:=PA.same s1;have aV:=s1 _ _ hp;have zc:∀q∈m,q∈S.kp:=λq s=>pz.mem_iff.mp s;have zl:m.length<=60:=by rw[pz.length_eq];exact hl
 have zr:Sr m:=λq s r J=>Se b5 PA.kn q (zc q s) r (zc r J);have ez:(m.map (·.1)).zip (m.map (·.2))=m:=by
  rw[agS];exact adj m
 obtain⟨a0,ea⟩:∃a,Ac S.ha=.int a:=by
  unfold Ac;cases e:GB.hl S.ha with
  |nil=>rw[e]at aS;cases aS
  |cons a r=>exact⟨a,rfl⟩
 have al:∀{A:Hp},(∀q∈m,gY K mg A q.1 q.2)->Fn K mg A (m.map (·.1)) (m.map (·.2)):=λh=>G3 h;have am:∀y∈m.map (·.2),0<=y.c/\y.c<63:=λy U=>by
  obtain⟨q,s,rfl⟩:=YC.mp U;exact PA.kr q (zc q s)
 have an:(m.map (·.2)).length<=60:=by rw[Yg];exact zl
 refine Be (λσ A=>∃k o',σ=[Ya (.ref p),Ya (.ref D),Yb,Yb,Yb]/\Off [p] H1 A/\gZ K mg A p {S with od:=k} {x with o:=o'}/\(o'=x.o∨H o'=Yb)/\k.length<=400/\(Ac S.ha≠.int S.me->k=S.od)/\(Ac S.ha=.int S.me->∃ap m0,Pw (m.map (·.1)) (m.map (·.2)) S.dn S.od ap k m0/\TN m m0 Yb)) ?_ λN Zc=>?_
 ·rintro σ A ⟨k,o',rfl,oA,W,fo,c4,b6,b7⟩;obtain⟨xs,ho,hn⟩:=W.od;obtain⟨C',c5,a1,_,b8⟩:=W.ob;rw[aU]at a1;cases a1;have b9:=W.dn;have aq:A D=Ya (.lst (m.map (·.1))):=oA _ _ g1 (λw=>by rw[Yi.mp w,aV]at g1;cases g1);have ca:∀{a},A a=Yb->H a=none:=fun{a} e=>by
   cases w:H a with
   |none=>rfl
   |some u=>
    by_cases v:a=p
    ·rw[v,b8]at e;cases e
    ·rw[oA _ _ (s1 _ _ w) (λq=>v (Yi.mp q))]at e;cases e
  obtain⟨⟨da,db,a2,dc⟩,_⟩:=id W.ab;rw[aT]at a2;cases a2;have cc:∀q∈m,gY K mg A q.1 q.2:=λq s=>W.kc q (zc q s);cbv;refine⟨x.d,D,o',rfl,S.dn,_,_,xs,k,.inl b9,PA.td.toCk,bc.of aq,al cc,an,am,.inl (bc.of ho),hn,λH2 t l r hs m0 a3 Zh m1 L cd J gt gl gr ce cf ch ci a4 fw fin=>?_⟩;have cj:bI K H2 t [.ref l,.ref r]:=bI.of gt;have P2:=W.same L;have ck:Rn (m.map (·.1)) (m.map (·.2)) S.dn k a3 m1:=⟨hs,m0,Zh,⟨cf,ch⟩,ci,a4,fw,fin⟩;cbv;refine⟨x.ab,S.me,r,rfl,x.db,x.rb,S.ab,m1,P2.ab,.inl gr,ce.toCk,λH3 a5 M ad cm e1 e2 a6=>?_⟩;have P3:=P2.lrb ad cm a6;have o3:Off [x.db] H2 H3:=λb u e n=>ad b u (λw=>n (Yi.mpr w)) e;have k3:mM H2 H3:=o3.kpf1 P2.ab.dc trivial;have cn:Us S.ab S.me m1 M:=⟨e1,e2⟩;obtain⟨ae,co,ar⟩:=P3.od;obtain⟨C3,dd,a7,_,a8⟩:=P3.ob;rw[aU]at a7;cases a7;obtain⟨⟨df,di,ba,dj⟩,_⟩:=id P3.ab;rw[aT]at ba;cases ba;have cp:H3 D=Ya (.lst (m.map (·.1))):=o3 _ _ (L _ _ aq) (Hr (L _ _ aq) P2.ab.dc (by intro w;cases w));have bb:bc K H3 o' ae:=bc.of co;cbv;refine⟨x.ab,o',rfl,x.db,a5,M,ae,k,P3.ab,.inl bb,ar,by omega,λH4 s4=>?_⟩;have P4:=P3.same s4;obtain⟨C4,dk,dl,_,dm⟩:=P4.ob;have dq:bc K H4 o' ae:=s4.seq bb;cbv;intro sp H5 dr s5 bd;have lx:=ar.len;have ds:ae.length=k.length:=lx;have sl:=NX (tb:=M) k;rw[DO _ _ (by omega)]at bd;have P5:=P4.same s5;obtain⟨C5,dt,be,_,dv⟩:=P5.ob;rw[aU]at be;cases be;have cr:=P5.dn;have cs:=s5 _ _ (s4 _ _ cp);cbv;refine⟨x.d,D,sp,rfl,S.dn,_,_,_,k.take (ON M k),.inl cr,PA.td.toCk,bc.of cs,al (λq s=>P5.kc q (zc q s)),an,am,.inl (bc.of bd),zI _ (ar.up (.same (s4.trans s5))),λH6 t2 l2 r2 cx cy d as m2 s6 bf dy cA bg dE dF bh bi bj bl cB bm=>?_⟩;have aI:Rn (m.map (·.1)) (m.map (·.2)) S.dn (k.take (ON M k)) d m2:=⟨cx,cy,as,⟨bh,bi⟩,bj,bl,cB,bm⟩;have c2:bI K H6 t2 [.ref l2,.ref r2]:=bI.of cA;have P6:=P5.same s6;have cI:=WE aI;have c3:d.length<=60:=by
   have:=Dd aI;have ml:=Y0 (λq:bK=>decide (ct S.dn q.c<q.k)) (m.map (·.2));unfold mz at this;omega
  have nl:∀{a u},H5 a=Ya u->l2≠a:=λe w=>by rw[w,e]at bf;cases bf
  cbv;let cJ:Nat->St->Hp->Prop:=λi σ B=>∃v,σ=[Ya (.ref p),Ya (.ref D),Ya (.ref sp),Ya (.ref l2),v]/\Off [x.d,x.t] H6 B/\gZ K mg B p {S with od:=k,ab:=M,dn:=lq S.dn (d.take i),tk:=S.tk++d.take i} {x with o:=o',rb:=a5};refine l9 (xs:=d.map (·.1)) cJ ⟨Yb,rfl,Off.refl _ _,by rw[List.take_zero,sq];exact P6⟩ (λi σ B _ z=>?_) ?_ ?_
  ·obtain⟨_,_,z,_⟩:=z;exact bc.of (z _ _ bg (λw=>by
    simp only[Yn,aac,or_false]at w;exact w.elim (nl P5.dn) (nl P5.tk)))
  ·rintro i y σ B U ⟨v,rfl,oB,O⟩;obtain⟨q,s,rfl⟩:∃q,d[i]?=Ya q/\q.1=y:=by
    rw[Yy]at U;cases w:d[i]? with
    |none=>rw[w]at U;cases U
    |some q=>rw[w]at U;exact⟨q,rfl,YK U⟩
   obtain⟨qz,qk⟩:=cI q (YA s);have hi:=(Yj.mp s).1;obtain⟨C7,cK,X,_,bn⟩:=O.ob;rw[aU]at X;cases X;cbv;refine⟨p,q.1,rfl,_,_,q.2,O,O.kc q (zc q qz),(PA.kr q (zc q qz)).1,(PA.kr q (zc q qz)).2,qk,?_,λI o2 cL=>?_⟩
   ·show(S.tk++d.take i).length<=900;rw[Yu,xj];omega
   ·cbv;refine⟨_,rfl,λb u e nb=>o2 b u (oB b u e nb) nb,?_⟩;rw[aQ s,lR,←abc];exact cL
  rintro σ B ⟨v,rfl,oB,O⟩;rw[Yg,YY]at O;obtain⟨C7,cK,X,_,bn⟩:=O.ob;rw[aU]at X;cases X;obtain⟨⟨dJ,dK,bt,dL⟩,_⟩:=id O.ta;rw[aT]at bt;cases bt;have cO:=O.dn;cbv;refine⟨x.ta,S.me,x.d,rfl,x.da,x.ra,S.ta,lq S.dn d,O.ta,.inl cO,O.td.toCk,λH8 dM Y ag bv f1 f2 bE=>?_⟩;have P8:=O.lra ag bv bE;have bF:Us S.ta S.me (lq S.dn d) Y:=⟨f1,f2⟩;have bH:Y.length=S.ta.length:=by
   have:=congrArg adu bF.keys;rw[Yg,Yg]at this;exact this
  obtain⟨C8,dN,bL,_,cS⟩:=P8.ob;rw[aU]at bL;cases bL;cbv;refine⟨p,rfl,_,_,P8,?_,by show Y.length<=10;omega,hl,λH9 k' j o9 bS fk cU P9=>?_⟩
  ·intro w;have w:Y=[]:=w;rw[w]at bH;exact b3 (aaC.mp bH.symm)
  have bX:∀b u,H5 b=Ya u->b≠x.d->b≠x.t->B b=Ya u:=λb u e n1 n2=>oB b u (s6 _ _ e) (λw=>by
   simp only[Yn,aac,or_false]at w;exact w.elim n1 n2)
  have cV:H9 l2=Ya (.lst (d.map (·.1))):=by
   have gB:B l2=Ya (.lst (d.map (·.1))):=oB _ _ bg (λw=>by
    simp only[Yn,aac,or_false]at w;exact w.elim (nl P5.dn) (nl P5.tk))
   have g8:=ag _ _ (bU gB O.ta.dc (by intro w;cases w)) gB;refine o9 _ _ g8 (λw=>?_);simp only[Yn,aac,or_false]at w;rcases w with w|w
   ·rw[w,cS]at g8;cases g8
   ·rw[w,P8.kp]at g8;cases g8
  have bZ:∀b u,H b=Ya u->b∉x.ft p->H9 b=Ya u:=λb u e nb=>by
   have Q:=λh=>nb (cv.mpr h);have e1:=oA b u (s1 _ _ e) (λw=>Q (.inl (Yi.mp w)));have e3:=ad b u (λw=>Q (by simp[w])) (L _ _ e1);have e5:=s5 _ _ (s4 _ _ e3);have eB:=bX b u e5 (λw=>Q (by simp[w])) (λw=>Q (by simp[w]));have e8:=ag b u (λw=>Q (by simp[w])) eB;refine o9 b u e8 (λw=>?_);simp only[Yn,aac,or_false]at w;rcases w with w|w
   ·exact Q (.inl w)
   ·exact Q (.inr (.inr (.inr (.inl w))))
  cbv;intro E9 ah;have cW:∀q∈d,gY K mg H9 q.1 q.2:=λq s=>P9.tc q (YH _ s);refine bD (K:=K) (a:=l2) (xs:=d.map (·.1)) (λi σ B=>∃v R,σ=[v]/\aH H9 B/\B E9=Ya (.lst R)/\R.length=i/\Gf B R (d.take i)) ⟨Yb,[],rfl,aC ah,ai,rfl,.nil⟩ ?_ ?_ ?_
  ·rintro i σ B _ ⟨_,_,_,z,_⟩;exact bc.of (z _ _ cV)
  ·rintro i y σ B U ⟨v,R,rfl,sB,gE,ly,tv⟩;obtain⟨q,s,rfl⟩:∃q,d[i]?=Ya q/\q.1=y:=by
    rw[Yy]at U;cases w:d[i]? with
    |none=>rw[w]at U;cases U
    |some q=>rw[w]at U;exact⟨q,rfl,YK U⟩
   have hi:=(Yj.mp s).1;have cq:=(cW q (YA s)).up (.same sB);obtain⟨qv,qx⟩:=q;have cq:gY K mg B qv qx:=cq;obtain⟨pc,Cc,dP,tc,dQ,rfl,cX,dR,dT,dU,dV,dY⟩:=id cq;have tail:∀Z tt,aH B Z->lP Z (.ref tt) qx->∀u I,Z u=Yb->aH Z I->I u=Ya (.tup [.ref tt,.str (X0 qx)])->∃ac,I E9=Ya (.lst ac)/\ac.length<YB/\∃v R,[Ya (V.ref pc)]=[v]/\aH H9 (upd I E9 (.lst (ac++[.ref u])))/\(upd I E9 (.lst (ac++[.ref u]))) E9=Ya (.lst R)/\R.length=i+ 1/\Gf (upd I E9 (.lst (ac++[.ref u]))) R (d.take (i+ 1)):=λZ tt E tl u I hu G gu=>by
    have b0:=G _ _ (E _ _ gE);have kp:dC I (upd I E9 (.lst (R++[V.ref u]))):=dC.lst b0;refine⟨R,b0,aG (by omega),_,R++[.ref u],rfl,λc o e=>?_,ai,by rw[Yu,ly];rfl,?_⟩
    ·rw[ak (ax e ah)];exact G _ _ (E _ _ (sB c o e))
    ·rw[aQ s];exact(tv.up (λa xs e=>kp _ _ (G _ _ (E _ _ e)))).snoc ⟨u,tt,rfl,kp _ _ gu,tl.up (λa xs e=>kp _ _ (G _ _ e))⟩
   show fj _ _ _ _ _ (V.ref pc) _ _;rcases cX with⟨_,e⟩|⟨_,e⟩|⟨_,e⟩
   ·rw[aD]at e;cases e;cbv;refine⟨.ref pc,rfl,qx,cq,λZ tt E _ tl=>?_⟩;cbv;refine⟨.ref pc,rfl,qx,cq.up (.same E),?_⟩;cbv;intro u I hu G gu;exact tail Z tt E tl u I hu G gu
   ·rw[aw]at e;cases e;cbv;refine⟨.ref pc,rfl,qx,cq,λZ tt E _ tl=>?_⟩;cbv;refine⟨.ref pc,rfl,qx,cq.up (.same E),?_⟩;cbv;intro u I hu G gu;exact tail Z tt E tl u I hu G gu
   ·rw[aB]at e;cases e;cbv;refine⟨.ref pc,rfl,qx,cq,λZ tt E _ tl=>?_⟩;cbv;refine⟨.ref pc,rfl,qx,cq.up (.same E),?_⟩;cbv;intro u I hu G gu;exact tail Z tt E tl u I hu G gu
  rintro σ B' ⟨v9,R,rfl,aK,gE,ly,tv⟩;rw[Yg,YY]at tv;cbv;have b1:∀a,B a=Yb->H a=none:=λa e=>by
   cases z:H a with
   |none=>rfl
   |some u=>
    by_cases w1:a=p
    ·rw[w1,bn]at e;cases e
    ·by_cases w2:a=x.d
     ·rw[w2,O.dn]at e;cases e
     ·by_cases w3:a=x.t
      ·rw[w3,O.tk]at e;cases e
      ·by_cases w4:a=x.db
       ·rw[w4,O.ab.dc]at e;cases e
       ·have e1:=oA a u (s1 _ _ z) (λw=>w1 (Yi.mp w));rw[bX a u (s5 _ _ (s4 _ _ (ad a u w4 (L _ _ e1)))) w2 w3]at e;cases e
  have aR:∀a,H8 a=Yb->H a=none:=λa e=>by
   cases z:B a with
   |none=>exact b1 a z
   |some u=>
    by_cases w:a=x.da
    ·rw[w,bv.dc]at e;cases e
    ·rw[ag a u w z]at e;cases e
  refine kk B' _ _ d E9 R (λb u e nb=>aK _ _ (bZ b u e nb)) (λa e=>aR a (bS a (aK.free e))) (P9.same aK) (λa ha=>?_) ⟨m,a3,m1,m2,k,M,Y,j,pz,od,b6,b7,ck,cn,aI,bF,cU,rfl⟩ (aR _ (bS _ ah)) (λw=>?_) gE tv
  ·rcases cv.mp ha with w|w|w|w|w|w|w|w|w|w|w
   ·exact .inl (cv.mpr (by simp[w]))
   ·exact .inl (cv.mpr (by simp[w]))
   ·exact .inl (cv.mpr (by simp[w]))
   ·have w:a=k':=w;exact .inr (w▸aR _ fk)
   ·have w:a=o':=w;rcases fo with v|v
    ·exact .inl (cv.mpr (by simp[w,v]))
    ·exact .inr (w▸v)
   ·exact .inl (cv.mpr (by simp[w]))
   ·exact .inl (cv.mpr (by simp[w]))
   ·exact .inl (cv.mpr (by simp[w]))
   ·exact .inl (cv.mpr (by simp[w]))
   ·obtain⟨q,s,e⟩:=c9.mp w;rcases bE q s with v|⟨r,e',v⟩
    ·have:a∈rwa x.ra:=c9.mpr ⟨q,v,e⟩;exact .inl (cv.mpr (by simp[this]))
    ·rw[e]at e';cases e';exact .inr (b1 _ v)
   ·obtain⟨q,s,e⟩:=c9.mp w;rcases a6 q s with v|⟨r,e',v⟩
    ·have:a∈rwa x.rb:=c9.mpr ⟨q,v,e⟩;exact .inl (cv.mpr (by simp[this]))
    ·rw[e]at e';cases e';exact .inr (ca (L.free v))
  ·obtain⟨o,e,_⟩:=P9.fto E9 w;rw[ah]at e;cases e
 ·obtain⟨xs,ho,hn⟩:=P1.od;have dZ:=P1.dn;cbv;refine⟨S.ha,rfl,PA.ha.1,PA.ha.2,λH2 L=>?_⟩;have b2:=L _ _ aV;have P2:=P1.same L;have cZ:=P2.dn;have c0:=L _ _ ho;rw[ea];cbv;refine dh (λz=>?_) λz=>?_
  ·have z:S.me=a0:=of_decide_eq_true z;cbv;refine⟨x.d,D,x.o,rfl,S.dn,_,_,xs,S.od,.inl cZ,PA.td.toCk,bc.of (L _ _ g1),al (λq s=>P2.kc q (zc q s)),an,by rw[ez];exact zr,am,.inl (bc.of c0),hn.up (.same L),lo,λH3 t l g ap R gs m0 s3 cd hg gt gl gg nm pw la=>?_⟩;have a8:=s3 _ _ b2;have cj:bI K H3 t [.ref l,.ref g]:=bI.of gt;cbv;intro H4 b4 g4;rw[y8]at g4;have c1:g≠p:=λw=>by rw[w,b2]at hg;cases hg
   have o4:Off [p] H3 H4:=λb u e nb=>b4.at (λw=>nb (Yi.mpr w)) e;have k4:mM H3 H4:=o4.kpf1 a8 (by show(11:Nat)≠5;decide);have pl:=T7 (by rw[ez];exact zr) pw;have ml:=Y0 (λq:bK=>decide (ct S.dn q.c<q.k)) (m.map (·.2));refine Zc _ _ ⟨gs,g,rfl,λb u e nb=>o4 b u (s3 _ _ (L _ _ e)) nb,(P2.same s3).newo (ma':=S.ma) o4 ⟨_,dx,mP,T,g4⟩ (b4.at c1 gg) (nm.up k4.smh) ?_,.inr (s1.free (L.free hg)),?_,λw=>?_,λ_=>⟨ap,m0,pw,by rw[ez]at la;exact la⟩⟩
   ·intro w;rw[←w,P2.tk]at hg;cases hg
   ·unfold mz at pl;omega
   ·exact absurd (by rw[ea,z]) w
  ·have z:¬ S.me=a0:=λw=>z (decide_eq_true w);exact Zc _ _ ⟨S.od,x.o,rfl,Off.of L,P2,.inl rfl,by omega,λ_=>rfl,λw=>absurd (by rw[ea]at w;cases w;rfl) z⟩
noncomputable abbrev mZ:Y4:=bw (eZ 46) 4
theorem NO{S:List Int}(t:Ck m)(a:S.Perm (m.map (·.1))):Ck (sW m S):=by
 have nd:S.Nodup:=a.nodup_iff.mpr t.nd;have b:(sW m S).map (·.1)=S.filter λk=>decide (0<ct m k):=by
  unfold sW;rw[gf];exact adj _
 refine⟨by rw[b];exact nd.filter _,λp hp=>?_,λp hp=>?_⟩
 ·unfold sW at hp;obtain⟨k,_,rfl⟩:=YC.mp hp;exact t.ct k
 ·unfold sW at hp;obtain⟨k,c,rfl⟩:=YC.mp hp;exact t.keys k (a.mem_iff.mp (cw.mp c).1)
def Xo(S:Pg)(kd:Yo)(w:Int)(c:bK):Prop:=∃hs:List Int,hs.Perm (S.dn.map (·.1))/\hs.Pairwise (·<=·)/\c=⟨kd,S.nu,S.me,S.ma+ 1,w,if kd="own"then[]else sW S.dn hs⟩
structure QG(S:Pg)(n:Nat):Prop where
 ne:S.ta≠[]
 l10:S.ta.length<=10
 kl:S.kp.length<=n
 ol:S.od.length<=n
 tl:S.tk.length<=8*n
 me:S.me∈GB.hl S.ha
 nu:∀q∈S.kp,q.2.n=S.nu
 ma:0<=S.ma
 mx:∀q∈S.kp,q.2.c=S.me->q.2.k<=S.ma
def rB(K:Yc)(mg:Yo->Option Yd):Sp:=λh H Q E=>∃(p:Ye) (kd:Yo) (w:Int),h=[.ref p,.str kd,.int w]/\∃S x,gZ K mg H p S x/\QG S 59/\(kd="own"∨kd="heard"∨kd="one")/\(if w<0 then-w else w)<10^(60:Int).toNat/\
 (∀b d e rw l f v c j,Off (x.ft p) H b->(∀a,b a=Yb->H a=Yb)->gZ K mg b p e d->(∀a∈d.ft p,a∈x.ft p∨H a=Yb)->Vd S.ta j->S.ma-ct j S.me<S.ro->Xo S kd w c->JM {S with ma:=S.ma+ 1,kp:=S.kp++[(v,c)]} e rw->H l=Yb->l∉d.ft p->b l=Ya (.lst f)->Gf b f rw->Q (.ref l) b)/\
 ∀b j g C,aH H b->Vd S.ta j->¬ (S.ma-ct j S.me<S.ro)->mg "Held"=Ya (.ref C)->H g=Yb->E (.ref g) (Ya C) b
abbrev Di:List Yo:=["self","kind","word"]
theorem q8:aE ["self","kind","word","call"] Di (ao mZ):=eY
variable{jW:Ye}{qF:Ye}{wI:Ye}{jr:YD}{mK:YD}{uV:YD}(qj:∅ 8 oY mQ IW (mW K mg))(wH:∅ 8 zQ vP Ao (vM K))(kh:aF P w K mg base (CO P w) 8 jW jr aO (jy K mg))(j0:Binds K jr aO [])(wm:∅ 8 qF mK pq (mR K mg))(j8:Binds K mK pq [])(kN:∅ 8 wI uV aO (tL K mg))(jV:Binds K uV aO [])(dF:bx K bZ "check_room" jW)(dJ:bx K bZ "keep" qF)(dM:bx K bZ "step" wI)
include eV qj jS wH ux kh j0 wm j8 kN jV av aA az aZ aw aB aD aU dF dJ dM in
theorem z7(F:bG K "utter" "Page.utter" mZ f fd):aF P w K mg base (CO P w) 9 f fd Di (rB K mg):=by
 refine F.okX q8 (λvs H Q E h=>?_) (λal A outer s H vs Q E g h=>?_)
 ·obtain⟨p,kd,w,rfl,_⟩:=h;rfl
 obtain⟨p,kd,w,rfl,h⟩:=h;have ah:=g.units;have am:=g.units0;have hu:=HW g;refine⟨_,(aj (dw (yQ (pv 0) aZ.cl dF kh g j0 .nil Xa))
   (aj (aW (i:=3) q8.nd rfl (Or.inl rfl) (a9 qj jS g (aa (aJ (K:=K) rfl (pv 0) rfl) (aa (aJ (K:=K) rfl (pv 0) rfl) (aa (aX eG (aJ (K:=K) rfl (pv 0) rfl) ay) (aa (pv 1) (aa (pv 2) (aa (a9 wH ux g (aa (aJ (K:=K) rfl (pv 0) rfl) af)) af))))))))
   (aj (cE (K:=K) rfl (pv 0) (aJ (K:=K) rfl (pv 3) rfl) rfl)
   (aj (dw (bO (bV.cons aZ.cl dJ wm j8 bV.nil) (pv 0) g (aa (pv 3) af)))
   (au (aL (bB (bV.cons aZ.cl dM kN jV bV.nil) (pv 0) g))))))),?_⟩
 obtain⟨S,x,PA,ok,L,hw,k1,k2⟩:=h;obtain⟨C,dx,mP,T,hp⟩:=PA.ob;have eC:=mP;rw[aU]at eC;cases eC;obtain⟨cl,n1,n2,n3,n4,n5,n6,n7,n8,n9,n10,n11⟩:=id T;cbv;refine BC ?_;cbv;refine⟨p,dx,_,rfl,hp,qu,?_⟩;cbv;refine⟨p,rfl,S,x,PA,ok.ne,ok.l10,λM j r N k=>?_,λM j ea Ce r N k mh he=>k2 M j ea Ce r N k mh he⟩;have P1:=PA.same r;have O:=r _ _ hp;have R:=P1.dn;have ld:S.dn.length<64:=PA.td.toCk.len;cbv;refine⟨x.d,S.dn,rfl,.inl R,ld,λH2 t U hs s2 ht pm so gt pr=>?_⟩;cbv;refine⟨S.nu,S.me,S.ma+ 1,kd,w,t,rfl,U,L,hw,gt,λv pc Cc W t' s3 an X tc gc Y=>?_⟩;have d:aH M v:=s2.trans s3;have Z:=P1.same d;have y:=d _ _ O;obtain⟨ap,m1,m2,m3,m4,m5⟩:=id tc;have cA:gY K mg v (.ref pc) ⟨kd,S.nu,S.me,S.ma+ 1,w,if kd="own"then[]else sW S.dn hs⟩:=by
  refine⟨pc,Cc,W,t',_,rfl,X,tc,gc,Y,?_,?_⟩
  ·by_cases z:kd="own"
   ·show jQ v (if kd="own"then[]else U) (if kd="own"then[]else sW S.dn hs);rw[if_pos z,if_pos z];exact .nil
   ·show jQ v (if kd="own"then[]else U) (if kd="own"then[]else sW S.dn hs);rw[if_neg z,if_neg z];exact pr.mono (dC.same s3)
  ·show Ck (if kd="own"then[]else sW S.dn hs);by_cases z:kd="own"
   ·rw[if_pos z];exact Ck.nil
   ·rw[if_neg z];exact NO PA.td.toCk pm
 have nw:Xo S kd w ⟨kd,S.nu,S.me,S.ma+ 1,w,if kd="own"then[]else sW S.dn hs⟩:=⟨hs,pm,so,rfl⟩;generalize (⟨kd,S.nu,S.me,S.ma+ 1,w,if kd="own"then[]else sW S.dn hs⟩:bK)=c at cA nw;obtain⟨ab,m,aq⟩:c.n=S.nu/\c.c=S.me/\c.k=S.ma+ 1:=by
  obtain⟨_,_,_,e⟩:=nw;rw[e];exact⟨rfl,rfl,rfl⟩
 cbv;intro H4 b4 g4;rw[Ju]at g4;have B:Off [p] v H4:=λb u e n=>b4.at (λw=>n (Yi.mpr w)) e;have k4:mM v H4:=B.kpf1 y (by show(11:Nat)≠5;decide);obtain⟨xo,D,ac⟩:=Z.od;have P4:gZ K mg H4 p {S with ma:=S.ma+ 1} x:=Z.newo (ma':=S.ma+ 1) (o':=x.o) B ⟨_,dx,mP,T,g4⟩ (B _ _ D (Hr D y (by intro z;cases z))) (ac.up k4.smh) Z.to;have c4:=cA.kpf k4;cbv;refine⟨p,.ref pc,rfl,_,x,c,P4,c4,?_,by rw[m];exact PA.me.1,by rw[m];exact PA.me.2,by have:=ok.kl;show S.kp.length<=900;omega,λH5 o5 P5=>?_⟩
 ·intro z;obtain⟨q,G,e⟩:=YC.mp z;have G:q∈S.kp:=G;unfold dX at e;have e1:q.2.c=c.c:=by
   have:=(mr (mr e).2).1;exact aaA this
  have e2:q.2.k=c.k:=by
   have:=(mr (mr (mr e).2).2).1;exact aaA this
  have:=ok.mx q G (by rw[e1,m]);omega
 obtain⟨C5,ar,I,_,ad⟩:=P5.ob;rw[aU]at I;cases I;cbv;refine⟨p,rfl,_,x,P5,ok.ne,ok.l10,?_,by have:=ok.ol;show S.od.length<=300;omega,by have:=ok.tl;show S.tk.length<=800;omega,ok.me,λq G=>?_,λH6 x' S' rw l ys o6 ae P6 ag st hl nl gl tv=>?_⟩
 ·show(S.kp++[(V.ref pc,c)]).length<=60;rw[Yu];have:=ok.kl;show S.kp.length+ 1<=60;omega
 ·rcases YM.mp G with z|z
  ·exact ok.nu q z
  ·rw[Yi.mp z];exact ab
 have J:∀b u,H b=Ya u->b∉x.ft p->H5 b=Ya u:=λb u e n=>by
  have e3:=d _ _ (r _ _ e);have e4:=B b u e3 (λz=>n (cv.mpr (.inl (Yi.mp z))));exact o5 b u e4 (λz=>n (cv.mpr (by simp[Yi.mp z])))
 have o:∀a,H5 a=Yb->H a=none:=λa e=>by
  cases z:H a with
  |none=>rfl
  |some u=>
   by_cases w1:a=p
   ·rw[w1,ad]at e;cases e
   ·by_cases w2:a=x.k
    ·rw[w2,P5.kp]at e;cases e
    ·rw[o5 a u (B a u (d _ _ (r _ _ z)) (by simp[w1])) (by simp[w2])]at e;cases e
 refine k1 H6 x' S' rw l ys (.ref pc) c j (λb u e n=>o6 b u (J b u e n) n) (λa e=>o a (ae a e)) P6 (λa ha=>?_) N k nw st (o l hl) nl gl tv;rcases ag a ha with z|z
 ·exact .inl z
 ·exact .inr (o a z)
noncomputable abbrev nA:Y4:=bw (eZ 46) 8
theorem oV{α β:Type}{F:α->β->Prop}:∀{l:List α} {m:List β} {a:α} {b:β},fm F l m->F a b->fm F (l++[a]) (m++[b]):=by
 intro c d e f w h
 induction w with
 |nil=>exact .cons h .nil
 |cons r _ ih=>exact .cons r ih
theorem Nx(xs:List V)(k:Int)(h:0<=k):zk xs (Ya k) Yb=xs.drop k.toNat:=by
 obtain⟨n,rfl⟩:=aaR h;unfold zk;have a:HT.z8 xs.length 0 (Ya (n:Int))=min n xs.length:=by
  show(if(n:Int)<0 then((n:Int)+ (xs.length:Nat)).toNat else min (n:Int).toNat xs.length)=_;rw[if_neg (by omega),YQ]
 have b:HT.z8 xs.length xs.length Yb=xs.length:=rfl;rw[a,b,YQ];rcases ajo n xs.length with z|z
 ·rw[aiB z,acv (by rw[ab3];exact Yl _)]
 ·rw[ah6 z,afY (Yl _),afY z,List.take_nil]
theorem KC(xs:List V)(k:Int)(h:0<=k):zk xs Yb (Ya k)=xs.take k.toNat:=by
 obtain⟨n,rfl⟩:=aaR h;unfold zk;have a:HT.z8 xs.length 0 Yb=0:=rfl;have b:HT.z8 xs.length xs.length (Ya (n:Int))=min n xs.length:=by
  show(if(n:Int)<0 then((n:Int)+ (xs.length:Nat)).toNat else min (n:Int).toNat xs.length)=_;rw[if_neg (by omega),YQ]
 rw[a,b,aiR,ajn,YQ];rcases ajo n xs.length with z|z
 ·rw[aiB z]
 ·rw[ah6 z,YY,acv z]
def Xp(H:Hp)(t:Ye)(me:Int)(od:List Nm)(i j:List (Int×List (Int×Int)))(cs:List bK):Prop:=∃a b c d e f g h,H t=Ya (.tup [.int me,.ref a,.ref b,.ref c,.ref d])/\H a=Ya (.tup e)/\oT H e od/\H b=Ya (.tup f)/\yt H f i/\H c=Ya (.tup g)/\yt H g j/\H d=Ya (.tup h)/\fm (lP H) h cs
noncomputable def Rb(zs:List (V×bK))(sk:Int)(mv:V):List (V×bK):=match mv with| .int mn=>(zs.drop sk.toNat).take mn.toNat|_=>zs.drop sk.toNat
def rA(K:Yc)(mg:Yo->Option Yd):Sp:=λf H Q _=>∃(p:Ye) (b:Int) (a:V),f=[.ref p,.int b,a]/\∃S x,gZ K mg H p S x/\S.kp.length<64/\0<=b/\(a=.non∨∃d:Int,0<=d/\a=.int d)/\
 ∀c t e,aH H c->H t=Yb->e.Perm S.kp->Xp c t S.me S.od (uR S.ta) (uR S.ab) ((Rb e b a).map (·.2))->Q (.ref t) c
abbrev zj:List Yo:=["self","skip","many"]
theorem iD:aE ["self","skip","many","calls","told"] zj (ao nA):=eY
variable{p0:Ye}{oq:YD}(jo:∅ 5 p0 oq aO (nY K mg))(js:Binds K oq aO [])(gH:∅ 5 iM mG aO (mI K mg))(iN:∅ 5 fU fN aO (fK K mg))(dQ:bx K cS "listed" p0)
include eV jo js gH dD iN d7 je av aN aA az aZ aw aT aB aD aU bW dQ cM cN bR in
theorem z6{t0:ac2}(F:Gb K "piece" "Page.piece" nA f fd [.int 0 t0,.none]):∅ 6 f fd zj (rA K mg):=by
 refine F.ok iD (λvs H Q E h=>?_) (λba A outer s H vs Q E u h=>?_)
 ·obtain⟨p,m,W,rfl,_⟩:=h;rfl
 obtain⟨p,m,W,rfl,h⟩:=h;have a6:=u.units;have bb:=u.units0;have hu:=HW u;refine⟨_,(aj (aW (i:=3) iD.nd rfl (Or.inl rfl) (uI (ud (K:=K) rfl) (bB (bV.cons aZ.cl bR iN d7 bV.nil) (pv 0) u) (xY (pv 1)) xP))
   (aj (dS (bo xZ (pv 2) qH (bu _)) (au (aW (i:=3) iD.nd rfl (Or.inl rfl) (uI (ud (K:=K) rfl) (pv 3) xP (xY (pv 2))))) bP)
   (aj (aW (i:=4) iD.nd rfl (Or.inl rfl) (bN (iL (K:=K) rfl) (by rfl) je abI (aa (bM ["call"] [Yb] rfl rfl (by kernel_rfl) (bC (K:=K) rfl (pv 3)) (λ_ _ _ _ _ nd=>aP (i:=0) nd rfl (Or.inl rfl)) (λ_ _ _ _ _=>eE) (λ_ _ _ _ _=>(bB (bV.cons az.cl cN gH dD (bV.cons av.cl bW gH dD (bV.cons aA.cl cM gH dD bV.nil))) (pv 0) u))) af)))
   (au (aL (cC (aa (aJ (K:=K) rfl (pv 0) rfl) (aa (bN (iL (K:=K) rfl) (by rfl) je abI (aa (aJ (K:=K) rfl (pv 0) rfl) af)) (aa (bB (bV.cons aN.cl dQ jo js bV.nil) (aJ (K:=K) rfl (pv 0) rfl) u) (aa (bB (bV.cons aN.cl dQ jo js bV.nil) (aJ (K:=K) rfl (pv 0) rfl) u) (aa (pv 4) af))))))))))),?_⟩
 obtain⟨S,x,PA,hl,am,G,kk⟩:=h;obtain⟨C,dx,mP,T,hp⟩:=PA.ob;have eC:=mP;rw[aU]at eC;cases eC;obtain⟨cl,n1,n2,n3,n4,n5,n6,n7,n8,n9,n10,n11⟩:=id T;have tK:=aN.cl;have nL:=aN.n1;cbv;refine⟨p,rfl,S,x,PA,hl,λH1 D n s1 hD pz od g1=>?_⟩;have bd:bc K H1 D (n.map (·.1)):=bc.of g1;cbv;intro c1 H2 be s2 I;rw[Nx _ _ am,←List.map_drop]at I;have l2:(n.drop m.toNat).length<64:=by rw[ab3,pz.length_eq];omega
 refine Be (λσ A=>∃X,σ=[Ya (.ref p),Ya (.int m),Ya W,Ya (.ref X),Yb]/\aH H2 A/\A X=Ya (.lst ((Rb n m W).map (·.1)))) ?_ λN Zc=>?_
 ·rintro σ A ⟨X,rfl,sA,k⟩;have J:aH H A:=s1.trans (s2.trans sA);have ab:=PA.same J;have pl:(Rb n m W).length<64:=by
   rcases G with z|⟨mn,_,z⟩
   ·rw[z];exact l2
   ·rw[z];show((n.drop m.toNat).take mn.toNat).length<64;rw[xj];omega
  have pin:∀q∈Rb n m W,q∈S.kp:=λq r=>by
   refine pz.mem_iff.mp ?_;rcases G with z|⟨mn,_,z⟩
   ·rw[z]at r;exact acW r
   ·rw[z]at r;exact acW (acV r)
  obtain⟨ps,ac⟩:∃ps,ps=Rb n m W:=⟨_,rfl⟩;rw[←ac]at k pl pin;cbv;intro E hE;refine bD (K:=K) (a:=X) (xs:=ps.map (·.1)) (λi σ B=>∃v b,σ=[v]/\aH A B/\B E=Ya (.lst b)/\b.length=i/\fm (lP B) b ((ps.take i).map (·.2))) ⟨Yb,[],rfl,aC hE,ai,rfl,.nil⟩ ?_ ?_ ?_
  ·rintro i σ B _ ⟨_,_,_,z,_⟩;exact bc.of (z _ _ k)
  ·rintro i y σ B hy ⟨v,b,rfl,Y,gE,ly,tv⟩;obtain⟨q,r,rfl⟩:∃q,ps[i]?=Ya q/\q.1=y:=by
    rw[Yy]at hy;cases w:ps[i]? with
    |none=>rw[w]at hy;cases hy
    |some q=>rw[w]at hy;exact⟨q,rfl,YK hy⟩
   have hi:=(Yj.mp r).1;have Z:=(ab.kc q (pin q (YA r))).up (.same Y);obtain⟨qv,qx⟩:=q;have Z:gY K mg B qv qx:=Z;obtain⟨pc,Cc,bf,tc,bg,rfl,an,bh,bi,bj,bl,bm⟩:=id Z;have tail:∀j g,aH B j->lP j (.ref g) qx->∃l,j E=Ya (.lst l)/\l.length<YB/\∃v b,[Ya (V.ref pc)]=[v]/\aH A (upd j E (.lst (l++[.ref g])))/\(upd j E (.lst (l++[.ref g]))) E=Ya (.lst b)/\b.length=i+ 1/\fm (lP (upd j E (.lst (l++[.ref g])))) b ((ps.take (i+ 1)).map (·.2)):=λj g d tl=>by
    have ad:=d _ _ gE;have kp:dC j (upd j E (.lst (b++[V.ref g]))):=dC.lst ad;refine⟨b,ad,aG (by omega),_,b++[.ref g],rfl,λc o e=>?_,ai,by rw[Yu,ly];rfl,?_⟩
    ·rw[ak (ax e hE)];exact d _ _ (Y c o e)
    ·rw[aQ r,Yx];exact oV (fm.mapP tv λ_ _ z=>z.up (λa xs e=>kp _ _ (d _ _ e))) (tl.up kp)
   show fj _ _ _ _ _ (V.ref pc) _ _;rcases an with⟨_,e⟩|⟨_,e⟩|⟨_,e⟩
   ·rw[aD]at e;cases e;cbv;exact⟨.ref pc,rfl,qx,Z,λj g d _ tl=>tail j g d tl⟩
   ·rw[aw]at e;cases e;cbv;exact⟨.ref pc,rfl,qx,Z,λj g d _ tl=>tail j g d tl⟩
   ·rw[aB]at e;cases e;cbv;exact⟨.ref pc,rfl,qx,Z,λj g d _ tl=>tail j g d tl⟩
  rintro σ B ⟨v9,b,rfl,Y,gE,ly,tv⟩;rw[Yg,YY]at tv;refine⟨E,b,rfl,.inl ⟨bc.of gE,λg ap=>?_⟩⟩;have L:=aC (o:=.tup b) ap;have g3:(upd B g (.tup b)) g=Ya (.tup b):=ai;generalize upd B g (.tup b)=H3 at L g3⊢;have aq:fm (lP H3) b (ps.map (·.2)):=fm.mapP tv λ_ _ z=>z.up (dC.same L);have P3:=ab.same (Y.trans L);obtain⟨C3,bn,ae,_,ar⟩:=P3.ob;rw[aU]at ae;cases ae;obtain⟨xo,bt,as⟩:=P3.od;obtain⟨⟨bv,bE,ag,aI⟩,_⟩:=id P3.ta;rw[aT]at ag;cases ag;obtain⟨⟨bF,bH,ah,aK⟩,_⟩:=id P3.ab;rw[aT]at ah;cases ah;cbv;intro oo H4 bL M g4;have P4:=P3.same M;have aR:=M _ _ ar;have a7:=M _ _ aI;have al:=M _ _ aK;cbv;refine⟨x.ta,rfl,x.da,x.ra,S.ta,P4.ta,λH5 a1 xa O bS aS aV=>?_⟩;have P5:=P4.same O;have bX:=O _ _ aR;have a8:=O _ _ al;cbv;refine⟨x.ab,rfl,x.db,x.rb,S.ab,P5.ab,λH6 a2 xb s6 bZ a0 a3=>?_⟩;cbv;intro t H7 ht R g7;have U:dC H3 H7:=dC.same (M.trans (O.trans (s6.trans R)));have a4:dC H5 H7:=dC.same (s6.trans R);refine kk H7 t n (J.trans (Y.trans (L.trans (M.trans (O.trans (s6.trans R)))))) (J.free (Y.free (L.free (M.free (O.free (s6.free ht)))))) pz ⟨oo,a1,a2,g,xo,xa,xb,b,g7,R _ _ (s6 _ _ (O _ _ g4)),as.up U,R _ _ (s6 _ _ aS),iz a4 aV,R _ _ a0,iz (dC.same R) a3,U _ _ g3,(by rw[←ac];exact fm.mapP aq λ_ _ z=>lP.up U z)⟩
 ·cbv;rcases G with rfl|⟨mn,a5,rfl⟩
  ·rw[show decide (V.non=V.non)=true from decide_eq_true rfl];cbv;exact Zc _ _ ⟨c1,rfl,.refl _,I⟩
  ·rw[show decide (V.int mn=V.non)=false from decide_eq_false (by intro z;cases z)];have b0:bc K H2 c1 ((n.drop m.toNat).map (·.1)):=bc.of I;cbv;intro X H3 b1 L k;rw[KC _ _ a5,←List.map_take]at k;cbv;exact Zc _ _ ⟨X,rfl,L,k⟩
noncomputable abbrev iR:Y4:=bw (eZ 46) 10
inductive FA (dn:List (Int×Int)) (kp:List (V×bK)):List bK->List (V×bK)->Prop
 |nil:FA dn kp [] kp
 |skip {cs:List bK} {Zj:List (V×bK)} {c:bK}:FA dn kp cs Zj->(c.k<=ct dn c.c∨dX c∈Zj.map λq=>dX q.2)->FA dn kp (cs++[c]) Zj
 |add {cs:List bK} {Zj:List (V×bK)} {c:bK} {v:V}:FA dn kp cs Zj->¬ c.k<=ct dn c.c->dX c∉Zj.map (λq=>dX q.2)->FA dn kp (cs++[c]) (Zj++[(v,c)])
theorem FA.len{kp:List (V×bK)}(h:FA dn kp cs Zj):Zj.length<=kp.length+ cs.length:=by
 induction h with
 |nil=>exact Yl _
 |skip _ _ ih=>rw[Yu];exact xy ih (by omega)
 |add _ _ _ ih=>rw[Yu,Yu,Y1,Y1];omega
theorem FA.mem{kp:List (V×bK)}(h:FA dn kp cs Zj):∀q∈Zj,q∈kp∨q.2∈cs:=by
 induction h with
 |nil=>exact λq a=>.inl a
 |skip _ _ ih=>exact λq a=>(ih q a).imp id λz=>YU _ z
 |add _ _ _ ih=>
  intro q a;rcases YM.mp a with z|z
  ·exact(ih q z).imp id λz=>YU _ z
  ·rw[Yi.mp z];exact .inr (YH _ (Yi.mpr rfl))
theorem DD{k:List bJ}:(eF kvs k).isSome=true↔k∈kvs.map (·.1):=by
 rw[←qd,abM,YC];exact⟨fun⟨e,a,z⟩=>⟨e,a,of_decide_eq_true z⟩,fun⟨e,a,z⟩=>⟨e,a,decide_eq_true z⟩⟩
theorem OE{kp:List (V×bK)}:(eF (kp.map Bz) (dX c)).isSome=true↔dX c∈kp.map λq=>dX q.2:=by
 rw[DD,gf];rfl
theorem Io{g i j:Ye}(k:mg "OwnCall"=Ya (.ref g))(l:mg "HeardCall"=Ya (.ref i))(m:mg "OneCall"=Ya (.ref j))(h:gY K mg H v c)(q:∀H' t,aH H H'->H t=Yb->H' t=Ya (.tup [.int c.n,.int c.c,.int c.k])->Q (.ref t) H'):
  Vb [(g,cP K),(i,cP K),(j,cP K)] ("name":Yo) BU σ v H Q:=by
 obtain⟨pc,n,b,tc,o,rfl,d,f,a,p,r,s⟩:=h;have go:cP K (.ref pc::([]++[])) H Q E0:=⟨pc,rfl,n,b,_,_,_,_,_,f,a,q⟩;rcases d with⟨_,e⟩|⟨_,e⟩|⟨_,e⟩
 ·rw[k]at e;cases e;exact vB a uJ go
 ·rw[l]at e;cases e;exact vg (vB a uJ go)
 ·rw[m]at e;cases e;exact vg (vg (vB a uJ go))
def mi(K:Yc)(mg:Yo->Option Yd):Sp:=λf H Q _=>∃(p b:Ye),f=[.ref p,.ref b]/\∃S x d cs,gZ K mg H p S x/\H b=Ya (.tup d)/\fm (lP H) d cs/\(∀c∈cs,Wf c)/\S.kp.length+ cs.length<=800/\
 ∀a e,Off [x.k] H a->gZ K mg a p {S with kp:=e} x->FA S.dn S.kp cs e->Q .non a
abbrev Ew:List Yo:=["self","calls"]
theorem iq:aE ["self","calls","told","call"] Ew (ao iR):=eY
variable{Bq:Ye}{yq:YD}(l7:∅ 5 iy gR Gx (gU K))(c5:∅ 5 eX f9 aO (cP K))(Ah:∅ 5 Bq yq ["told"] (zF K mg))(AO:d6 K mg "call_of" Bq yq ["told"])(qw:∅ 5 qF mK pq (mR K mg))
include eV l7 cU c5 bj Ah AO qw j8 av aA az aZ aw aB aD aU aV bg bh dJ in
theorem vv(F:bG K "keep_new" "Page.keep_new" iR f fd):∅ 6 f fd Ew (mi K mg):=by
 refine F.oj iq ?_;rintro _ A _ _ H _ _ _ j _ _ Y ⟨p,D,rfl,h⟩;refine⟨_,(au (jC aai rfl (Ho (K:=K) rfl (pv 1)) (aP (i:=2) iq.nd rfl (Or.inl rfl))
   (aj (aW (i:=3) iq.nd rfl (Or.inl rfl) (a9 Ah AO j (aa (pv 2) af)))
   (au (dS (PW.pt (sY (tf (dA K rfl (a9 l7 cU j (aa (aJ (K:=K) rfl (pv 0) rfl) (aa (bB (bV.cons az.cl bh c5 bj (bV.cons av.cl aV c5 bj (bV.cons aA.cl bg c5 bj bV.nil))) (pv 3) j) af))))) (qN (BG (Ay Y (bB (bV.cons az.cl bh c5 bj (bV.cons av.cl aV c5 bj (bV.cons aA.cl bg c5 bj bV.nil))) (pv 3) j) (aJ (K:=K) rfl (pv 0) rfl)))))) (au (dw (bO (bV.cons aZ.cl dJ qw j8 bV.nil) (pv 0) j (aa (pv 3) af)))) bP))))),?_⟩
 obtain⟨S,x,O,cs,PA,Q,tl,wf,hl,Z⟩:=h;have lx:O.length=cs.length:=Y7 tl;cbv;let E:Nat->St->Hp->Prop:=λi σ A=>∃l m a,σ=[Ya (.ref p),Ya (.ref D),l,m]/\Off [x.k] H A/\gZ K mg A p {S with kp:=a} x/\FA S.dn S.kp (cs.take i) a;refine CD (xs:=O) E ⟨Yb,Yb,S.kp,rfl,Off.refl _ _,PA,.nil⟩ (λi σ A _ z=>?_) ?_ ?_
 ·obtain⟨_,_,_,_,z,_⟩:=z;exact bI.of (z _ _ Q (Hr Q PA.kp (by intro w;cases w)))
 ·rintro i y σ A hy ⟨l,m,a,rfl,n,d,kr⟩;obtain⟨c,s,tc⟩:=dB tl hy;have kf:mM H A:=n.kpf1 PA.kp trivial;have G:=wf c (YA s);have hi:=(Yj.mp s).1;obtain⟨C,dx,mP,T,hp⟩:=d.ob;have R:=mP;rw[aU]at R;cases R;obtain⟨cl,n1,n2,n3,n4,n5,n6,n7,n8,n9,n10,n11⟩:=id T;cbv;refine⟨y,rfl,c,tc.up kf.smh,G,λA1 pc t ab U=>?_⟩;have v:=d.same t;have I:=t _ _ hp;have J:=v.dn;have ac:=v.kp;have skip:∀{B:Hp},aH A1 B->(c.k<=ct S.dn c.c∨dX c∈a.map λq=>dX q.2)->∃l m a,[Ya (V.ref p),Ya (V.ref D),Ya y,Ya (V.ref pc)]=[Ya (.ref p),Ya (.ref D),l,m]/\Off [x.k] H B/\gZ K mg B p {S with kp:=a} x/\FA S.dn S.kp (cs.take (i+ 1)) a:=fun{B} s' h=>by
   refine⟨_,_,a,rfl,(n.same t).same s',v.same s',?_⟩;rw[aQ s];exact .skip kr h
  cbv;refine Io aD aw aB U λA2 t2 g ad g2=>?_;cbv;refine⟨x.d,t2,rfl,S.dn,_,_,_,.inl (g _ _ J),bI.of g2,?_⟩;cbv;refine dh (λh1=>?_) λh1=>?_
  ·have h1:¬ c.k<=ct S.dn c.c:=by simpa using h1
   have L:=g _ _ I;have o:=U.up (.same g);cbv;refine Io aD aw aB o λA3 t3 r ae g3=>?_;have ag:=r _ _ L;have W:=v.same (g.trans r);have M:=W.kp;cbv;refine⟨x.k,_,rfl,iK.t (k:=dX c) M g3,?_⟩;cbv;refine dh (λh2=>?_) λh2=>?_
   ·have h2:dX c∉a.map λq=>dX q.2:=λz=>by rw[OE.mpr z]at h2;exact absurd h2 (by decide)
    have N:=o.up (.same r);have kl:=kr.len;have lt:(cs.take i).length<=cs.length:=by rw[xj];omega
    cbv;refine⟨p,.ref pc,rfl,_,x,c,W,N,h2,G.c0,G.c1,by show a.length<=900;omega,λA4 o4 P4=>?_⟩;cbv;refine⟨_,_,a++[(.ref pc,c)],rfl,λb u e X=>o4 b u (r _ _ (g _ _ (t _ _ (n b u e X)))) X,P4,?_⟩;rw[aQ s];exact .add kr h1 h2
   ·have h2:dX c∈a.map λq=>dX q.2:=OE.mp (by
     cases w:(eF (a.map Bz) (dX c)).isSome with
     |true=>rfl
     |false=>rw[w]at h2;exact absurd rfl h2)
    exact skip (g.trans r) (.inr h2)
  ·have h1:c.k<=ct S.dn c.c:=by simpa using h1
   exact skip g (.inl h1)
 rintro σ A ⟨l,m,a,rfl,n,d,kr⟩;rw[lx,YY]at kr;exact Z A a n d kr
noncomputable abbrev kO:Y4:=bw (eZ 46) 9
def Vf(tb ls a:List (Int×List (Int×Int))):Prop:=a.map (·.1)=tb.map (·.1)/\∀h∈tb.map (·.1),∀k,ct ((tbl a h).getD []) k=R3 ls h k (ct ((tbl tb h).getD []) k)
theorem Vf.len{ls:List (Int×List (Int×Int))}(h:Vf tb ls Zs):Zs.length=tb.length:=by
 have:=congrArg adu h.1;rw[Yg,Yg]at this;exact this
def LnR(S:Pg)(c:List Nm)(e f:List (Int×List (Int×Int)))(cs:List bK)(S2:Pg):Prop:=∃d a b,FA S.dn S.kp cs d/\Vf S.ta e a/\Vf S.ab f b/\S2={S with kp:=d,od:=if S.od.length<c.length then c else S.od,ta:=a,ab:=b}
def jE(K:Yc)(mg:Yo->Option Yd):Sp:=λn H Q _=>∃(p t:Ye),n=[.ref p,.ref t]/\∃S x g h d f cs,gZ K mg H p S x/\Xp H t g h d f cs/\(∀c∈cs,Wf c/\c.n=S.nu)/\QG S 100/\S.kp.length+ cs.length<=60/\h.length<=100/\d.length<=64/\f.length<=64/\(∀e∈d,Td e.2)/\(∀e∈f,Td e.2)/\
 (g=S.me->∀b l,aH H b->H l=Yb->b l=Ya (.lst [])->Q (.ref l) b)/\
 (g≠S.me->∀b i j k rw l m,Off (x.ft p) H b->(∀a,b a=Yb->H a=Yb)->gZ K mg b p k i->(∀a∈i.ft p,a∈x.ft p∨H a=Yb)->LnR S h d f cs j->JM j k rw->H l=Yb->l∉i.ft p->b l=Ya (.lst m)->Gf b m rw->Q (.ref l) b)
abbrev Ed:List Yo:=["self","piece"]
theorem zv:aE ["self","piece"] Ed (ao kO):=eY
variable{rZ:Ye}{nV:Ye}{qC:YD}{lU:YD}(lC:∅ 8 rZ qC CY (pV K mg))(kY:Binds K qC CY [])(nF:∅ 8 nV lU Ew (mi K mg))(nZ:Binds K lU Ew [])(eW:bx K cS "merge" rZ)(fc:bx K bZ "keep_new" nV)
include eV lC kY kN jV nF nZ eh gK aN aZ aT aU eW fc dM in
theorem yh(F:bG K "listen" "Page.listen" kO f fd):∅ 9 f fd Ed (jE K mg):=by
 refine F.oj zv ?_;rintro _ A _ _ H _ _ _ hr _ _ _ ⟨p,t,rfl,h⟩;refine⟨_,(aj (dS (bo qg (bz (bA (K:=K) rfl) (pv 1) ay (λ_ _=>rfl)) (aJ (K:=K) rfl (pv 0) rfl) (bu _)) (au (aL (dH af))) bP)
   (aj (dw (bO (bV.cons aZ.cl fc nF nZ bV.nil) (pv 0) hr (aa (bz (bA (K:=K) rfl) (pv 1) ay (λ_ _=>rfl)) af)))
   (aj (dS (bo Ot (br (de (K:=K) rfl) (by rfl) eh aat (aa (bz (bA (K:=K) rfl) (pv 1) ay (λ_ _=>rfl)) af)) (br (de (K:=K) rfl) (by rfl) eh aat (aa (aJ (K:=K) rfl (pv 0) rfl) af)) (bu _)) (au (cE (K:=K) rfl (pv 0) (bN (y3 (K:=K) rfl) (by rfl) gK aaX (aa (bz (bA (K:=K) rfl) (pv 1) ay (λ_ _=>rfl)) af)) rfl)) bP)
   (aj (dw (bO (bV.cons aN.cl eW lC kY bV.nil) (aJ (K:=K) rfl (pv 0) rfl) hr (aa (bz (bA (K:=K) rfl) (pv 1) ay (λ_ _=>rfl)) af)))
   (aj (dw (bO (bV.cons aN.cl eW lC kY bV.nil) (aJ (K:=K) rfl (pv 0) rfl) hr (aa (bz (bA (K:=K) rfl) (pv 1) ay (λ_ _=>rfl)) af)))
   (au (aL (bB (bV.cons aZ.cl dM kN jV bV.nil) (pv 0) hr)))))))),?_⟩
 obtain⟨S,x,L,D,la,lb,cs,PA,⟨O,Q,R,U,xo,xa,xb,xt,gt,ar,no,as,av,aw,az,aA,aB⟩,wf,ok,hl,bt,aD,aI,aK,aR,k1,k2⟩:=h;obtain⟨C,dx,mP,T,hp⟩:=PA.ob;have eC:=mP;rw[aU]at eC;cases eC;obtain⟨cl,n1,n2,n3,n4,n5,n6,n7,n8,n9,n10,n11⟩:=id T;have tK:=aN.cl;have nL:=aN.n1;have bv:bI K H t [.int L,.ref O,.ref Q,.ref R,.ref U]:=bI.of gt;refine zt ?_;cbv;refine dh (λz=>?_) λz=>?_
 ·have z:L=S.me:=of_decide_eq_true z;cbv;intro l d aS s1 g1;exact k1 z d l s1 aS g1
 ·have z:¬ L=S.me:=λw=>z (decide_eq_true w);have k2:=k2 z;cbv;refine⟨p,U,rfl,S,x,xt,cs,PA,aA,aB,λc hc=>(wf c hc).1,by omega,λd Zj o1 M kr=>?_⟩;have aV:mM H d:=o1.kpf1 PA.kp trivial;have u1:=aV.smh;have bj:bI K d t [.int L,.ref O,.ref Q,.ref R,.ref U]:=bI.of (u1 _ _ gt);obtain⟨C1,a0,V,_,E⟩:=M.ob;rw[aU]at V;cases V;obtain⟨xq,a3,a4⟩:=M.od;have bE:bc K d x.o xq:=bc.of a3;have bl:bI K d O xo:=bI.of (u1 _ _ ar);have bF:xo.length=D.length:=no.len;have bH:xq.length=S.od.length:=a4.len;refine Be (λσ A=>∃j,σ=[Ya (.ref p),Ya (.ref t)]/\Off [p] d A/\gZ K mg A p {S with kp:=Zj,od:=if S.od.length<D.length then D else S.od} {x with o:=j}/\(j=x.o∨d j=Yb)) ?_ λN Zc=>?_
  ·rintro σ A ⟨j,rfl,oA,g,fo⟩;have a5:mM d A:=oA.kpf1 E (by show(11:Nat)≠5;decide);have uA:=u1.trans a5.smh;obtain⟨CA,bL,W,_,a6⟩:=g.ob;rw[aU]at W;cases W;have bm:bI K A t [.int L,.ref O,.ref Q,.ref R,.ref U]:=bI.of (uA _ _ gt);obtain⟨⟨bR,bS,X,bW⟩,_⟩:=id g.ta;rw[aT]at X;cases X;cbv;refine⟨x.ta,Q,rfl,x.da,x.ra,S.ta,xa,la,g.ta,bI.of (uA _ _ as),iz uA av,aD,aK,λy a7 k m Y e1 e2 Z=>?_⟩;have P3:=g.lra m Y Z;have o3:Off [x.da] A y:=λb u e n=>m b u (λw=>n (Yi.mpr w)) e;have a8:mM A y:=o3.kpf1 g.ta.dc trivial;have u3:=uA.trans a8.smh;obtain⟨C3,bX,ab,_,bZ⟩:=P3.ob;rw[aU]at ab;cases ab;have bn:bI K y t [.int L,.ref O,.ref Q,.ref R,.ref U]:=bI.of (u3 _ _ gt);obtain⟨⟨b0,b1,ac,b2⟩,_⟩:=id P3.ab;rw[aT]at ac;cases ac;cbv;refine⟨x.ab,R,rfl,x.db,x.rb,S.ab,xb,lb,P3.ab,bI.of (u3 _ _ aw),iz u3 az,aI,aR,λH4 ba ad G ae f1 f2 ag=>?_⟩;have P4:=P3.lrb G ae ag;obtain⟨C4,b4,ah,_,b5⟩:=P4.ob;rw[aU]at ah;cases ah;have I:Vf S.ta la k:=⟨e1,e2⟩;have bb:Vf S.ab lb ad:=⟨f1,f2⟩;have kl:=kr.len;cbv;refine⟨p,rfl,_,_,P4,?_,?_,?_,?_,?_,ok.me,?_,λH5 x' S' rw l ys o5 bd P5 be st bf nl gl tv=>?_⟩
   ·intro w;have w:k=[]:=w;have:=I.len;rw[w]at this;exact ok.ne (aaC.mp this.symm)
   ·show k.length<=10;rw[I.len];exact ok.l10
   ·show Zj.length<=60;omega
   ·show(if S.od.length<D.length then D else S.od).length<=300;have:=ok.ol;split<;>omega
   ·show S.tk.length<=800;have:=ok.tl;omega
   ·intro q hq;rcases kr.mem q hq with w|w
    ·exact ok.nu q w
    ·exact(wf _ w).2
   ·have al:∀b u,H b=Ya u->b∉x.ft p->H4 b=Ya u:=λb u e B=>by
     have s:=λh=>B (cv.mpr h);have e1:=o1 b u e (λw=>s (by simp[Yi.mp w]));have eA:=oA b u e1 (λw=>s (.inl (Yi.mp w)));have e3:=m b u (λw=>s (by simp[w])) eA;exact G b u (λw=>s (by simp[w])) e3
    have am:∀a,d a=Yb->H a=none:=λa e=>by
     cases v:H a with
     |none=>rfl
     |some u=>
      by_cases w:a=x.k
      ·rw[w,M.kp]at e;cases e
      ·rw[o1 a u v (by simp[w])]at e;cases e
    have an:∀a,A a=Yb->H a=none:=λa e=>am a (by
     cases v:d a with
     |none=>rfl
     |some u=>
      by_cases w:a=p
      ·rw[w,a6]at e;cases e
      ·rw[oA a u v (by simp[w])]at e;cases e)
    have ap:∀a,y a=Yb->H a=none:=λa e=>an a (by
     cases v:A a with
     |none=>rfl
     |some u=>
      by_cases w:a=x.da
      ·rw[w,Y.dc]at e;cases e
      ·rw[m a u w v]at e;cases e)
    have J:∀a,H4 a=Yb->H a=none:=λa e=>ap a (by
     cases v:y a with
     |none=>rfl
     |some u=>
      by_cases w:a=x.db
      ·rw[w,ae.dc]at e;cases e
      ·rw[G a u w v]at e;cases e)
    have aq:∀a∈({{{x with o:=j}with ra:=a7}with rb:=ba}:RS).ft p,a∈x.ft p∨H a=none:=λa ha=>by
     rcases cv.mp ha with w|w|w|w|w|w|w|w|w|w|w
     ·exact .inl (cv.mpr (by simp[w]))
     ·exact .inl (cv.mpr (by simp[w]))
     ·exact .inl (cv.mpr (by simp[w]))
     ·exact .inl (cv.mpr (by simp[w]))
     ·have w:a=j:=w;rcases fo with v|v
      ·exact .inl (cv.mpr (by simp[w,v]))
      ·exact .inr (w▸am _ v)
     ·exact .inl (cv.mpr (by simp[w]))
     ·exact .inl (cv.mpr (by simp[w]))
     ·exact .inl (cv.mpr (by simp[w]))
     ·exact .inl (cv.mpr (by simp[w]))
     ·obtain⟨q,hq,e⟩:=c9.mp w;rcases Z q hq with v|⟨r,e',v⟩
      ·have:a∈rwa x.ra:=c9.mpr ⟨q,v,e⟩;exact .inl (cv.mpr (by simp[this]))
      ·rw[e]at e';cases e';exact .inr (an _ v)
     ·obtain⟨q,hq,e⟩:=c9.mp w;rcases ag q hq with v|⟨r,e',v⟩
      ·have:a∈rwa x.rb:=c9.mpr ⟨q,v,e⟩;exact .inl (cv.mpr (by simp[this]))
      ·rw[e]at e';cases e';exact .inr (ap _ v)
    refine k2 H5 x' _ S' rw l ys (λb u e B=>o5 b u (al b u e B) (λw=>?_)) (λa e=>J a (bd a e)) P5 (λa ha=>?_) ⟨Zj,k,ad,kr,I,bb,rfl⟩ st (J l bf) nl gl tv
    ·rcases aq b w with v|v
     ·exact B v
     ·rw[e]at v;cases v
    ·rcases be a ha with v|v
     ·exact aq a v
     ·exact .inr (J a v)
  ·cbv;refine dh (λw=>?_) λw=>?_
   ·have w:S.od.length<D.length:=by
     have w:((xq.length:Nat):Int)<((xo.length:Nat):Int):=of_decide_eq_true w;omega
    cbv;intro j H2 i s2 bg;have bh:=s2 _ _ E;cbv;intro y b3 g3;rw[y8]at g3;have P2:=M.same s2;have o3:Off [p] H2 y:=λb u e B=>b3.at (λv=>B (Yi.mpr v)) e;have k3:mM H2 y:=o3.kpf1 bh (by show(11:Nat)≠5;decide);have bi:j≠p:=λv=>by rw[v,E]at i;cases i
    refine Zc _ _ ⟨j,rfl,λb u e B=>o3 b u (s2 _ _ e) B,?_,.inr i⟩;rw[if_pos w];exact P2.newo (ma':=S.ma) o3 ⟨_,a0,mP,T,g3⟩ (b3.at bi bg) (no.up ((u1.trans (dC.same s2)).trans k3.smh)) (λv=>by rw[←v,M.tk]at i;cases i)
   ·have w:¬ S.od.length<D.length:=λv=>w (decide_eq_true (by
     show((xq.length:Nat):Int)<((xo.length:Nat):Int);omega))
    refine Zc _ _ ⟨x.o,rfl,Off.refl _ _,?_,.inl rfl⟩;rw[if_neg w];exact M
noncomputable abbrev wN(x:bK):Nm:=(x.n,x.c,x.k)
theorem IC{α:Type}[DecidableEq α]:∀{l m:List α},l.Nodup->(∀a∈l,a∈m)->l.length<=m.length
 |[],_,_,_=>Y9 _
 |a::l,m,nd,h=>by
  rw[BD]at nd;have ha:=h a Ys;have:=IC (l:=l) (m:=m.erase a) nd.2 λb c=>by
   refine(acU λz:b=a=>nd.1 (z▸c)).mpr (h b (Yr _ c))
  rw[afo ha]at this;have:=afW ha;rw[Y5];omega
structure Kf(hs:List Int)(mk:List bK)(S:Pg):Prop where
 ne:S.ta≠[]
 l10:S.ta.length<=10
 me:S.me∈GB.hl S.ha
 kin:∀q∈S.kp,q.2∈mk
 kl:S.kp.length<=mk.length
 od:S.od.Nodup
 oin:∀n∈S.od,n∈mk.map wN
 tl:S.tk.length+ mz mk S.dn<=mk.length
 dk:∀e∈S.dn,e.1∈hs
structure Qm(hs:List Int)(nu:Int)(mk:List bK):Prop where
 wf:∀c∈mk,Wf c
 nu:∀c∈mk,c.n=nu
 hs:∀c∈mk,c.c∈hs
variable{hs:List Int}
def mH(m:List (Int×Int))(rw:List (V×bK)):Prop:=∀(i:Nat) (q:V×bK),rw[i]?=Ya q->q.2.k=ct (lq m (rw.take i)) q.2.c+ 1/\(q.2.kd=("own":Yo)∨cov (lq m (rw.take i)) (eU q.2.cs)=true)
theorem mH.snoc(h:mH m rw)(hk:q.2.k=ct (lq m rw) q.2.c+ 1)(b:q.2.kd="own"∨cov (lq m rw) (eU q.2.cs)=true):mH m (rw++[q]):=by
 intro i r a;rcases abx i rw.length with z|z
 ·rw[aa1 z]at a;rw[acx (rl z)];exact h i r a
 ·have:i=rw.length:=by
   have:=(Yj.mp a).1;rw[Yu,Y1]at this;omega
  subst this;rw[aaT (Yl _),ad4]at a;have:q=r:=YK a;subst this;rw[afL]
  ·exact⟨hk,b⟩
  ·rfl
theorem JW(h:∀k,ct m k=ct m' k):cov m n=cov m' n:=by
 unfold cov;simp only[h]
theorem S7(h0:∀k,ct m0 k=ct d k)(h:Fw hs (z9 zs) ns m0 rw Zh m):mH d rw/\(∀k,ct m k=ct (lq d rw) k)/\∀q∈rw,q∈zs:=by
 induction h with
 |start=>exact⟨λi q a=>by simp at a,h0,λq a=>nomatch a⟩
 |@step rw Zh m v x f e ih=>
  obtain⟨h,_,l,b⟩:=x9 e;obtain⟨n,c,g⟩:=qR l;have g:x.k=ct m h+ 1:=g;have c:x.c=h:=c;obtain⟨c1,j,o⟩:=ih;refine⟨c1.snoc ?_ ?_,λk=>?_,λq a=>?_⟩
  ·show x.k=ct (lq d rw) x.c+ 1;rw[←j,g,c]
  ·show x.kd="own"∨cov (lq d rw) (eU x.cs)=true;unfold DZ QV at b;rw[adJ,adJ,aim]at b;rcases b.1.2 with z|z
   ·exact .inl (of_decide_eq_true z)
   ·exact .inr (by rw[←JW j];exact z)
  ·rw[lR,tD,tD];by_cases z:k=x.c
   ·rw[if_pos z,if_pos z]
   ·rw[if_neg z,if_neg z];exact j k
  ·rcases YM.mp a with z|z
   ·exact o q z
   ·rw[Yi.mp z];exact n
theorem Dr(zs:List (V×bK)):(zs.map (·.1)).zip (zs.map (·.2))=zs:=by
 rw[agS];exact adj zs
theorem Ln(h:Rn (zs.map (·.1)) (zs.map (·.2)) m ns rw m'):mH m rw/\∀q∈rw,q∈zs:=by
 obtain⟨hs,a,b,_,_,e,f,_⟩:=h;rw[Dr]at f;have:=S7 e f;exact⟨this.1,this.2.2⟩
theorem Tz:∀{rw:List (V×bK)},mH m rw->(∀q∈rw,q.2∈mk)->rw.length+ mz mk (lq m rw)<=mz mk m:=by
 intro rw;generalize e:rw.length=n
 induction n generalizing rw with
 |zero=>
  intro _ _;rw[aaC.mp e];show 0+ mz mk m<=mz mk m;omega
 |succ n ih=>
  intro h hm;have ne:rw≠[]:=λz=>by rw[z]at e;cases e
  obtain⟨l,q,rfl⟩:∃l q,rw=l++[q]:=⟨rw.dropLast,rw.getLast ne,(aeo ne).symm⟩;have b:l.length=n:=by rw[Yu,Y1]at e;omega
  have h1:mH m l:=λi r a=>by
   have c:=(Yj.mp a).1;have:=h i r (by rw[aa1 c];exact a);rw[acx (rl c)]at this;exact this
  have f:=ih b h1 λr a=>hm r (YU _ a);have d:=(h n q (by rw[aaT (by omega),b,ad4];rfl)).1;rw[afL b]at d;have:=Mj (cs:=mk) (m:=lq m l) (hm q (YH _ (Yi.mpr rfl))) d;rw[lR];omega
theorem Ar{k v:Int}:∀{m:List (Int×Int)} {e:Int×Int},e∈d3 m k v->e.1=k∨∃a∈m,a.1=e.1
 |[],e,h=>by
  have:e=(k,v):=by simpa [d3]using h
  exact .inl (by rw[this])
 |p::m,e,h=>by
  unfold d3 at h;by_cases z:p.1=k
  ·rw[if_pos z]at h;rcases Yn.mp h with w|w
   ·exact .inl (by rw[w];exact z)
   ·exact .inr ⟨e,Yr _ w,rfl⟩
  ·rw[if_neg z]at h;rcases Yn.mp h with w|w
   ·exact .inr ⟨p,Ys,by rw[w]⟩
   ·exact(Ar w).imp id fun⟨a,h1,h2⟩=>⟨a,Yr _ h1,h2⟩
theorem N8(h0:∀e∈m,e.1∈hs):∀{rw:List (V×bK)},(∀q∈rw,q.2.c∈hs)->∀e∈lq m rw,e.1∈hs:=by
 intro rw;unfold lq
 induction rw generalizing m with
 |nil=>intro _;exact h0
 |cons q rw ih=>
  intro b;refine ih (m:=d3 m q.2.c q.2.k) (λe c=>?_) λr d=>b r (Yr _ d);have:=Ar c;rcases this with z|z
  ·rw[z];exact b q Ys
  ·obtain⟨f,a,g⟩:=z;rw[←g];exact h0 f a
theorem Wx{T:List Nm}(hz:∀q∈zs,wN q.2∈T)(nd:ns.Nodup)(hn:∀n∈ns,n∈T)(h:Pw (zs.map (·.1)) (zs.map (·.2)) m ns Zv gs m'):gs.Nodup/\∀n∈gs,n∈T:=by
 induction h with
 |start _=>exact⟨nd,hn⟩
 |@step Zv rw gs m1 m2 q j p la fo rn ih=>
  obtain⟨i,l⟩:=ih;obtain⟨g,o,_⟩:=la;rw[Dr]at g;refine⟨?_,λn d=>?_⟩
  ·rw[KW];refine⟨i.sublist (acy _ _),by simp,λa ha b f z=>?_⟩;have f:b=(q.2.n,q.2.c,q.2.k):=by simpa using f
   obtain⟨k,c⟩:=YS ha;rw[ahf]at c;by_cases w:k<j
   ·rw[if_pos w]at c;obtain⟨r,e⟩:=Yj.mp c;have:=fo.2.1 k r w;rw[e,z,f]at this;have this:q.2.k<=ct m1 q.2.c:=this;have:=(B7 o).2;omega
   ·rw[if_neg w]at c;cases c
  ·rcases YM.mp d with z|z
   ·exact l n (acV z)
   ·rw[Yi.mp z];exact hz q g
theorem MQ{nu:Int}(M:Qm hs nu mk)(h:Kf hs mk S)(st:JM S S' rw):Kf hs mk S'/\mH S.dn rw/\(∀q∈rw,q.2∈mk)/\S'.dn=lq S.dn rw/\S'.me=S.me/\S'.nu=S.nu/\S'.ha=S.ha/\S'.ro=S.ro/\S'.ma=S.ma/\∀q∈S'.kp,q∈S.kp:=by
 obtain⟨v,i,w,x,d,k,b,j,g,_,l,m,o,y,f,p,A,rfl⟩:=st;obtain⟨c1,r⟩:=Ln f;have c:∀q∈rw,q.2∈mk:=λq a=>h.kin q (g.mem_iff.mp (r q a));have lt:b.length=S.ta.length:=by
  have:=congrArg adu p.keys;rw[Yg,Yg]at this;exact this
 have e:d.Nodup/\∀n∈d,n∈mk.map wN:=by
  by_cases z:Ac S.ha=.int S.me
  ·obtain⟨s,B,t,_⟩:=m z;exact Wx (λq a=>YV (h.kin q (g.mem_iff.mp a))) h.od h.oin t
  ·rw[l z];exact⟨h.od,h.oin⟩
 have u:=Tz c1 c;have tl:=h.tl;refine⟨⟨λz=>?_,by show b.length<=10;rw[lt];exact h.l10,h.me,λq a=>h.kin q (cw.mp a).1,xy (Y0 _ _) h.kl,e.1,e.2,?_,N8 h.dk λq a=>M.hs _ (c q a)⟩,c1,c,rfl,rfl,rfl,rfl,rfl,rfl,λq a=>(cw.mp a).1⟩
 ·have z:b=[]:=z;rw[z]at lt;exact h.ne (aaC.mp lt.symm)
 ·show(S.tk++rw).length+ mz mk (lq S.dn rw)<=mk.length;rw[Yu];omega
noncomputable abbrev jA:Y4:=eZ 48
noncomputable abbrev mY:Y4:=eZ 49
noncomputable abbrev nD:Y4:=eZ 50
def nO(K:Yc):Sp:=λb H Q _=>∃(a:Ye) (k:Int),b=[.ref a,.int k]/\∃ns:List Int,bc K H a (ns.map V.int)/\0<=k/\∀c:Int,Q (.int c) H
abbrev ES:List Yo:=["_law_script","_law_k"]
theorem xG:aE ["_law_script","_law_k"] ES (ao jA):=eY
include eV eh in
theorem xI(F:bG K "_law_cell_at" "_law_cell_at" jA f fd):∅ 1 f fd ES (nO K):=by
 refine F.oj xG ?_;rintro _ _ _ _ _ _ _ _ _ _ _ _ ⟨a,k,rfl,h⟩;refine⟨_,(aj (dS (bo yE (pv 1) (br (de (K:=K) rfl) (by rfl) eh aat (aa (pv 0) af)) (bu _)) (au (aL (bz (bT (K:=K) rfl) (pv 0) (pv 1) (λ_ _=>rfl)))) bP)
   (au (aL ay))),?_⟩
 obtain⟨ns,d,h0,q⟩:=h;cbv;refine dh (λh1=>?_) λh1=>?_
 ·have h1:k<((ns.map V.int).length:Nat):=of_decide_eq_true h1;rw[Yg]at h1;have b:k.toNat<ns.length:=by omega
  have c:u5 (ns.map V.int) k=Ya (V.int ns[k.toNat]):=IL h0 (by rw[Yy,Yk b];rfl);cbv;exact q _
 ·cbv;exact q _
def rO(K:Yc):Sp:=λa H Q _=>∃(c k:Int),a=[.int c,.int k]/\0<=k/\k<=100/\∀r:Int,0<=r->r<2147483647->Q (.int r) H
abbrev CZ:List Yo:=["_law_cell","_law_k"]
theorem rU:aE ["_law_cell","_law_k","_law_number"] CZ (ao mY):=eY
include eV in
theorem zR(F:bG K "_law_mixed" "_law_mixed" mY f fd):∅ 1 f fd CZ (rO K):=by
 refine F.oj rU ?_;rintro _ _ _ _ _ _ _ _ _ _ _ _ ⟨c,k,rfl,h⟩;refine⟨_,(aj (aW (i:=2) rU.nd rfl (Or.inl rfl) (aX c8 (aX vx (aX eG (aX eG (aX c8 (pv 0) ay) (aX vx ay (pv 1))) ay) ay) ay))
   (au (aL (aX c8 (aX vx (pv 2) (aX eG (aX gF (pv 2) ay) ay)) ay)))),?_⟩
 obtain⟨h0,h1,a⟩:=h;have c0:=aae c (show(2147483647:Int)≠0 by decide);have c1:=aag c (show(0:Int)<2147483647 by decide);have e:Cz 7919 k:=.inl ⟨by decide,by decide⟩;have g:Cz (c%2147483647+ 7919*k+ 1) 48271:=.inl ⟨by omega,by omega⟩;have b:=aae ((c%2147483647+ 7919*k+ 1)*48271) (show(2147483647:Int)≠0 by decide);have d:=aag ((c%2147483647+ 7919*k+ 1)*48271) (show(0:Int)<2147483647 by decide);generalize hz:((c%2147483647+ 7919*k+ 1)*48271)%2147483647=z at b d;have j:Cz z (z / 1009+ 69621):=.inl ⟨by omega,by omega⟩;cbv;rw[hz];cbv;exact a _ (aae _ (by decide)) (aag _ (by decide))
noncomputable def hnd(a b:Int)(n:Nat):List Int:=(YR n).map fun(k:Nat)=>a+ (k:Int)*b
theorem UZ{a b:Int}{n:Nat}(h0:0<=a)(h1:a<40)(f:1<=b)(g:b<=7)(hn:n<=4):Hs (hnd a b n):=by
 refine⟨?_,λx c=>?_⟩
 ·unfold hnd;rw[abb];refine acr.imp fun{i j} h=>?_;have:((i:Int)+ 1)*b<=(j:Int)*b:=ad6 (by omega) (by omega);have e:((i:Int)+ 1)*b=(i:Int)*b+ b:=by rw[Int.add_mul,ahD]
  omega
 ·unfold hnd at c;obtain⟨k,d,rfl⟩:=YC.mp c;have d:=xu.mp d;have l:0<=(k:Int)*b:=Int.mul_nonneg (by omega) (by omega);have m:(k:Int)*b<=3*b:=ad6 (by omega) (by omega);omega
def rL(K:Yc):Sp:=λe H Q _=>∃(c n:Int),e=[.int c,.int n]/\2<=n/\n<=4/\∀d l a b,aH H d->H l=Yb->0<=a->a<40->1<=b->b<=7->d l=Ya (.lst ((hnd a b n.toNat).map V.int))->Q (.ref l) d
abbrev Fq:List Yo:=["_law_cell","_law_amount"]
theorem zT:aE ["_law_cell","_law_amount"] Fq (ao nD):=eY
include eV jd in
theorem zZ(F:bG K "_law_hands" "_law_hands" nD f fd):∅ 1 f fd Fq (rL K):=by
 refine F.oj zT ?_;rintro _ A _ _ H _ _ _ _ _ _ _ ⟨c,n,rfl,h⟩;refine⟨_,(au (aL (bM ["_law_cell","_law_k"] [Ya 0,Yb] rfl rfl (by kernel_rfl) (qL rfl jd (aa (pv 1) af)) (λ_ _ _ _ _ nd=>aP (i:=1) nd rfl (Or.inl rfl)) (λ_ _ _ _ _=>eE) (λ_ _ _ _ _=>(aX eG (aX c8 (pv 0) ay) (aX vx (pv 1) (aX eG ay (aX c8 (aX gF (pv 0) ay) ay)))))))),?_⟩;obtain⟨h0,h1,j⟩:=h;obtain⟨N,rfl⟩:=aaR (show 0<=n by omega);have k:=aae c (show(40:Int)≠0 by decide);have l:=aag c (show(0:Int)<40 by decide);have m:=aae (c / 40) (show(7:Int)≠0 by decide);have p:=aag (c / 40) (show(0:Int)<7 by decide);cbv;refine⟨_,rfl,by omega,by omega,λD a=>?_⟩;refine sD (λi σ A=>∃v,σ=[Ya (.int c),v]/\aH H A/\A D=Ya (.lst ((hnd (c%40) (1+ c / 40%7) i).map V.int))) ⟨Yb,rfl,aC a,ai⟩ ?_ ?_
 ·rintro i σ A g ⟨v,rfl,d,e⟩;have g:i<N:=by simpa using g
  have q:Cz (0+ (i:Int)) (1+ c / 40%7):=.inl ⟨by omega,by omega⟩;cbv;refine⟨_,e,?_,_,rfl,λb o z=>?_,?_⟩
  ·rw[Yg];unfold hnd;rw[Yg,oh];exact aG (by omega)
  ·rw[ak (ax z a)];exact d b o z
  ·rw[ai];unfold hnd;rw[abw,Yx,Yx,afq];rfl
 rintro σ A ⟨v,rfl,d,e⟩;cbv;exact j A D _ _ d a k l (by omega) (by omega) e
noncomputable abbrev m9:Y4:=eZ 51
abbrev PW:=Ye×Pg×RS
variable{W W':List PW}{w':PW}
noncomputable def tu(w:PW):List Ye:=w.2.2.ft w.1
structure Wd(K:Yc)(mg:Yo->Option Yd)(H:Hp)(hs:List Int)(nu gr:Int)(W:List PW)(mk:List bK):Prop where
 ho:Hs hs
 len:W.length=hs.length
 pg:∀(i:Nat) (w:PW),W[i]?=Ya w->gZ K mg H w.1 w.2.1 w.2.2
 dj:∀(i j:Nat) (u v:PW),W[i]?=Ya u->W[j]?=Ya v->i≠j->∀a∈tu u,a∉tu v
 st:∀(i:Nat) (w:PW),W[i]?=Ya w->hs[i]?=Ya w.2.1.me/\w.2.1.nu=nu/\w.2.1.ha=gr
 ok:∀(i:Nat) (w:PW),W[i]?=Ya w->Kf hs mk w.2.1
 mo:Qm hs nu mk
 ma:∀(i:Nat) (w:PW),W[i]?=Ya w->w.2.1.ma=(((mk.filter λc=>decide (c.c=w.2.1.me)).length:Nat):Int)
 mx:∀c∈mk,∀(i:Nat) (w:PW),W[i]?=Ya w->c.c=w.2.1.me->c.k<=w.2.1.ma
section
variable{nu gr:Int}
theorem Wd.tr(D:Wd K mg H hs nu gr W mk){w:PW}(h:W[i]?=Ya w)(ha:a∈tu w):∃o,H a=Ya o/\Vc o:=(D.pg i w h).fto a ha
theorem Wd.off(D:Wd K mg H hs nu gr W mk)(o:Off F H H')(k:mM H H')(n:∀(i:Nat) (w:PW),W[i]?=Ya w->∀a∈tu w,a∉F):Wd K mg H' hs nu gr W mk:=
 ⟨D.ho,D.len,λi w h=>(D.pg i w h).off o k (n i w h),D.dj,D.st,D.ok,D.mo,D.ma,D.mx⟩
theorem Wd.same(D:Wd K mg H hs nu gr W mk)(s:aH H H'):Wd K mg H' hs nu gr W mk:=D.off (F:=[]) (Off.of s) (.same s) λ_ _ _ _ _ z=>nomatch z
theorem Wd.put(D:Wd K mg H hs nu gr W mk){w:PW}(h:W[i]?=Ya w)(o:Off (tu w) H H')(P:gZ K mg H' w.1 S' x')(ft:∀a∈x'.ft w.1,a∈tu w∨H a=Yb)(mo:Qm hs nu mk')(d:S'.me=w.2.1.me/\S'.nu=w.2.1.nu/\S'.ha=w.2.1.ha)(ok:Kf hs mk' S')(l:∀(j:Nat) (u:PW),W[j]?=Ya u->j≠i->Kf hs mk' u.2.1)(ma:S'.ma=(((mk'.filter λc=>decide (c.c=w.2.1.me)).length:Nat):Int))(m:∀(j:Nat) (u:PW),W[j]?=Ya u->j≠i->u.2.1.ma=(((mk'.filter λc=>decide (c.c=u.2.1.me)).length:Nat):Int))(mx:∀c∈mk',c.c=w.2.1.me->c.k<=S'.ma)(p:∀c∈mk',∀(j:Nat) (u:PW),W[j]?=Ya u->j≠i->c.c=u.2.1.me->c.k<=u.2.1.ma):Wd K mg H' hs nu gr (W.set i (w.1,S',x')) mk':=by
 have t:=(Yj.mp h).1;have x:mM H H':=ja o λa ha=>D.tr h ha;have cs:∀{j:Nat} {u:PW},(W.set i (w.1,S',x'))[j]?=Ya u->(j=i/\u=(w.1,S',x'))∨(j≠i/\W[j]?=Ya u):=fun{j u} e=>by
  rw[aaB]at e;by_cases z:i=j
  ·rw[if_pos z,if_pos t]at e;exact .inl ⟨z.symm,(YK e).symm⟩
  ·rw[if_neg z]at e;exact .inr ⟨λy=>z y.symm,e⟩
 have g:∀{j:Nat} {u:PW},W[j]?=Ya u->j≠i->∀a∈tu u,a∉x'.ft w.1:=fun{j u} e n a ha r=>by
  rcases ft a r with z|z
  ·exact D.dj j i u w e h n a ha z
  ·obtain⟨_,q,_⟩:=D.tr e ha;rw[q]at z;cases z
 refine⟨D.ho,by rw[aiC];exact D.len,λj u e=>?_,λj k u v e f n a ha=>?_,λj u e=>?_,λj u e=>?_,mo,λj u e=>?_,λc s j u e=>?_⟩
 ·rcases cs e with⟨_,rfl⟩|⟨n,e⟩
  ·exact P
  ·exact(D.pg j u e).off o x λa ha=>D.dj j i u w e h n a ha
 ·rcases cs e with⟨rfl,rfl⟩|⟨n1,e⟩
  ·rcases cs f with⟨rfl,rfl⟩|⟨n2,f⟩
   ·exact absurd rfl n
   ·exact λr=>g f n2 a r ha
  ·rcases cs f with⟨z,rfl⟩|⟨n2,f⟩
   ·exact g e n1 a ha
   ·exact D.dj j k u v e f n a ha
 ·rcases cs e with⟨rfl,rfl⟩|⟨_,e⟩
  ·obtain⟨a,b,c⟩:=D.st j w h;exact⟨by rw[a];show _=Ya S'.me;rw[d.1],d.2.1.trans b,d.2.2.trans c⟩
  ·exact D.st j u e
 ·rcases cs e with⟨_,rfl⟩|⟨n,e⟩
  ·exact ok
  ·exact l j u e n
 ·rcases cs e with⟨_,rfl⟩|⟨n,e⟩
  ·show S'.ma=(((mk'.filter λc=>decide (c.c=S'.me)).length:Nat):Int);rw[d.1];exact ma
  ·exact m j u e n
 ·rcases cs e with⟨_,rfl⟩|⟨n,e⟩
  ·exact λz=>mx c s (by rw[←d.1];exact z)
  ·exact p c s j u e n
theorem Wd.put0(D:Wd K mg H hs nu gr W mk){w:PW}(h:W[i]?=Ya w)(o:Off (tu w) H H')(P:gZ K mg H' w.1 S' x')(ft:∀a∈x'.ft w.1,a∈tu w∨H a=Yb)(d:S'.me=w.2.1.me/\S'.nu=w.2.1.nu/\S'.ha=w.2.1.ha)(ok:Kf hs mk S')(ma:S'.ma=w.2.1.ma):Wd K mg H' hs nu gr (W.set i (w.1,S',x')) mk:=
 D.put h o P ft D.mo d ok (λj u e _=>D.ok j u e) (ma.trans (D.ma i w h)) (λj u e _=>D.ma j u e) (λc b z=>by rw[ma];exact D.mx c b i w h z) λc b j u e _ z=>D.mx c b j u e z
end
def rW(K:Yc)(mg:Yo->Option Yd):Sp:=λd H Q _=>∃(a:Ye),d=[.ref a]/\∃ns:List Int,bc K H a (ns.map V.int)/\
 ∀b t c ap hs nu gr W,aH H b->b t=Ya (.tup [.ref c,.int nu,.ref ap])->b c=Ya (.lst (hs.map V.int))->b ap=Ya (.lst (W.map λw=>V.ref w.1))->Wd K mg b hs nu gr W []->2<=hs.length->hs.length<=4->GB.hl gr=hs->(∀(i:Nat) (w:PW),W[i]?=Ya w->(∃ro,w.2.1=Pg.new w.2.1.me nu gr ro)/\∀a∈tu w,H a=Yb/\a≠c/\a≠ap)->H c=Yb->H ap=Yb->Q (.ref t) b
abbrev wB:List Yo:=["_law_script"]
theorem iC:aE ["_law_script","_law_hands_here","_law_number","_law_group"] wB (ao m9):=eY
variable{nM:Ye}{qr:Ye}{t5:Ye}{lM:YD}{nU:YD}{rN:YD}(oC:∅ 6 nM lM Fh (mq K mg))(oK:Binds K lM Fh [])(eJ:∅ 7 qr nU ES (nO K))(eR:d6 K mg "_law_cell_at" qr nU ES)(tW:∅ 7 t5 rN Fq (rL K))(tU:d6 K mg "_law_hands" t5 rN Fq)(R0:mg "sum"=Yb)(Cy:Mk K bZ nM)
include eV oC oK eJ eR tW tU R0 aZ aU Cy in
theorem Ae(F:bG K "_law_pages" "_law_pages" m9 f fd):∅ 8 f fd wB (rW K mg):=by
 refine F.oj iC ?_;rintro _ A _ _ H _ _ E p _ _ _ ⟨a,rfl,h⟩;refine⟨_,(aj (aW (i:=1) iC.nd rfl (Or.inl rfl) (a9 tW tU p (aa (aX gF (a9 eJ eR p (aa (pv 0) (aa ay af))) ay) (aa (aX eG ay (aX c8 (a9 eJ eR p (aa (pv 0) (aa ay af))) ay)) af))))
   (aj (aW (i:=2) iC.nd rfl (Or.inr rfl) (aX c8 (a9 eJ eR p (aa (pv 0) (aa ay af))) (aX eG (aX CH ay ay) ay)))
   (aj (aW (i:=3) iC.nd rfl (Or.inr rfl) (br (Kj rfl) (by rfl) R0 ajJ (aa (bM ["_law_hand"] [Yb] rfl rfl (by kernel_rfl) (bC (K:=K) rfl (pv 1)) (λ_ _ _ _ _ nd=>aP (i:=0) nd rfl (Or.inl rfl)) (λ_ _ _ _ _=>eE) (λ_ _ _ _ _=>(aX Me ay (pv 0)))) af)))
   (au (aL (cC (aa (pv 1) (aa (pv 2) (aa (bM ["_law_number","_law_group","_law_script","_law_hand"] [Ya 2,Ya 3,Ya 0,Yb] rfl rfl (by kernel_rfl) (bC (K:=K) rfl (pv 1)) (λ_ _ _ _ _ nd=>aP (i:=3) nd rfl (Or.inl rfl)) (λ_ _ _ _ _=>eE) (λ_ _ _ _ _=>(qO Cy oC p rfl aU oK .nil nQ (aa (pv 3) (aa (pv 0) (aa (pv 1) (aa (aX eG ay (aX c8 (a9 eJ eR p (aa (pv 2) (aa ay af))) ay)) af))))))) af))))))))),?_⟩
 obtain⟨ns,hS,kk⟩:=h;cbv;refine⟨a,0,rfl,ns,hS,by decide,λc0=>?_⟩;cbv;refine⟨a,0,rfl,ns,hS,by decide,λr=>?_⟩;cbv;have q0:=aae r (show(3:Int)≠0 by decide);have q1:=aag r (show(0:Int)<3 by decide);refine⟨c0 / 3,2+ r%3,rfl,by omega,by omega,λH1 ah ha d s1 ae a0 a1 b1 b7 B=>?_⟩;obtain⟨hs,Hh,lh,ag⟩:∃hs,Hs hs/\hs.length=(2+ r%3).toNat/\hs=hnd ha d (2+ r%3).toNat:=⟨_,UZ a0 a1 b1 b7 (by omega),by unfold hnd;rw[Yg,oh],rfl⟩;rw[←ag]at B;have Q:=s1.seq hS;have aD:=Lr;have aB:Ox 10 18:=⟨by decide,by decide,by decide⟩;cbv;refine⟨a,1,rfl,ns,Q,by decide,λc1=>?_⟩;cbv;intro D0 R;refine bD (K:=K) (a:=ah) (xs:=hs.map V.int) (λi σ H'=>∃v,σ=[v]/\aH H1 H'/\H' D0=Ya (.lst (((hs.take i).map λh=>1*(2:Int)^h.toNat).map V.int))) ⟨Yb,rfl,aC R,ai⟩ ?_ ?_ ?_
 ·rintro i σ H' _ ⟨_,_,z,_⟩;exact bc.of (z _ _ B)
 ·rintro i x σ H' hx ⟨v,rfl,sm,al⟩;obtain⟨h,C,rfl⟩:=gz hx;have hi:=(Yj.mp C).1;have p:=Hh.rg h (YA C);have cp:Ox 1 h:=⟨p.1,by omega,by decide⟩;cbv;refine⟨_,al,?_,_,rfl,λb o z=>?_,?_⟩
  ·rw[Yg,Yg,xj];exact aG (by omega)
  ·rw[ak (ax z R)];exact sm b o z
  ·rw[ai,aQ C,Yx,Yx];rfl
 rintro σ H2 ⟨v,rfl,S,T⟩;rw[show hs.take (hs.map V.int).length=hs by rw[Yg,YY]]at T;obtain⟨n0,n1,n2⟩:=Hh.set;refine⟨D0,_,rfl,bc.of T,?_⟩;generalize ((hs.map λh=>1*(2:Int)^h.toNat)).sum=gr at n0 n1 n2⊢;obtain⟨nu,am⟩:∃nu:Int,nu=c1%(10^abR 18+ 1):=⟨_,rfl⟩;rw[←am];have an:=S.seq Q;have m:=S _ _ B;cbv;intro E U;have aI:ah≠E:=λz=>by rw[←z,m]at U;cases U
 let ap:Nat->St->Hp->Prop:=λi σ A=>∃v W,σ=[Ya (.int nu),Ya (.int gr),Ya (.ref a),v]/\aH H2 A/\A E=Ya (.lst ((W:List PW).map λw=>V.ref w.1))/\W.length=i/\(∀(j:Nat) (w:PW),W[j]?=Ya w->gZ K mg A w.1 w.2.1 w.2.2/\(∃h ro,hs[j]?=Ya h/\w.2.1=Pg.new h nu gr ro)/\∀b∈tu w,H2 b=Yb/\b≠E)/\∀(j k:Nat) (u w:PW),W[j]?=Ya u->W[k]?=Ya w->j≠k->∀b∈tu u,b∉tu w;refine bD (K:=K) (a:=ah) (xs:=hs.map V.int) ap ⟨Yb,[],rfl,aC U,ai,rfl,(λj w e=>by simp at e),λj k u w e=>by simp at e⟩ ?_ ?_ ?_
 ·rintro i σ A _ ⟨_,_,_,z,_⟩;exact bc.of (z _ _ m)
 ·rintro i y σ A hy ⟨v,W,rfl,M,N,X,l,dj⟩;obtain⟨h,C,rfl⟩:=gz hy;have hi:=(Yj.mp C).1;have p:=Hh.rg h (YA C);have aq:=M.seq an;cbv;refine⟨a,2,rfl,ns,aq,by decide,λc2=>?_⟩;cbv;intro q dx A1 O g g1;refine⟨q,h,nu,gr,1+ c2%5,rfl,_,dx,aU,aZ,g1,n0,n1,p.1,p.2,λY Z k2 P2 ar=>⟨rfl,?_⟩⟩;have ab:q≠E:=λz=>by rw[z,N]at O;cases O
  have ac:Y E=Ya (.lst (W.map λw=>V.ref w.1)):=k2 _ _ (g _ _ N) (Ne.symm ab);have D:Off [E] A (upd Y E (.lst (W.map (λw=>V.ref w.1)++[V.ref q]))):=λb o e G=>by
   have G:b≠E:=λz=>G (Yi.mpr z);rw[ak G];exact k2 _ _ (g _ _ e) (λz=>by rw[z,O]at e;cases e)
  have as:mM A _:=D.kpf1 N trivial;have ad:Off [E] Y (upd Y E (.lst (W.map (λw=>V.ref w.1)++[V.ref q]))):=λb o e G=>by
   rw[ak λz=>G (Yi.mpr z)];exact e
  have av:mM Y _:=ad.kpf1 ac trivial;have fr:∀b∈Z.ft q,A b=Yb/\b≠E:=λb d=>by
   rcases ar b d with z|z
   ·rw[z];exact⟨O,ab⟩
   ·exact⟨g.free z,λw=>by rw[w,g _ _ N]at z;cases z⟩
  have s:∀{j:Nat} {w:PW},W[j]?=Ya w->∀b∈tu w,b∉Z.ft q:=fun{j w} e b d I=>by
   obtain⟨o,q1,_⟩:=(l j w e).1.fto b d;rw[(fr b I).1]at q1;cases q1
  have cs:∀{j:Nat} {u:PW},(W++[(q,Pg.new h nu gr (1+ c2%5),Z)])[j]?=Ya u->(W[j]?=Ya u)∨(j=i/\u=(q,Pg.new h nu gr (1+ c2%5),Z)):=fun{j u} e=>by
   rcases abx j W.length with z|z
   ·rw[aa1 z]at e;exact .inl e
   ·have hj:=(Yj.mp e).1;rw[Yu,Y1]at hj;have:j=W.length:=by omega
    subst this;rw[aaT (Yl _),ad4]at e;exact .inr ⟨X,(YK e).symm⟩
  refine⟨_,ac,aG (by rw[Yg];omega),_,W++[(q,Pg.new h nu gr (1+ c2%5),Z)],rfl,λb o e=>?_,by rw[ai,Yx];rfl,by rw[Yu,X];rfl,λj u e=>?_,λj k u w e f n b d=>?_⟩
  ·have G:b≠E:=λz=>by rw[z,U]at e;cases e
   exact D b o (M b o e) (λz=>G (Yi.mp z))
  ·rcases cs e with e|⟨rfl,rfl⟩
   ·obtain⟨p1,p2,p3⟩:=l j u e;exact⟨p1.off D as λb d z=>(p3 b d).2 (Yi.mp z),p2,p3⟩
   ·exact⟨P2.off ad av λb d z=>(fr b d).2 (Yi.mp z),⟨h,_,C,rfl⟩,λb d=>⟨M.free (fr b d).1,(fr b d).2⟩⟩
  ·rcases cs e with e|⟨rfl,rfl⟩
   ·rcases cs f with f|⟨rfl,rfl⟩
    ·exact dj j k u w e f n b d
    ·exact s e b d
   ·rcases cs f with f|⟨z,rfl⟩
    ·exact λI=>s f b I d
    ·exact absurd z.symm n
 rintro σ A ⟨v,W,rfl,M,N,X,l,dj⟩;rw[Yg]at X;cbv;intro t A1 ht g g1;have aw:aH H A:=s1.trans (S.trans M);have az:(GB.hl gr).length<=10:=by rw[n2];omega
 have aA:hs≠[]:=λz=>by rw[z]at lh;rw[abd]at lh;omega
 refine kk A1 t ah E hs nu gr W (aw.trans g) g1 (g _ _ (M _ _ m)) (g _ _ N) ⟨Hh,X,λi w e=>(l i w e).1.same g,dj,λi w e=>?_,λi w e=>?_,⟨(λc J=>nomatch J),(λc J=>nomatch J),λc J=>nomatch J⟩,λi w e=>?_,λc J=>nomatch J⟩ (by omega) (by omega) n2 (λi w e=>?_) ae (s1.free (S.free U))
 ·obtain⟨_,⟨h,ro,e1,L⟩,_⟩:=l i w e;rw[L];exact⟨e1,rfl,rfl⟩
 ·obtain⟨_,⟨h,ro,e1,L⟩,_⟩:=l i w e;rw[L];refine⟨?_,?_,?_,(λq O=>nomatch O),Yl _,.nil,(λn hn=>nomatch hn),Yl _,λe he=>nomatch he⟩
  ·show((GB.hl gr).map λh=>(h,([]:List (Int×Int))))≠[];rw[n2];intro z;exact aA (ace.mp z)
  ·show((GB.hl gr).map λh=>(h,([]:List (Int×Int)))).length<=10;rw[Yg];exact az
  ·show h∈GB.hl gr;rw[n2];exact YA e1
 ·obtain⟨_,⟨h,ro,e1,L⟩,_⟩:=l i w e;rw[L];rfl
 ·obtain⟨_,⟨h,ro,e1,L⟩,e3⟩:=l i w e;refine⟨⟨ro,by rw[L];rfl⟩,λb d=>⟨s1.free (S.free (e3 b d).1),λz=>?_,(e3 b d).2⟩⟩;have:=(e3 b d).1;rw[z,m]at this;cases this
def CF(m a:List (Int×Int)):Prop:=∀k,ct m k<=ct a k
theorem CF.refl(m:List (Int×Int)):CF m m:=λ_=>aaW _
theorem CF.trans{a b c:List (Int×Int)}(x:CF a b)(y:CF b c):CF a c:=λk=>ab8 (x k) (y k)
structure Xt(nu:Int)(mk:List bK):Prop where
 un:(mk.map wN).Nodup
 ps:∀c∈mk,0<c.k
 nn:∀c∈mk,c.n=nu
theorem Xt.inj{nu:Int}(u:Xt nu mk){d:bK}(f:c∈mk)(hd:d∈mk)(q:c.c=d.c)(r:c.k=d.k):c=d:=by
 obtain⟨i,g⟩:=YS f;obtain⟨j,e⟩:=YS hd;obtain⟨h,k⟩:=Yj.mp g;obtain⟨l,m⟩:=Yj.mp e;have n:wN c=wN d:=by
  show(c.n,c.c,c.k)=(d.n,d.c,d.k);rw[u.nn c f,u.nn d hd,q,r]
 by_cases z:i=j
 ·subst z;rw[g]at e;exact YK e
 ·exfalso;have o:∀a b (ha:a<mk.length) (p:b<mk.length),a<b->wN mk[a]≠wN mk[b]:=λa b ha p ab=>by
   have:=tq.mp u.un a b (by rw[Yg];exact ha) (by rw[Yg];exact p) ab;rw[ab9,ab9]at this;exact this
  rcases aey z with w|w
  ·exact o i j h l w (by rw[k,m];exact n)
  ·exact o j i l h w (by rw[k,m];exact n.symm)
theorem mH.ind{C:List (V×bK)->Prop}(h0:C [])(hs:∀l q,C l->q.2.k=ct (lq m l) q.2.c+ 1->C (l++[q])):∀{rw:List (V×bK)},mH m rw->C rw:=by
 intro rw;generalize e:rw.length=n
 induction n generalizing rw with
 |zero=>
  intro _;rw[aaC.mp e];exact h0
 |succ n ih=>
  intro h;have ne:rw≠[]:=λz=>by rw[z]at e;cases e
  obtain⟨l,q,rfl⟩:∃l q,rw=l++[q]:=⟨rw.dropLast,rw.getLast ne,(aeo ne).symm⟩;have a:l.length=n:=by rw[Yu,Y1]at e;omega
  have h1:mH m l:=λi r b=>by
   have c:=(Yj.mp b).1;have:=h i r (by rw[aa1 c];exact b);rw[acx (rl c)]at this;exact this
  have d:=(h n q (by rw[aaT (by omega),a,ad4];rfl)).1;rw[afL a]at d;exact hs l q (ih a h1) d
theorem BV{l:List (V×bK)}(k:Int):ct (lq m (l++[q])) k=if k=q.2.c then q.2.k else ct (lq m l) k:=by
 rw[lR,tD]
theorem Q0(h:mH m rw):CF m (lq m rw):=by
 refine mH.ind (C:=λrw=>CF m (lq m rw)) (CF.refl m) (λl q a b k=>?_) h;have:=a k;rw[BV];by_cases z:k=q.2.c
 ·rw[if_pos z,b,←z];omega
 ·rw[if_neg z];exact this
theorem QX(h:mH m rw):∀c k,ct m c<k->k<=ct (lq m rw) c->∃q∈rw,q.2.c=c/\q.2.k=k:=by
 refine mH.ind (C:=λrw=>∀c k,ct m c<k->k<=ct (lq m rw) c->∃q∈rw,q.2.c=c/\q.2.k=k) (λc k a b=>?_) (λl q f g c k a b=>?_) h
 ·have b:k<=ct m c:=b;omega
 ·rw[BV]at b;by_cases z:c=q.2.c
  ·rw[if_pos z]at b;by_cases y:k=q.2.k
   ·exact⟨q,YH _ (Yi.mpr rfl),z.symm,y.symm⟩
   ·obtain⟨r,d,e⟩:=f c k a (by rw[z];omega);exact⟨r,YU _ d,e⟩
  ·rw[if_neg z]at b;obtain⟨r,d,e⟩:=f c k a b;exact⟨r,YU _ d,e⟩
def Tp(mk:List bK)(m:List (Int×Int)):Prop:=∀h,0<ct m h->∃c∈mk,c.c=h/\c.k=ct m h
theorem UG(t:Tp mk m)(h:mH m rw):(∀q∈rw,q.2∈mk)->Tp mk (lq m rw):=by
 refine mH.ind (C:=λrw=>(∀q∈rw,q.2∈mk)->Tp mk (lq m rw)) (λ_=>t) (λl q b e hm c a=>?_) h;rw[BV]at a⊢;by_cases z:c=q.2.c
 ·rw[if_pos z];exact⟨q.2,hm q (YH _ (Yi.mpr rfl)),z.symm,rfl⟩
 ·rw[if_neg z]at a⊢;exact b (λr d=>hm r (YU _ d)) c a
theorem tbl_mem(e:tbl tb h=Ya d):d∈tb.map (·.2):=by
 induction tb with
 |nil=>cases e
 |cons a tb ih=>
  unfold tbl at e;by_cases z:a.1=h
  ·rw[if_pos z]at e;cases e;exact YC.mpr ⟨a,Ys,rfl⟩
  ·rw[if_neg z]at e;obtain⟨b,c,f⟩:=YC.mp (ih e);exact YC.mpr ⟨b,Yr _ c,f⟩
theorem T4(l:Us tb h m Zs):(∀k,k≠h->tbl Zs k=tbl tb k)/\∀d,tbl tb h=Ya d->CF d m->∃d',tbl Zs h=Ya d'/\CF d' m:=by
 cases z:tbl tb h with
 |none=>
  rw[l.1 z];exact⟨λ_ _=>rfl,λd e=>by cases e⟩
 |some d0=>
  obtain⟨j,_,mx,rfl⟩:=l.2 d0 z;refine⟨λk n=>by rw[uS,if_neg λw=>n w.1],λd e le=>?_⟩;cases e;refine⟨j,by rw[uS,if_pos ⟨rfl,by rw[z];rfl⟩],λk=>?_⟩;obtain⟨⟨x,a,ex⟩,_⟩:=mx k;rw[←ex];rcases Yn.mp a with w|w
  ·rw[w];exact le k
  ·rw[Yi.mp w];exact aaW _
structure OI(nu:Int)(W:List PW)(mk:List bK):Prop where
 mu:Xt nu mk
 tp:∀(i:Nat) (w:PW),W[i]?=Ya w->Tp mk w.2.1.dn
 ks:∀(i:Nat) (w:PW),W[i]?=Ya w->∀c∈mk,c.c=w.2.1.me∨c.k<=ct w.2.1.dn c.c->c∈w.2.1.kp.map (·.2)∨∀(j:Nat) (u:PW),W[j]?=Ya u->c.k<=ct u.2.1.dn c.c
 ta:∀(i j:Nat) (w u:PW) (d:List (Int×Int)),W[i]?=Ya w->W[j]?=Ya u->tbl w.2.1.ta u.2.1.me=Ya d->CF d u.2.1.dn
 tn:∀(i j:Nat) (w u:PW),W[i]?=Ya w->W[j]?=Ya u->∃d,tbl w.2.1.ta u.2.1.me=Ya d
def Xq(W:List PW)(a:List (Int×List (Int×Int))):Prop:=∀(j:Nat) (u:PW),W[j]?=Ya u->∀e∈a,e.1=u.2.1.me->CF e.2 u.2.1.dn
def FK(W b:List PW):Prop:=∀(j:Nat) (a:PW),b[j]?=Ya a->∃u,W[j]?=Ya u/\a.2.1.me=u.2.1.me/\CF u.2.1.dn a.2.1.dn
theorem FK.refl(W:List PW):FK W W:=λ_ u h=>⟨u,h,rfl,.refl _⟩
theorem FK.trans{A B C:List PW}(x:FK A B)(y:FK B C):FK A C:=λj c h=>by
 obtain⟨b,d,e,f⟩:=y j c h;obtain⟨a,ha,g,i⟩:=x j b d;exact⟨a,ha,e.trans g,i.trans f⟩
theorem Xq.gr(h:Xq W la)(g:FK W W'):Xq W' la:=λj a e q b z=>by
 obtain⟨u,c,d,f⟩:=g j a e;exact(h j u c q b (z.trans d)).trans f
theorem Oi{nu:Int}{w:PW}(O:OI nu W mk)(h:W[i]?=Ya w)(dm:∀(j:Nat) (u:PW),W[j]?=Ya u->j≠i->u.2.1.me≠w.2.1.me)(mu:Xt nu mk')(sub:∀c∈mk,c∈mk')(new:∀c∈mk',c∈mk∨(c.c=w.2.1.me/\c∈S2.kp.map (·.2)/\∀(j:Nat) (u:PW),W[j]?=Ya u->¬ c.k<=ct u.2.1.dn c.c))(x:S2.dn=w.2.1.dn)(F:S2.me=w.2.1.me)(kin:∀q∈S2.kp,q.2∈mk')(ks:∀q∈w.2.1.kp,q.2∈S2.kp.map (·.2))(B:∀(j:Nat) (u:PW) (d:List (Int×Int)),W[j]?=Ya u->tbl S2.ta u.2.1.me=Ya d->CF d u.2.1.dn)(C:∀(j:Nat) (u:PW),W[j]?=Ya u->∃d,tbl S2.ta u.2.1.me=Ya d)(st:JM S2 S' rw):OI nu (W.set i (w.1,S',x')) mk'/\FK W (W.set i (w.1,S',x')):=by
 have V:=(Yj.mp h).1;obtain⟨zs,X,m1,m2,I,J,g,j,Y,_,no,pl,_,_,Z,lt,fl,rfl⟩:=st;obtain⟨K,rz⟩:=Ln Z;have l:∀q∈rw,q∈S2.kp:=λq f=>Y.mem_iff.mp (rz q f);have ld:CF w.2.1.dn (lq S2.dn rw):=by rw[←x];exact Q0 K
 obtain⟨t1,t2⟩:=T4 lt;generalize eS:({S2 with dn:=lq S2.dn rw,tk:=S2.tk++rw,kp:=xR j S2.kp,od:=I,ta:=g,ab:=J}:Pg)=S' at*;have sd:S'.dn=lq S2.dn rw:=by rw[←eS]
 have L:S'.me=w.2.1.me:=by rw[←eS];exact F
 have sk:S'.kp=xR j S2.kp:=by rw[←eS]
 have sa:S'.ta=g:=by rw[←eS]
 have cs:∀{j:Nat} {u:PW},(W.set i (w.1,S',x'))[j]?=Ya u->(j=i/\u=(w.1,S',x'))∨(j≠i/\W[j]?=Ya u):=fun{j u} e=>by
  rw[aaB]at e;by_cases z:i=j
  ·rw[if_pos z,if_pos V]at e;exact .inl ⟨z.symm,(YK e).symm⟩
  ·rw[if_neg z]at e;exact .inr ⟨λy=>z y.symm,e⟩
 have gr:FK W (W.set i (w.1,S',x')):=λj u' e=>by
  rcases cs e with⟨rfl,rfl⟩|⟨_,e⟩
  ·exact⟨w,h,L,by show CF _ S'.dn;rw[sd];exact ld⟩
  ·exact⟨u',e,rfl,.refl _⟩
 have up:∀{c:bK},(∀(j:Nat) (u:PW),W[j]?=Ya u->c.k<=ct u.2.1.dn c.c)->∀(j:Nat) (u:PW),(W.set i (w.1,S',x'))[j]?=Ya u->c.k<=ct u.2.1.dn c.c:=fun{c} al j u e=>by
  obtain⟨v,hv,_,le⟩:=gr j u e;exact ab8 (al j v hv) (le c.c)
 obtain⟨T,D⟩:=C i w h;obtain⟨M,N,P⟩:=t2 T (by rw[F];exact D) (by rw[x]at ld;rw[x];exact(B i w T h D).trans ld);have m:∀(j:Nat) (u:PW),(W.set i (w.1,S',x'))[j]?=Ya u->∃d,tbl g u.2.1.me=Ya d/\CF d u.2.1.dn:=λj u e=>by
  rcases cs e with⟨rfl,rfl⟩|⟨n,e⟩
  ·refine⟨M,?_,?_⟩
   ·show tbl g S'.me=Ya M;rw[L,←F];exact N
   ·show CF M S'.dn;rw[sd];exact P
  ·obtain⟨d,hd⟩:=C j u e;refine⟨d,?_,B j u d e hd⟩;rw[t1 _ (by rw[F];exact dm j u e n)];exact hd
 refine⟨⟨mu,λj u e=>?_,λG u e c o kn=>?_,λa b v u d p E hd=>?_,λa b v u p E=>?_⟩,gr⟩
 ·rcases cs e with⟨rfl,rfl⟩|⟨_,e⟩
  ·show Tp mk' S'.dn;rw[sd];refine UG (λk H=>?_) K λq f=>kin q (l q f);rw[x]at H⊢;obtain⟨c,o,z⟩:=O.tp j w h k H;exact⟨c,sub c o,z⟩
  ·intro k H;obtain⟨c,o,z⟩:=O.tp j u e k H;exact⟨c,sub c o,z⟩
 ·rcases cs e with⟨rfl,rfl⟩|⟨n,e⟩
  ·have A:c∈S2.kp.map (·.2)∨∀(j:Nat) (u:PW),W[j]?=Ya u->c.k<=ct u.2.1.dn c.c:=by
    have kn:c.c=S'.me∨c.k<=ct S'.dn c.c:=kn;rw[L,sd]at kn;rcases new c o with r|⟨_,y,_⟩
    ·by_cases z:c.c=w.2.1.me∨c.k<=ct w.2.1.dn c.c
     ·rcases O.ks G w h c r z with y|y
      ·obtain⟨q,f,rfl⟩:=YC.mp y;exact .inl (ks q f)
      ·exact .inr y
     ·rw[not_or]at z;have kn:=kn.resolve_left z.1;obtain⟨q,f,q1,q2⟩:=QX K c.c c.k (by rw[x];omega) kn;have:q.2=c:=mu.inj (kin q (l q f)) o q1 q2;exact .inl (YC.mpr ⟨q,l q f,this⟩)
    ·exact .inl y
   rcases A with y|y
   ·obtain⟨q,f,rfl⟩:=YC.mp y;by_cases z:q.2.k<=ct j q.2.c
    ·right
     intro b u e;obtain⟨d,hd,ld⟩:=m b u e;have l1:ct j q.2.c<=ct d q.2.c:=(fl.2 q.2.c).2 _ (tbl_mem hd);exact ab8 z (ab8 l1 (ld _))
    ·left
     show q.2∈S'.kp.map (·.2);rw[sk];refine YC.mpr ⟨q,?_,rfl⟩;unfold xR;exact cw.mpr ⟨f,by rw[decide_eq_false z];rfl⟩
   ·exact .inr (up y)
  ·rcases new c o with r|⟨y1,_,y2⟩
   ·exact(O.ks G u e c r kn).imp id up
   ·rcases kn with z|z
    ·exact absurd (z.symm.trans y1) (dm G u e n)
    ·exact absurd z (y2 G u e)
 ·rcases cs p with⟨rfl,rfl⟩|⟨n,p⟩
  ·obtain⟨U,s,Q⟩:=m b u E;have hd:tbl S'.ta u.2.1.me=Ya d:=hd;rw[sa,s]at hd;cases hd;exact Q
  ·obtain⟨R,t,S,le⟩:=gr b u E;rw[S]at hd;exact(O.ta a b v R d p t hd).trans le
 ·rcases cs p with⟨rfl,rfl⟩|⟨n,p⟩
  ·obtain⟨U,s,_⟩:=m b u E;exact⟨U,by show tbl S'.ta _=_;rw[sa];exact s⟩
  ·obtain⟨R,t,S,le⟩:=gr b u E;rw[S];exact O.tn a b v R p t
structure Vm(H:Hp)(am:Ye)(es:List (bK×V)):Prop where
 dt:H am=Ya (.dT (es.map λe=>(dX e.1,e.2)))
 tl:∀e∈es,lP H e.2 e.1
 nd:(es.map λe=>dX e.1).Nodup
theorem Vm.val(M:Vm H am es){e:bK×V}(a:e∈es):eF (es.map λe=>(dX e.1,e.2)) (dX e.1)=Ya e.2:=by
 have nd:=M.nd;clear M
 induction es with
 |nil=>cases a
 |cons f es ih=>
  rw[YF,BD]at nd;rcases Yn.mp a with z|z
  ·rw[z,YF];exact dg rfl
  ·rw[YF,du]
   ·exact ih z nd.2
   ·intro w;exact nd.1 (YC.mpr ⟨e,z,w.symm⟩)
structure Ps(K:Yc)(mg:Yo->Option Yd)(H:Hp)(hs:List Int)(nu gr:Int)(W:List PW)(es:List (bK×V))(ah ap as am:Ye)(sl:List Ye)(ml:List (List (Int×Int)))(res:List (Nat×List (V×bK))):Prop where
 wd:Wd K mg H hs nu gr W (es.map (·.1))
 ha:H ah=Ya (.lst (hs.map V.int))
 hp:H ap=Ya (.lst (W.map λw=>V.ref w.1))
 hs':H as=Ya (.lst (sl.map V.ref))
 ls:sl.length=hs.length
 lm:ml.length=hs.length
 sd:∀(i:Nat) (a:Ye) (m:List (Int×Int)),sl[i]?=Ya a->ml[i]?=Ya m->H a=Ya (.dK (dI m))/\Td m
 sn:sl.Nodup
 md:Vm H am es
 kp:∀e∈es,0<e.1.k
 out:∀(i:Nat) (w:PW),W[i]?=Ya w->∀a∈tu w,a∉ah::ap::as::am::sl
 n2:2<=hs.length
 n4:hs.length<=4
 nd:(res.map (·.1)).Nodup
 rs:∀e∈res,∃w m,W[e.1]?=Ya w/\ml[e.1]?=Ya m/\w.2.1.dn=lq m e.2/\mH m e.2/\∀q∈e.2,q.2∈es.map (·.1)
 ot:∀(i:Nat) (w:PW) (m:List (Int×Int)),W[i]?=Ya w->ml[i]?=Ya m->i∉res.map (·.1)->w.2.1.dn=m
 oi:OI nu W (es.map (·.1))
variable{kp:List (V×bK)}
def X8(d H:Hp)(v:V)(e:Nat×List (V×bK)):Prop:=∃a b c,v=.ref a/\H a=Ya (.tup [.int e.1,.ref b])/\H b=Ya (.lst c)/\Gf H c e.2/\d b=Yb
section
variable{nu gr:Int}
theorem Ps.same(D:Ps K mg H hs nu gr W es ah ap as am sl ml res)(s:aH H H'):Ps K mg H' hs nu gr W es ah ap as am sl ml res:=
 ⟨D.wd.same s,s _ _ D.ha,s _ _ D.hp,s _ _ D.hs',D.ls,D.lm,λi a m e f=>⟨s _ _ (D.sd i a m e f).1,(D.sd i a m e f).2⟩,D.sn,⟨s _ _ D.md.dt,λe b=>(D.md.tl e b).up (dC.same s),D.md.nd⟩,D.kp,D.out,D.n2,D.n4,D.nd,D.rs,D.ot,D.oi⟩
theorem HU{w:PW}(h:W[i]?=Ya w)(e:w'.1=w.1):(W.set i w').map (λw=>V.ref w.1)=W.map λw=>V.ref w.1:=by
 refine ads λj=>?_;rw[Yy,Yy,aaB];by_cases z:i=j
 ·rw[if_pos z,←z,h,if_pos (Yj.mp h).1];show Ya (V.ref w'.1)=Ya (V.ref w.1);rw[e]
 ·rw[if_neg z]
theorem Ps.put(D:Ps K mg H hs nu gr W es ah ap as am sl ml res){w:PW}(h:W[i]?=Ya w)(o:Off (tu w) H H')(P:gZ K mg H' w.1 S' x')(ft:∀a∈x'.ft w.1,a∈tu w∨H a=Yb)(g:i∉res.map (·.1))(t:S'.me=w.2.1.me/\S'.nu=w.2.1.nu/\S'.ha=w.2.1.ha)(ok:Kf hs (es.map (·.1)) S')(ma:S'.ma=w.2.1.ma)(dn:S'.dn=lq w.2.1.dn rw)(v:mH w.2.1.dn rw)(k:∀q∈rw,q.2∈es.map (·.1))(oi:OI nu (W.set i (w.1,S',x')) (es.map (·.1))):Ps K mg H' hs nu gr (W.set i (w.1,S',x')) es ah ap as am sl ml (res++[(i,rw)]):=by
 have l:=(Yj.mp h).1;have x:mM H H':=ja o λa ha=>D.wd.tr h ha;have d:∀{a},a∈ah::ap::as::am::sl->a∉tu w:=λha c=>D.out i w h _ c ha;have tr:∀{a},a∈ah::ap::as::am::sl->∃u,H a=Ya u:=fun{a} ha=>by
  rcases Yn.mp ha with z|ha
  ·rw[z];exact⟨_,D.ha⟩
  rcases Yn.mp ha with z|ha
  ·rw[z];exact⟨_,D.hp⟩
  rcases Yn.mp ha with z|ha
  ·rw[z];exact⟨_,D.hs'⟩
  rcases Yn.mp ha with z|ha
  ·rw[z];exact⟨_,D.md.dt⟩
  obtain⟨j,r⟩:=YS ha;have A:=(Yj.mp r).1;obtain⟨m,hm⟩:∃m,ml[j]?=Ya m:=⟨_,Yk (by rw[D.lm,←D.ls];exact A)⟩;exact⟨_,(D.sd j a m r hm).1⟩
 have cs:∀{j:Nat} {u:PW},(W.set i (w.1,S',x'))[j]?=Ya u->(j=i/\u=(w.1,S',x'))∨(j≠i/\W[j]?=Ya u):=fun{j u} e=>by
  rw[aaB]at e;by_cases z:i=j
  ·rw[if_pos z,if_pos l]at e;exact .inl ⟨z.symm,(YK e).symm⟩
  ·rw[if_neg z]at e;exact .inr ⟨λy=>z y.symm,e⟩
 have B:(W.set i (w.1,S',x'))[i]?=Ya (w.1,S',x'):=by rw[aaB,if_pos rfl,if_pos l]
 refine⟨D.wd.put0 h o P ft t ok ma,o _ _ D.ha (d (by simp)),?_,o _ _ D.hs' (d (by simp)),D.ls,D.lm,λj a m e f=>⟨o _ _ (D.sd j a m e f).1 (d (by simp[YA e])),(D.sd j a m e f).2⟩,D.sn,⟨o _ _ D.md.dt (d (by simp)),λe p=>(D.md.tl e p).up x.smh,D.md.nd⟩,D.kp,λj u e a ha c=>?_,D.n2,D.n4,?_,λe p=>?_,λj u m e f n=>?_,oi⟩
 ·rw[HU (w':=(w.1,S',x')) h rfl];exact o _ _ D.hp (d (by simp))
 ·rcases cs e with⟨rfl,rfl⟩|⟨n,e⟩
  ·rcases ft a ha with z|z
   ·exact d c z
   ·obtain⟨u,q⟩:=tr c;rw[q]at z;cases z
  ·exact D.out j u e a ha c
 ·rw[Yx,KW];refine⟨D.nd,by simp,λa ha b c z=>?_⟩;have:b=i:=by simpa using c
  rw[z,this]at ha;exact g ha
 ·rcases YM.mp p with z|z
  ·obtain⟨u,m,C,E,F⟩:=D.rs e z;have ne:e.1≠i:=λy=>g (y▸YV z);refine⟨u,m,?_,E,F⟩;rw[aaB,if_neg (λy=>ne y.symm)];exact C
  ·rw[Yi.mp z];obtain⟨m,hm⟩:∃m,ml[i]?=Ya m:=⟨_,Yk (by rw[D.lm,←D.wd.len];exact l)⟩;have s:=D.ot i w m h hm g;refine⟨_,m,B,hm,by rw[←s];exact dn,by rw[←s];exact v,k⟩
 ·rw[Yx,YM,not_or]at n;rcases cs e with⟨rfl,rfl⟩|⟨_,e⟩
  ·exact absurd (Yi.mpr rfl) n.2
  ·exact D.ot j u m e f n.1
theorem MS(h:Hs hs){a:Int}(f:hs[i]?=Ya a)(g:hs[j]?=Ya a):i=j:=by
 obtain⟨b,c⟩:=Yj.mp f;obtain⟨d,e⟩:=Yj.mp g;rcases aeR i j with z|z|z
 ·have:=tq.mp h.up i j b d z;rw[c,e]at this;omega
 ·exact z
 ·have:=tq.mp h.up j i d b z;rw[c,e]at this;omega
theorem CV(h:Kf hs mk S):Kf hs (mk++[c]) S:=by
 refine⟨h.ne,h.l10,h.me,λq a=>YU _ (h.kin q a),by rw[Yu];exact xy h.kl (by omega),h.od,λn hn=>by rw[Yx];exact YU _ (h.oin n hn),?_,h.dk⟩;have:=h.tl;unfold mz at this⊢;rw[Y3,Yu,Yu,Y1];have:=Y0 (λq:bK=>decide (ct S.dn q.c<q.k)) [c];rw[Y1]at this;omega
theorem VJ{w:Int}(n:Xo S kd w c)(hk:kd="own"∨kd="heard"∨kd="one")(hw:(if w<0 then-w else w)<10^(60:Int).toNat)(t:Td S.dn)(a:0<=S.me)(b:S.me<63):Wf c:=by
 obtain⟨hs,d,_,rfl⟩:=n;refine⟨hk,hw,?_,λz=>if_pos z,a,b⟩;show Ck (if kd="own"then[]else sW S.dn hs);by_cases z:kd="own"
 ·rw[if_pos z];exact Ck.nil
 ·rw[if_neg z];exact NO t.toCk d
theorem Ps.made{E:Hp}(D:Ps K mg H hs nu gr W es ah ap as am sl ml []){w:PW}(h:W[i]?=Ya w){tv:V}{wd:Int}(o:Off (tu w) H E)(P:gZ K mg E w.1 S' x')(ft:∀a∈x'.ft w.1,a∈tu w∨H a=Yb)(nw:Xo w.2.1 kd wd c)(hk:kd="own"∨kd="heard"∨kd="one")(hw:(if wd<0 then-wd else wd)<10^(60:Int).toNat)(st:JM {w.2.1 with ma:=w.2.1.ma+ 1,kp:=w.2.1.kp++[(v,c)]} S' rw)(Q:Off [am] E H')(gd:H' am=Ya (.dT ((es++[(c,tv)]).map λe=>(dX e.1,e.2))))(R:lP H' tv c):Ps K mg H' hs nu gr (W.set i (w.1,S',x')) (es++[(c,tv)]) ah ap as am sl ml [(i,rw)]/\FK W (W.set i (w.1,S',x')):=by
 have S:=(Yj.mp h).1;have PA:=D.wd.pg i w h;have ok:=D.wd.ok i w h;obtain⟨I,T,an⟩:=D.wd.st i w h;have U:=VJ nw hk hw PA.td PA.me.1 PA.me.2;obtain⟨X,g,J⟩:c.n=w.2.1.nu/\c.c=w.2.1.me/\c.k=w.2.1.ma+ 1:=by
  obtain⟨_,_,_,e⟩:=nw;rw[e];exact⟨rfl,rfl,rfl⟩
 have Y:(es++[(c,tv)]).map (·.1)=es.map (·.1)++[c]:=by rw[Yx];rfl
 have mo:Qm hs nu (es.map (·.1)++[c]):=⟨λd hd=>?_,λd hd=>?_,λd hd=>?_⟩
 rotate_left
 ·rcases YM.mp hd with z|z
  ·exact D.wd.mo.wf d z
  ·rw[Yi.mp z];exact U
 ·rcases YM.mp hd with z|z
  ·exact D.wd.mo.nu d z
  ·rw[Yi.mp z,X];exact T
 ·rcases YM.mp hd with z|z
  ·exact D.wd.mo.hs d z
  ·rw[Yi.mp z,g];exact YA I
 have L:Kf hs (es.map (·.1)++[c]) {w.2.1 with ma:=w.2.1.ma+ 1,kp:=w.2.1.kp++[(v,c)]}:=by
  have q:=CV (c:=c) ok;refine⟨q.ne,q.l10,q.me,λr hr=>?_,?_,q.od,q.oin,q.tl,q.dk⟩
  ·rcases YM.mp hr with z|z
   ·exact q.kin r z
   ·rw[Yi.mp z];exact YH _ (Yi.mpr rfl)
  ·show(w.2.1.kp++[(v,c)]).length<=(es.map (·.1)++[c]).length;rw[Yu,Yu,Y1,Y1];have:=ok.kl;omega
 obtain⟨Z,ck,ab,ac,F,e2,e3,e4,e5,_⟩:=MQ mo L st;have B:=D.wd.ma i w h;have C:∀{j:Nat} {u:PW},W[j]?=Ya u->j≠i->u.2.1.me≠w.2.1.me:=fun{j u} e n z=>by
  have F:=(D.wd.st j u e).1;rw[z]at F;exact n (MS D.wd.ho F I)
 have kf:mM H E:=ja o λa ha=>D.wd.tr h ha;have M:mM E H':=by
  have ad:E am=Ya (.dT (es.map λe=>(dX e.1,e.2))):=o _ _ D.md.dt (λz=>D.out i w h _ z (by simp));exact Q.kpf1 ad trivial
 have ae:=D.wd.put (mk':=es.map (·.1)++[c]) h o P ft mo ⟨F,e2,e3⟩ Z (λj u e n=>CV (D.wd.ok j u e)) ?_ (λj u e n=>?_) (λd hd z=>?_) λd hd j u e n z=>?_
 rotate_left
 ·rw[e5,Y3,Yu];have:[c].filter (λd=>decide (d.c=w.2.1.me))=[c]:=by simp[g]
  rw[this,Y1];show w.2.1.ma+ 1=_;rw[B]
  push_cast
  rfl
 ·rw[D.wd.ma j u e,Y3,Yu];have:[c].filter (λd=>decide (d.c=u.2.1.me))=[]:=by
   have:=C e n;simp[g];exact λz=>this z.symm
  rw[this];simp
 ·rw[e5];show d.k<=w.2.1.ma+ 1;rcases YM.mp hd with y|y
  ·have:=D.wd.mx d y i w h z;omega
  ·rw[Yi.mp y,J];exact aaW _
 ·rcases YM.mp hd with y|y
  ·exact D.wd.mx d y j u e z
  ·rw[Yi.mp y,g]at z;exact absurd z.symm (C e n)
 have nf:∀{a},a∈ah::ap::as::am::sl->a∉tu w:=λha l=>D.out i w h _ l ha;have tr:∀{a},a∈ah::ap::as::am::sl->∃u,H a=Ya u:=fun{a} ha=>by
  rcases Yn.mp ha with z|ha
  ·rw[z];exact⟨_,D.ha⟩
  rcases Yn.mp ha with z|ha
  ·rw[z];exact⟨_,D.hp⟩
  rcases Yn.mp ha with z|ha
  ·rw[z];exact⟨_,D.hs'⟩
  rcases Yn.mp ha with z|ha
  ·rw[z];exact⟨_,D.md.dt⟩
  obtain⟨j,G⟩:=YS ha;have lj:=(Yj.mp G).1;obtain⟨m,hm⟩:∃m,ml[j]?=Ya m:=⟨_,Yk (by rw[D.lm,←D.ls];exact lj)⟩;exact⟨_,(D.sd j a m G hm).1⟩
 have cs:∀{j:Nat} {u:PW},(W.set i (w.1,S',x'))[j]?=Ya u->(j=i/\u=(w.1,S',x'))∨(j≠i/\W[j]?=Ya u):=fun{j u} e=>by
  rw[aaB]at e;by_cases z:i=j
  ·rw[if_pos z,if_pos S]at e;exact .inl ⟨z.symm,(YK e).symm⟩
  ·rw[if_neg z]at e;exact .inr ⟨λy=>z y.symm,e⟩
 have A:∀(j:Nat) (u:PW),(W.set i (w.1,S',x'))[j]?=Ya u->∀a∈tu u,a∉ah::ap::as::am::sl:=λj u e a ha l=>by
  rcases cs e with⟨rfl,rfl⟩|⟨n,e⟩
  ·rcases ft a ha with z|z
   ·exact nf l z
   ·obtain⟨u,q⟩:=tr l;rw[q]at z;cases z
  ·exact D.out j u e a ha l
 have s:∀{a:Ye} {u:HO},H a=Ya u->a∈ah::ap::as::am::sl->(∀k,u≠.dT k)->H' a=Ya u:=fun{a u} e ha d=>Q a u (o a u e (nf ha)) (λz=>by
  rw[Yi.mp z,D.md.dt]at e;cases e;exact d _ rfl)
 have ag:∀e∈es,dX e.1≠dX c:=λe x z=>by
  unfold dX at z;have F:e.1.c=c.c:=aaA (mr (mr z).2).1;have e2:e.1.k=c.k:=aaA (mr (mr (mr z).2).2).1;have:=D.wd.mx e.1 (YV x) i w h (by rw[F,g]);omega
 have iw:(W.set i (w.1,S',x'))[i]?=Ya (w.1,S',x'):=by rw[aaB,if_pos rfl,if_pos S]
 have aq:0<=w.2.1.ma:=by rw[B];exact aet _
 have N:∀d∈es.map (·.1),d.c=c.c->d.k<c.k:=λd hd z=>by
  have:=D.wd.mx d hd i w h (by rw[z,g]);omega
 have O:=Oi (S2:={w.2.1 with ma:=w.2.1.ma+ 1,kp:=w.2.1.kp++[(v,c)]}) (x':=x') D.oi h (λj u e n=>C e n) (mk':=es.map (·.1)++[c]) ⟨?_,λd hd=>?_,mo.nu⟩ (λd hd=>YU _ hd) (λd hd=>?_) rfl rfl L.kin ?_ (λj u d G t=>D.oi.ta i j w u d h G t) (λj u G=>D.oi.tn i j w u h G) st
 rotate_left
 ·rw[Yx,KW];refine⟨D.oi.mu.un,by simp,λa ha b l z=>?_⟩;obtain⟨d,hd,ed⟩:=YC.mp ha;have l:b=wN c:=by simpa using l
  rw[←ed,l]at z;have z1:d.c=c.c:=congrArg (λp=>p.2.1) z;have z2:d.k=c.k:=congrArg (λp=>p.2.2) z;have:=N d hd z1;omega
 ·rcases YM.mp hd with z|z
  ·exact D.oi.mu.ps d z
  ·rw[Yi.mp z];omega
 ·rcases YM.mp hd with z|z
  ·exact .inl z
  ·right
   rw[Yi.mp z];refine⟨g,YC.mpr ⟨(v,c),YH _ (Yi.mpr rfl),rfl⟩,?_⟩;intro j u e le;obtain⟨d',al,q1,q2⟩:=D.oi.tp j u e c.c (by omega);have:=N d' al q1;omega
 ·intro q hq;exact YC.mpr ⟨q,YU _ hq,rfl⟩
 refine⟨⟨by rw[Y];exact ae.off Q M λj u e a ha z=>A j u e a ha (by rw[Yi.mp z];simp),s D.ha (by simp) (by intro _ z;cases z),?_,s D.hs' (by simp) (by intro _ z;cases z),D.ls,D.lm,λj a m e f=>⟨s (D.sd j a m e f).1 (by simp[YA e]) (by intro _ z;cases z),(D.sd j a m e f).2⟩,D.sn,⟨gd,λe x=>?_,?_⟩,λe x=>?_,A,D.n2,D.n4,by simp,λe x=>?_,λj u m e f n=>?_,by rw[Y];exact O.1⟩,O.2⟩
 ·rw[HU (w':=(w.1,S',x')) h rfl];exact s D.hp (by simp) (by intro _ z;cases z)
 ·rcases YM.mp x with z|z
  ·exact(D.md.tl e z).up (kf.smh.trans M.smh)
  ·rw[Yi.mp z];exact R
 ·rw[Yx,KW];refine⟨D.md.nd,by simp,λa ha b l z=>?_⟩;obtain⟨e,x,ee⟩:=YC.mp ha;have l:b=dX c:=by simpa using l
  exact ag e x (by rw[ee,z,l])
 ·rcases YM.mp x with z|z
  ·exact D.kp e z
  ·rw[Yi.mp z];show 0<c.k;rw[J,B];omega
 ·rw[Yi.mp x];obtain⟨m,hm⟩:∃m,ml[i]?=Ya m:=⟨_,Yk (by rw[D.lm,←D.wd.len];exact S)⟩;have e0:=D.ot i w m h hm (by simp);refine⟨_,m,iw,hm,by rw[←e0];exact ac,by rw[←e0];exact ck,λq hq=>by rw[Y];exact ab q hq⟩
 ·rcases cs e with⟨rfl,rfl⟩|⟨_,e⟩
  ·exact absurd (by simp) n
  ·exact D.ot j u m e f (by simp)
end
noncomputable abbrev qI:Y4:=eZ 52
theorem U6{n:Nat}(h:Kf hs mk S)(hn:mk.length<=n)(a:∀q∈S.kp,q.2.n=S.nu)(ma:0<=S.ma)(mx:∀q∈S.kp,q.2.c=S.me->q.2.k<=S.ma):QG S n:=by
 have ol:S.od.length<=mk.length:=by
  have:=IC h.od h.oin;rw[Yg]at this;exact this
 have kl:=h.kl;have tl:=h.tl;exact⟨h.ne,h.l10,by omega,by omega,by omega,h.me,a,ma,mx⟩
theorem Ps.pgok{nu gr:Int}(D:Ps K mg H hs nu gr W es ah ap as am sl ml res){w:PW}(h:W[i]?=Ya w){n:Nat}(hn:es.length<=n):QG w.2.1 n:=by
 refine U6 (D.wd.ok i w h) (by rw[Yg];exact hn) (λq a=>?_) ?_ λq a z=>D.wd.mx _ ((D.wd.ok i w h).kin q a) i w h z
 ·rw[D.wd.mo.nu _ ((D.wd.ok i w h).kin q a),(D.wd.st i w h).2.1]
 ·rw[D.wd.ma i w h];exact aet _
theorem Ps.none'{nu gr:Int}(D:Ps K mg H hs nu gr W es ah ap as am sl ml [])(b:i<hs.length):Ps K mg H hs nu gr W es ah ap as am sl ml [(i,[])]:=by
 refine⟨D.wd,D.ha,D.hp,D.hs',D.ls,D.lm,D.sd,D.sn,D.md,D.kp,D.out,D.n2,D.n4,by simp,λe c=>?_,λj u m e f n=>D.ot j u m e f (by simp),D.oi⟩;rw[Yi.mp c];have h1:i<W.length:=by rw[D.wd.len];exact b
 have h2:i<ml.length:=by rw[D.lm];exact b
 exact⟨_,_,Yk h1,Yk h2,D.ot i _ _ (Yk h1) (Yk h2) (by simp),(λj q a=>by simp at a),λq a=>nomatch a⟩
theorem thaw_same{d:Ye}(hd:H d=Ya (.dT kvs))(a:K0 d H A)(s:aH A B):aH H (upd B d (.dT kvs)):=λb u e=>by
 by_cases z:b=d
 ·rw[z,ai,←e,z,hd]
 ·rw[ak z];exact s _ _ (a b u z e)
theorem TK{S:List Int}(h:Hs hs)(t:Td m)(hk:∀e∈m,e.1∈hs)(a:S.Perm (m.map (·.1)))(b:S.Pairwise (·<=·)):sW m hs=sW m S:=by
 rw[HA t.toCk a b];unfold sW xf;have:=pY (l:=hs.filter λk=>decide (0<ct m k)) (m:=B9.filter λk=>decide (0<ct m k)) (h.up.filter _) (Cp.filter _) λx=>?_
 ·rw[this]
 ·rw[cw,cw];constructor
  ·rintro⟨h1,h2⟩;have:=h.rg x h1;exact⟨BH.mpr this,h2⟩
  ·rintro⟨h1,h2⟩;refine⟨?_,h2⟩;have h2:=of_decide_eq_true h2;by_cases z:x∈m.map (·.1)
   ·obtain⟨p,hp,rfl⟩:=YC.mp z;exact hk p hp
   ·rw[kX z]at h2;cases h2
noncomputable def pE(W:List PW):List Ye:=W.flatMap tu
theorem i8:a∈pE W↔∃w∈W,a∈tu w:=List.mem_flatMap
theorem vS{w:PW}(h:W[i]?=Ya w)(ha:a∈tu w):a∈pE W:=i8.mpr ⟨w,YA h,ha⟩
theorem HR{w:PW}(h:W[i]?=Ya w)(ft:∀a∈tu w',a∈tu w∨H a=Yb):∀a∈pE (W.set i w'),a∈pE W∨H a=none:=λa ha=>by
 obtain⟨u,c,b⟩:=i8.mp ha;rcases ae2 c with z|z
 ·exact .inl (i8.mpr ⟨u,z,b⟩)
 ·rw[z]at b;exact(ft a b).imp (vS h) id
def t9(K:Yc)(mg:Yo->Option Yd):Sp:=λc H Q _=>∃(i:Nat) (d:Ye) (nu:Int) (ap e am:Ye) (cell:Int),c=[.int (i:Nat),.ref d,.int nu,.ref ap,.ref e,.ref am,.int cell]/\∃hs gr W f h j w,Ps K mg H hs nu gr W f d ap e am h j []/\i<hs.length/\W[i]?=Ya w/\f.length<=30/\
 ∀b r c g k rw,Ps K mg b hs nu gr g k d ap e am h j [(i,rw)]->Off (am::tu w) H b->(∃ex,k=f++ex/\ex.length<=1)->FK W g->(∀a∈pE g,a∈pE W∨H a=Yb)->H r=Yb->b r=Ya (.lst c)->fm (X8 H b) c [(i,rw)]->Q (.ref r) b
abbrev Ec:List Yo:=["_law_at","_law_hands_here","_law_number","_law_pages_here","_law_seen","_law_made","_law_cell"]
theorem bY:aE ["_law_at","_law_hands_here","_law_number","_law_pages_here","_law_seen","_law_made","_law_cell","_law_hand","_law_kind","_law_count","_law_causes","_law_told","_law_found","_law_good"] Ec (ao qI):=eY
variable{uM:Ye}{q9:YD}(tI:aF P w K mg base (CO P w) 9 uM q9 Di (rB K mg))(uN:Binds K q9 Di [])(iJ:bx K bZ "utter" uM)(gP:NJ K bX bX)
include eV tI uN eh je aZ aU iJ mO gP in
theorem B0(F:bG K "_law_call" "_law_call" qI f fd):∅ 10 f fd Ec (t9 K mg):=by
 refine F.oj bY ?_;rintro _ A _ _ H _ _ E hr _ _ hu ⟨i,ah,nu,ap,as,am,cell,rfl,h⟩;refine⟨_,(aj (aW (i:=7) bY.nd rfl (Or.inr rfl) (bz (bT (K:=K) rfl) (pv 1) (pv 0) (λ_ _=>rfl)))
   (aj (aW (i:=8) bY.nd rfl (Or.inl rfl) (bz (bT (K:=K) rfl) (dH (aa jH (aa jH (aa jH af)))) (aX c8 (pv 6) ay) (λ_ _=>rfl)))
   (aj (Dy (aW (i:=9) bY.nd rfl (Or.inl rfl) (aX eG ay (br (de (K:=K) rfl) (by rfl) eh aat (aa (bM ["_law_hand","_law_name"] [Ya 7,Yb] rfl rfl (by kernel_rfl) (DG (pv 5)) (λ_ _ _ _ _ nd=>aP (i:=1) nd rfl (Or.inl rfl)) (λ_ _ _ _ _=>(d9 (bo qg (bz (bA (K:=K) rfl) (pv 1) ay (λ_ _=>rfl)) (pv 0) (bu _)))) (λ_ _ _ _ _=>(pv 1))) af)))))
   (aj (aW (i:=10) bY.nd rfl (Or.inl rfl) (cC af))
   (aj (dS (bo Iv (pv 8) jH (bu _)) (au (aW (i:=10) bY.nd rfl (Or.inl rfl) (bN (iL (K:=K) rfl) (by rfl) je abI (aa (bM ["_law_seen","_law_at","_law_one"] [Ya 4,Ya 0,Yb] rfl rfl (by kernel_rfl) (bC (K:=K) rfl (pv 1)) (λ_ _ _ _ _ nd=>aP (i:=2) nd rfl (Or.inl rfl)) (λ_ _ _ _ _=>(d9 (BG (M7 hu (pv 2) (bz (bT (K:=K) rfl) (pv 0) (pv 1) (λ_ _=>rfl)))))) (λ_ _ _ _ _=>(cC (aa (pv 2) (aa (xQ hu (bz (bT (K:=K) rfl) (pv 0) (pv 1) (λ_ _=>rfl)) (pv 2) (λ_ _=>rfl)) af))))) af)))) bP)
   (aj (aW (i:=11) bY.nd rfl (Or.inl rfl) (cC (aa (pv 2) (aa (pv 7) (aa (pv 9) (aa (pv 8) (aa (aX eG (aX yU (aX c8 (aX gF (pv 6) ay) (aX yU (aX vx ay (aX CH ay ay)) ay)) (aX CH ay ay)) ay) (aa (pv 10) af))))))))
   (aj (aW (i:=12) bY.nd rfl (Or.inl rfl) (dH af))
   (aj (aW (i:=13) bY.nd rfl (Or.inl rfl) q5)
   (aj (PH (K:=K) rfl rfl rfl (by rfl) mO gP (λZa EE=>(au (aW (i:=12) bY.nd rfl (Or.inl rfl) (LK (bz (bT (K:=K) rfl) (pv 3) (pv 0) (λ_ _=>rfl)) aZ.cl iJ tI hr uN (aa (pv 8) (aa (bz (bA (K:=K) rfl) (pv 11) ay (λ_ _=>rfl)) af)))))) (λea=>(au (aW (i:=13) bY.nd rfl (Or.inl rfl) q5))))
   (aj (dS (tf (Ee (K:=K) rfl (pv 13))) (au (qT hu (pv 5) (cC (aa (pv 2) (aa (pv 7) (aa (pv 9) af)))) (pv 11) rfl)) bP)
   (au (aL (dH (aa (cC (aa (pv 0) (aa (pv 12) af))) af)))))))))))))),?_⟩
 obtain⟨hs,gr,W,p,sl,ml,w,D,hi,hw,bE,kk⟩:=h;obtain⟨aT,aV,bF⟩:=D.wd.st i w hw;have hS:bc K H ah (hs.map V.int):=bc.of D.ha;have bH:u5 (hs.map V.int) (i:Int)=Ya (.int w.2.1.me):=cD (by rw[Yy,aT];rfl);have q0:=aae cell (show(3:Int)≠0 by decide);have q1:=aag cell (show(0:Int)<3 by decide);cbv;intro lk H1 bL s1 a0;have bR:bc K H1 lk [.str "one",.str "heard",.str "own"]:=bc.of a0;obtain⟨kd,bm,an⟩:∃kd:Yo,u5 [V.str "one",V.str "heard",V.str "own"] (cell%3)=Ya (.str kd)/\(kd="own"∨kd="heard"∨kd="one"):=by
  have:cell%3=0∨cell%3=1∨cell%3=2:=by omega
  rcases this with z|z|z
  ·exact⟨"one",by rw[z];rfl,.inr (.inr rfl)⟩
  ·exact⟨"heard",by rw[z];rfl,.inr (.inl rfl)⟩
  ·exact⟨"own",by rw[z];rfl,.inl rfl⟩
 have X:=s1 _ _ D.md.dt;have D1:=D.same s1;cbv;refine II (d:=am) X ?_;cbv;refine GP X λo A hA sA=>?_;intro Dc aq;refine F2 (kvs:=p.map λe=>(dX e.1,e.2)) (λi σ B=>∃v g,σ=[Ya (.int w.2.1.me),v]/\aH A B/\B Dc=Ya (.lst g)/\g.length=((p.take i).filter λe=>decide (e.1.c=w.2.1.me)).length) ⟨Yb,[],rfl,aC aq,ai,rfl⟩ ?_ ?_ ?_
 ·rintro j σ B _ ⟨_,_,_,z,_⟩;exact z _ _ hA
 ·rintro j k v b σ B hk ⟨v0,g,rfl,s,gD,lx⟩ gb;rw[Yy]at hk;obtain⟨e,he,L⟩:=aaF.mp hk;cases L;have hj:=(Yj.mp he).1;have bS:bI K B b [.int e.1.n,.int e.1.c,.int e.1.k]:=bI.of gb;have lf:=Y0 (λe:bK×V=>decide (e.1.c=w.2.1.me)) (p.take j);rw[xj]at lf;rw[aQ he,Y3];cbv;refine dh (λz=>?_) λz=>?_
  ·have z:e.1.c=w.2.1.me:=of_decide_eq_true z;cbv;refine⟨g,gD,aG (by omega),_,g++[.ref b],rfl,λb' Y q=>?_,ai,?_⟩
   ·rw[ak (ax q aq)];exact s b' Y q
   ·rw[afz (by exact decide_eq_true z),Yu,Yu,lx];rfl
  ·have z:¬ e.1.c=w.2.1.me:=λq=>z (decide_eq_true q);refine⟨_,g,rfl,s,gD,?_⟩;rw[afA (by rw[decide_eq_false z];exact YX),List.filter_nil,sq];exact lx
 rintro σ B ⟨v0,g,rfl,s,gD,lx⟩;rw[Yg,YY]at lx;have a1:=D.wd.ma i w hw;have a2:(g.length:Int)=w.2.1.ma:=by
  rw[a1,lx,List.filter_map,Yg];rfl
 have bW:bc K B Dc g:=bc.of gD;cbv;rw[a2];refine⟨⟨o,s _ _ hA⟩,?_⟩;have s2:aH H1 _:=thaw_same X sA s;generalize upd B am (.dT (p.map λe=>(dX e.1,e.2)))=H2 at s2⊢;have Z:=s1.trans s2;have D2:=D.same Z;obtain⟨ae,ar⟩:∃a,sl[i]?=Ya a:=⟨_,Yk (by rw[D.ls];exact hi)⟩;obtain⟨m,hm⟩:∃m,ml[i]?=Ya m:=⟨_,Yk (by rw[D.lm];exact hi)⟩;have em:=D.ot i w m hw hm (by simp);obtain⟨a3,tm⟩:=D2.sd i ae m ar hm;have a4:=D.wd.ok i w hw;have a5:∀e∈m,e.1∈hs:=by rw[←em];exact a4.dk
 have bn:u5 (sl.map V.ref) (i:Int)=Ya (.ref ae):=cD (by rw[Yy,ar];rfl);cbv;intro t0 H3 bX s3 a6;have D3:=D2.same s3;have a7:=s3 _ _ a3;have bZ:bc K H3 ah (hs.map V.int):=bc.of D3.ha;refine Be (λσ A=>∃tc xc,σ=[Ya (.int i),Ya (.ref ah),Ya (.int nu),Ya (.ref ap),Ya (.ref as),Ya (.ref am),Ya (.int cell),Ya (.int w.2.1.me),Ya (.str kd),Ya (.int (1+ w.2.1.ma)),Ya (.ref tc),Yb,Yb,Yb]/\aH H3 A/\A tc=Ya (.tup xc)/\jQ A xc (if kd="own"then[]else sW m hs)) ?_ λN Zc=>?_
 rotate_left
 ·cbv;refine dh (λz=>?_) λz=>?_
  ·have z:¬ kd="own":=λq=>by rw[q]at z;exact absurd z (by decide)
   cbv;intro E hE;refine bD (K:=K) (a:=ah) (xs:=hs.map V.int) (λj σ B=>∃v g,σ=[Ya (.ref as),Ya (.int i),v]/\aH H3 B/\B E=Ya (.lst g)/\jQ B g (sW m (hs.take j))) ⟨Yb,[],rfl,aC hE,ai,.nil⟩ ?_ ?_ ?_
   ·rintro j σ B _ ⟨_,_,_,z,_⟩;exact bc.of (z _ _ D3.ha)
   ·rintro j y σ B hy ⟨v,g,rfl,s,gE,pr⟩;obtain⟨h,hh,rfl⟩:=gz hy;have hj:=(Yj.mp hh).1;have lx:=Y7 pr;have a8:=PR m (hs.take j);rw[xj]at a8;have b0:bc K B as (sl.map V.ref):=bc.of (s _ _ D3.hs');have b1:=s _ _ a7;have n4:=D.n4;rw[aQ hh];cbv;refine dh (λq=>?_) λq=>?_
    ·obtain⟨c,hc⟩:=ac8.mp q;have cc:ct m h=c:=by unfold ct;rw[hc];rfl
     have cp:0<ct m h:=by
      by_cases y:h∈m.map (·.1)
      ·exact tm.pos y
      ·rw[Il y]at hc;cases hc
     cbv;intro u B1 hu n gu;rw[←cc]at gu;have av:=n _ _ gE;have kp:dC B1 (upd B1 E (.lst (g++[.ref u]))):=dC.lst av;refine⟨g,av,aG (by omega),_,g++[.ref u],rfl,λb Y e=>?_,ai,?_⟩
     ·rw[ak (ax e hE)];exact n _ _ (s b Y e)
     ·rw[IK cp];exact oV ((pr.mono (dC.same n)).mono kp) ⟨u,rfl,kp _ _ gu⟩
    ·have cp:¬ 0<ct m h:=λy=>q (by
      unfold ct at y;cases e:vt m h with
      |none=>rw[e]at y;cases y
      |some _=>rfl)
     refine⟨_,g,rfl,s,gE,?_⟩;rw[Og cp];exact pr
   rintro σ B ⟨v,g,rfl,s,gE,pr⟩;rw[show hs.take (hs.map V.int).length=hs by rw[Yg,YY]]at pr;have b2:bc K B E g:=bc.of gE;cbv;intro tc B1 b3 n ab;refine Zc _ _ ⟨tc,g,rfl,s.trans n,ab,?_⟩;rw[if_neg z];exact pr.mono (dC.same n)
  ·have z:kd="own":=by
    by_cases q:kd="own"
    ·exact q
    ·exact absurd (by rw[decide_eq_false q];rfl) z
   cbv;refine Zc _ _ ⟨t0,[],rfl,λb o e=>e,a6,?_⟩;rw[if_pos z];exact .nil
 rintro σ A ⟨tc,xc,rfl,ac,ab,ba⟩;have b4:=Mc;have M:(0:Int)<2*10^(60:Int).toNat-1:=by omega
 have bt:Ox 10 60:=⟨by decide,by decide,by decide⟩;have b5:Cz 2 (10^(60:Int).toNat):=.inl ⟨by decide,by decide⟩;have DA:=D3.same ac;cbv;have y0:=aae (cell / 3) (afr M);have y1:=aag (cell / 3) M;have ad:(if cell / 3%(2*10^abR 60-1)-10^abR 60+ 1<0 then-(cell / 3%(2*10^abR 60-1)-10^abR 60+ 1)else cell / 3%(2*10^abR 60-1)-10^abR 60+ 1)<(10:Int)^(60:Int).toNat:=by
  generalize cell / 3%(2*10^abR 60-1)=y at y0 y1⊢;generalize (10:Int)^abR 60=P at y0 y1⊢;split<;>omega
 generalize cell / 3%(2*10^abR 60-1)-10^abR 60+ 1=wd at ad⊢;intro G A1 b6 t bb;cbv;intro fl O bd x be;have I:=DA.same (t.trans x);have Q:=x _ _ bb;have s5:aH H O:=Z.trans (s3.trans (ac.trans (t.trans x)));have b7:bI K O G [.int nu,.int w.2.1.me,.int (1+ w.2.1.ma),.str kd,.int wd,.ref tc]:=bI.of Q;have b8:bc K O ap (W.map λw=>V.ref w.1):=bc.of I.hp;have bv:u5 (W.map λw=>V.ref w.1) (i:Int)=Ya (.ref w.1):=cD (by rw[Yy,hw];rfl);have PA:=I.wd.pg i w hw;obtain⟨C,dx,mP,T,hp⟩:=PA.ob;have eC:=mP;rw[aU]at eC;cases eC;cbv;refine To ?_;cbv;refine Q7 ?_;cbv;refine⟨w.1,dx,_,rfl,hp,Aw,?_⟩;cbv;refine⟨w.1,kd,wd,rfl,w.2.1,w.2.2,PA,I.pgok hw (by omega),an,ad,λH' x' S' rw l ys v c j Y bf P' aw bg bh nw st hl nl gl tv=>?_,λH' j ea Ce s' bg bh mh he=>?_⟩
 ·have kf:mM O H':=ja Y λa ha=>I.wd.tr hw ha;have az:H' am=Ya (.dT (p.map λe=>(dX e.1,e.2))):=Y _ _ I.md.dt (λz=>I.out i w hw _ z (by simp));have ec:c=⟨kd,nu,w.2.1.me,1+ w.2.1.ma,wd,if kd="own"then[]else sW m hs⟩:=by
   obtain⟨S0,pm,so,e⟩:=nw;rw[e,TK D.wd.ho tm a5 (by rw[←em];exact pm) so,em,aV,Int.add_comm]
  have bi:lP H' (.ref G) c:=by
   rw[ec];exact⟨G,tc,xc,rfl,kf.smh _ _ Q,kf.smh _ _ (x _ _ (t _ _ ab)),(ba.mono (dC.same (t.trans x))).mono kf.smh⟩
  cbv;refine zt ?_;cbv;intro u R hu S gu;have aA:dX c=[YN nu,YN w.2.1.me,YN (1+ w.2.1.ma)]:=by rw[ec];rfl
  have nk:dX c∉(p.map λe=>(dX e.1,e.2)).map (·.1):=λz=>by
   rw[gf]at z;obtain⟨e,he,L⟩:=YC.mp z;have L:dX e.1=dX c:=L;rw[aA]at L;unfold dX at L;have e1:e.1.c=w.2.1.me:=aaA (mr (mr L).2).1;have e2:e.1.k=1+ w.2.1.ma:=aaA (mr (mr (mr L).2).2).1;have:=D.wd.mx e.1 (YV he) i w hw e1;omega
  refine⟨am,_,rfl,z5.t (k:=dX c) (S _ _ az) (by rw[aA];exact gu) (aG (by rw[Yg];omega)),?_⟩;rw[BS nk];have o6:Off (tu w) O R:=λb o e U=>S _ _ (Y b o e U);have o7:Off [am] R (upd R am (.dT ((p.map λe=>(dX e.1,e.2))++[(dX c,.ref G)]))):=λb u e U=>by rw[ak (λz=>U (Yi.mpr z))];exact e
  have k7:mM R _:=o7.kpf1 (S _ _ az) trivial;obtain⟨D7,g7⟩:=I.made (tv:=.ref G) hw o6 (P'.same S) aw nw an ad st o7 (by rw[ai,Yx];rfl) ((bi.up (dC.same S)).up k7.smh);have aB:l≠am:=λz=>by rw[z,I.md.dt]at hl;cases hl
  have aD:upd R am (.dT ((p.map λe=>(dX e.1,e.2))++[(dX c,.ref G)])) l=Ya (.lst ys):=by rw[ak aB];exact S _ _ gl
  have aI:=(tv.up (dC.same S)).up k7.smh;have oA:Off (am::tu w) O (upd R am (.dT ((p.map λe=>(dX e.1,e.2))++[(dX c,.ref G)]))):=λb o e U=>o7 b o (o6 b o e λz=>U (Yr _ z)) λz=>U (by rw[Yi.mp z];exact Ys);have aK:∀a,upd R am (.dT ((p.map λe=>(dX e.1,e.2))++[(dX c,.ref G)])) a=Yb->O a=none:=λa e=>by
   by_cases z:a=am
   ·rw[z,ai]at e;cases e
   ·rw[ak z]at e;exact bf a (S.free e)
  generalize upd R am (.dT ((p.map λe=>(dX e.1,e.2))++[(dX c,.ref G)]))=A7 at D7 aD aI oA aK⊢;cbv;intro u' A8 b9 s8 bj;cbv;intro r A9 bl s9 ag;have J:=s8.trans s9;exact kk A9 r _ _ _ rw (D7.same J) (λb o e U=>J _ _ (oA b o (s5 _ _ e) U)) ⟨[(c,.ref G)],rfl,Yl _⟩ g7 (HR hw λa ha=>(aw a ha).imp id λz=>s5.free z) (s5.free (aK _ (s8.free bl))) ag (.cons ⟨u',l,ys,rfl,s9 _ _ bj,J _ _ aD,aI.up (dC.same J),s5.free hl⟩ .nil)
 ·have aN:aH O (upd H' ea (xO ea Ce)):=λb o e=>by
   rw[ak (λz=>by rw[z,he]at e;cases e)];exact s' b o e
  rw[mO]at mh;cases mh;refine⟨ea,_,rfl,rfl,gP,?_⟩;cbv;refine zt ?_;cbv;intro u A3 hu aR gu;cbv;intro r A4 hr aS ag;have al:=aN.trans (aR.trans aS);refine kk A4 r _ W p [] ((I.same al).none' hi) (Off.of (s5.trans al)) ⟨[],by simp,by simp⟩ (.refl _) (λa ha=>.inl ha) (s5.free (aN.free (aR.free hr))) ag (.cons ⟨u,fl,[],rfl,aS _ _ gu,al _ _ be,.nil,(Z.trans (s3.trans (ac.trans t))).free bd⟩ .nil)
theorem Hn(c:Ck m):Td (xf (ct m)):=by
 have a:(xf (ct m)).map (·.1)=B9.filter λk=>decide (0<ct m k):=by
  unfold xf;rw[gf];exact adj _
 refine⟨⟨?_,λp hp=>?_,λp hp=>?_⟩,λp hp=>?_⟩
 ·rw[a];exact(Cp.imp λh=>afs h).filter _
 all_goals
  unfold xf at hp;obtain⟨k,b,rfl⟩:=YC.mp hp;obtain⟨h1,h2⟩:=cw.mp b
 ·exact c.ct k
 ·exact BH.mp h1
 ·exact of_decide_eq_true h2
theorem ID(h:∀e∈tb,Td e.2):∀e∈uR tb,Td e.2:=λe a=>by
 unfold uR at a;obtain⟨q,b,rfl⟩:=YC.mp a;exact Hn (h q (cw.mp b).1).toCk
theorem DS(tb:List (Int×List (Int×Int))):(uR tb).length<=tb.length:=by
 unfold uR;rw[Yg];exact Y0 _ _
theorem Oa{d:Ye}{rs:List (Int×V)}(k:lL K mg H p d rs tb):tb.length<=64:=by
 have:=iO (k.hs.up.imp λh=>afs h) k.hs.rg;rw[Yg]at this;omega
theorem Pu(c:Ck m)(k:Int):ct (xf (ct m)) k<=ct m k:=by
 by_cases z:k∈(xf (ct m)).map (·.1)
 ·obtain⟨p,hp,rfl⟩:=YC.mp z;rw[ND (Hn c).nd hp];unfold xf at hp;obtain⟨j,_,rfl⟩:=YC.mp hp;exact aaW _
 ·rw[kX z];exact c.ct k
theorem tbl_key(nd:(tb.map (·.1)).Nodup){q:Int×List (Int×Int)}(h:q∈tb):tbl tb q.1=Ya q.2:=by
 induction tb with
 |nil=>cases h
 |cons e tb ih=>
  rw[YF,BD]at nd;rcases Yn.mp h with z|z
  ·rw[←z];unfold tbl;exact if_pos rfl
  ·unfold tbl;rw[if_neg λy=>nd.1 (YC.mpr ⟨q,z,y.symm⟩)];exact ih nd.2 z
theorem NY{h k M:Int}:∀{ls:List (Int×List (Int×Int))} {c:Int},c<=M->(∀e∈ls,e.1=h->ct e.2 k<=M)->R3 ls h k c<=M
 |[],_,a,_=>a
 |e::ls,c,a,b=>NY (ls:=ls) (by
   split
   ·rename_i z;exact Int.max_le.mpr ⟨a,b e Ys z⟩
   ·exact a) λf d=>b f (Yr _ d)
theorem FA.sub(h:FA dn kp cs Zj):∀q∈kp,q∈Zj:=by
 induction h with
 |nil=>exact λq a=>a
 |skip _ _ ih=>exact ih
 |add _ _ _ ih=>exact λq a=>YU _ (ih q a)
def uy(W:List PW)(mk:List bK)(H:Hp)(t:Ye)(f:Int):Prop:=∃b a d cs,Xp H t f b a d cs/\(∀c∈cs,c∈mk)/\cs.length<=mk.length/\b.Nodup/\(∀n∈b,n∈mk.map wN)/\a.length<=64/\d.length<=64/\(∀e∈a,Td e.2)/\(∀e∈d,Td e.2)/\Xq W a
theorem uy.gr(h:uy W mk H t sm)(g:FK W W'):uy W' mk H t sm:=by
 obtain⟨a,b,c,cs,h1,h2,h3,h4,h5,h6,h7,h8,h9,h10⟩:=h;exact⟨a,b,c,cs,h1,h2,h3,h4,h5,h6,h7,h8,h9,h10.gr g⟩
theorem uy.up(u:dC H H')(h:uy W mk H t sm):uy W mk H' t sm:=by
 obtain⟨a,b,c,cs,⟨d,e,f,g,i,j,k,l,h1,h2,h3,h4,h5,h6,h7,h8,h9⟩,r⟩:=h;exact⟨a,b,c,cs,⟨d,e,f,g,i,j,k,l,u _ _ h1,u _ _ h2,h3.up u,u _ _ h4,iz u h5,u _ _ h6,iz u h7,u _ _ h8,fm.mapP h9 λ_ _ z=>z.up u⟩,r⟩
theorem uy.mono(h:uy W mk H t sm):uy W (mk++ex) H t sm:=by
 obtain⟨a,b,d,cs,h1,h2,h3,h4,h5,h6⟩:=h;exact⟨a,b,d,cs,h1,λc e=>YU _ (h2 c e),by rw[Yu];omega,h4,λn hn=>by rw[Yx];exact YU _ (h5 n hn),h6⟩
noncomputable def Vg(e:Int×List (Int×Int)):abJ:=.tuple [.int e.1,.tuple (e.2.map Xm)]
theorem EZ{K:Yc}:∀{xs:List V} {ls:List (Int×List (Int×Int))},yt H xs ls->Ea K H xs (ls.map Vg):=by
 intro xs ls w
 induction w with
 |nil=>exact .nil
 |cons w r ih=>
  obtain⟨t,u,xs,a,b,c,d⟩:=w;subst a;exact .cons (.tup (bI.of b) (.cons (.int _) (.cons (.tup (bI.of c) d.dps) .nil))) ih
theorem Ig:∀ls:List (Int×List (Int×Int)),aaK (ls.map Vg)=true
 |[]=>rfl
 |e::ls=>by
  have:(Vg e).canLay0=true:=by simp[Vg,agp,aaK,BN]
  rw[YF,abN,this,Ig ls];rfl
theorem uy.dp{K:Yc}(h:uy W mk H t sm)(wf:∀c∈mk,Wf c):∃d,Dp K H (.ref t) d/\d.canLay0=true:=by
 obtain⟨a,b,e,cs,⟨g,i,j,k,l,m,n,o,h1,h2,h3,h4,h5,h6,h7,h8,h9⟩,h10,_⟩:=h;refine⟨.tuple [.int sm,.tuple (a.map sM),.tuple (b.map Vg),.tuple (e.map Vg),.tuple (cs.map Vh)],.tup (bI.of h1) (.cons (.int _) (.cons (.tup (bI.of h2) h3.dps) (.cons (.tup (bI.of h4) (EZ h5)) (.cons (.tup (bI.of h6) (EZ h7)) (.cons (.tup (bI.of h8) (Xv.dps h9)) .nil))))),?_⟩;simp[agp,aaK,uO,Ig,Iq λc f=>wf c (h10 c f)]
def sI(W:List PW)(mk:List bK)(H:Hp)(pl:List V):Prop:=∀v∈pl,∃t a,v=.ref t/\uy W mk H t a
theorem sI.up(u:dC H H')(h:sI W mk H pl):sI W mk H' pl:=λv a=>by
 obtain⟨t,b,e,q⟩:=h v a;exact⟨t,b,e,q.up u⟩
theorem sI.gr(h:sI W mk H pl)(g:FK W W'):sI W' mk H pl:=λv a=>by
 obtain⟨t,b,e,q⟩:=h v a;exact⟨t,b,e,q.gr g⟩
variable{gr:Int}
theorem sI.mono(h:sI W mk H pl):sI W (mk++ex) H pl:=λv a=>by
 obtain⟨t,b,e,q⟩:=h v a;exact⟨t,b,e,q.mono⟩
theorem sI.dps{K:Yc}{W:List PW}{mk:List bK}{H:Hp}(wf:∀c∈mk,Wf c):∀{pl:List V},sI W mk H pl->∃ds,Ea K H pl ds/\aaK ds=true
 |[],_=>⟨[],.nil,rfl⟩
 |v::pl,h=>by
  obtain⟨t,b,rfl,q⟩:=h v Ys;obtain⟨d,h1,h2⟩:=q.dp (K:=K) wf;obtain⟨ds,h3,h4⟩:=sI.dps (K:=K) wf λv a=>h v (Yr _ a);exact⟨d::ds,.cons h1 h3,by rw[abN,h2,h4];rfl⟩
theorem HI:(∀q∈Rb zs sk mv,q∈zs)/\(Rb zs sk mv).length<=zs.length:=by
 unfold Rb;split
 ·exact⟨λq a=>acW (acV a),by rw[xj,ab3];omega⟩
 ·exact⟨λq a=>acW a,by rw[ab3];omega⟩
section
variable{nu:Int}
theorem Ps.pc(D:Ps K mg H hs nu gr W es ah ap as am sl ml res){w:PW}(h:W[i]?=Ya w)(b:zs.Perm w.2.1.kp)(l:Xp H' t w.2.1.me w.2.1.od (uR w.2.1.ta) (uR w.2.1.ab) ((Rb zs sk mv).map (·.2))):uy W (es.map (·.1)) H' t w.2.1.me:=by
 have PA:=D.wd.pg i w h;have ok:=D.wd.ok i w h;refine⟨_,_,_,_,l,λc m=>?_,?_,ok.od,ok.oin,xy (DS _) (Oa PA.ta),xy (DS _) (Oa PA.ab),ID PA.ta.td,ID PA.ab.td,λj d h0 e f z=>?_⟩
 ·obtain⟨q,a,rfl⟩:=YC.mp m;exact ok.kin q (b.mem_iff.mp (HI.1 q a))
 ·rw[Yg];have:=(HI (zs:=zs) (sk:=sk) (mv:=mv)).2;have:=b.length_eq;have:=ok.kl;omega
 ·unfold uR at f;obtain⟨q,a,rfl⟩:=YC.mp f;have a:=(cw.mp a).1;have z:q.1=d.2.1.me:=z;have g:=tbl_key (PA.ta.hs.up.imp λh=>afs h) a;rw[z]at g;exact λk=>ab8 (Pu (PA.ta.td q a).toCk k) (D.oi.ta i j w d q.2 h h0 g k)
theorem FA.nd(h:FA dn kp cs Zj)(e:(kp.map λq=>dX q.2).Nodup):(Zj.map λq=>dX q.2).Nodup:=by
 induction h with
 |nil=>exact e
 |skip _ _ ih=>exact ih
 |@add _ _ c _ _ _ n ih=>
  rw[Yx,KW];refine⟨ih,by simp,λa ha b d z=>?_⟩;have d:b=dX c:=by simpa using d
  rw[z,d]at ha;exact n ha
theorem Tv{b:List Nm}{k:List (Int×List (Int×Int))}(h:Kf hs mk S)(kn:(S.kp.map λq=>dX q.2).Nodup)(l:LnR S b la k cs S2)(e:∀c∈cs,c∈mk)(sn:b.Nodup)(f:∀n∈b,n∈mk.map wN):Kf hs mk S2/\S2.dn=S.dn/\S2.me=S.me/\S2.nu=S.nu/\S2.ha=S.ha/\S2.ma=S.ma:=by
 obtain⟨i,d,o,kr,j,p,rfl⟩:=l;have kin:∀q∈i,q.2∈mk:=λq g=>(kr.mem q g).elim (h.kin q) (e _);refine⟨⟨λz=>?_,?_,h.me,kin,?_,?_,?_,h.tl,h.dk⟩,rfl,rfl,rfl,rfl,rfl⟩
 ·have z:d=[]:=z;have:=j.len;rw[z]at this;exact h.ne (aaC.mp this.symm)
 ·show d.length<=10;rw[j.len];exact h.l10
 ·show i.length<=mk.length;have:=IC (m:=mk.map dX) (kr.nd kn) λa ha=>by
   obtain⟨q,g,rfl⟩:=YC.mp ha;exact YV (kin q g)
  rw[Yg,Yg]at this;exact this
 ·show(if S.od.length<b.length then b else S.od).Nodup;split
  ·exact sn
  ·exact h.od
 ·show∀n∈(if S.od.length<b.length then b else S.od),n∈mk.map wN;split
  ·exact f
  ·exact h.oin
theorem DF{w:PW}(h:W[i]?=Ya w):W.set i (w.1,w.2.1,w.2.2)=W:=by
 refine ads λj=>?_;rw[aaB];by_cases z:i=j
 ·rw[if_pos z,←z,h,if_pos (Yj.mp h).1]
 ·rw[if_neg z]
theorem Ps.listen{E:XK}(D:Ps K mg H hs nu gr W es ah ap as am sl ml res){w:PW}(h:W[i]?=Ya w)(U:i∉res.map (·.1))(pc:uy W (es.map (·.1)) H t sm)(ab:es.length<=30)(q:∀H' W' rw l ys,Ps K mg H' hs nu gr W' es ah ap as am sl ml (res++[(i,rw)])->Off (pE W) H H'->mM H H'->(∀a,H' a=Yb->H a=Yb)->(∀a∈pE W',a∈pE W∨H a=Yb)->FK W W'->H l=Yb->l∉pE W'->H' l=Ya (.lst ys)->Gf H' ys rw->Q (.ref l) H'):jE K mg [.ref w.1,.ref t] H Q E:=by
 obtain⟨V,la,lb,cs,pa,m,cl,sn,v,l1,l2,t1,t2,pi⟩:=pc;have ok:=D.wd.ok i w h;have PA:=D.wd.pg i w h;obtain⟨I,J,ac⟩:=D.wd.st i w h;rw[Yg]at cl;have kl:=ok.kl;rw[Yg]at kl;have ad:V.length<=es.length:=by
  have:=IC sn v;rw[Yg,Yg]at this;exact this
 have tr:∀{a:Ye},a∈pE W->∃o,H a=Ya o:=fun{a} ha=>by
  obtain⟨u,L,x⟩:=i8.mp ha;obtain⟨j,hj⟩:=YS L;obtain⟨o,e,_⟩:=D.wd.tr hj x;exact⟨o,e⟩
 refine⟨w.1,t,rfl,w.2.1,w.2.2,sm,V,la,lb,cs,PA,pa,λc r=>⟨D.wd.mo.wf c (m c r),by rw[D.wd.mo.nu c (m c r),J]⟩,D.pgok h (by omega),by omega,by omega,l1,l2,t1,t2,λz H' l s hl M=>?_,λz H' x' S2 S' rw l ys o nn P ft X st hl nl M tv=>?_⟩
 ·have G:=D.same s;have:=G.put h (rw:=[]) (Off.refl _ _) (G.wd.pg i w h) (λa ha=>.inl ha) U ⟨rfl,rfl,rfl⟩ ok rfl rfl (λj q p=>by simp at p) (λq p=>nomatch p) (by rw[DF h];exact D.oi);rw[DF h]at this;refine q H' W [] l [] this (Off.of s) (.same s) (λa e=>s.free e) (λa ha=>.inl ha) (.refl _) hl (λha=>?_) M .nil;obtain⟨o,e⟩:=tr ha;rw[hl]at e;cases e
 ·obtain⟨A,B,Y,e3,e4,e5⟩:=Tv ok PA.kn X m sn v;obtain⟨N,Z,O,C,f1,f2,f3,f4,f5,_⟩:=MQ D.wd.mo A st;rw[B]at Z C;obtain⟨Zj,f,ae,kr,R,m2,S⟩:=id X;have T:∀(j:Nat) (u:PW),W[j]?=Ya u->j≠i->u.2.1.me≠w.2.1.me:=λj u e n z=>by
   have B:=(D.wd.st j u e).1;rw[z]at B;exact n (MS D.wd.ho B I)
  have F:=Oi (x':=x') D.oi h T D.oi.mu (λc r=>r) (λc r=>.inl r) B Y A.kin (λq p=>by rw[S];exact YC.mpr ⟨q,kr.sub q p,rfl⟩) (λj g d h0 td=>?_) (λj g h0=>?_) st
  rotate_left
  ·have td:tbl f g.2.1.me=Ya d:=by rw[S]at td;exact td
   have hm:g.2.1.me∈w.2.1.ta.map (·.1):=by
    rw[←R.1];by_cases y:g.2.1.me∈f.map (·.1)
    ·exact y
    ·rw[gy.mp y]at td;cases td
   intro k;have e:=R.2 _ hm k;rw[td]at e;have e:ct d k=_:=e;rw[e];refine NY ?_ λq p z=>pi j g h0 q p z k;cases y:tbl w.2.1.ta g.2.1.me with
   |none=>exact absurd hm (gy.mpr y)
   |some d0=>exact D.oi.ta i j w g d0 h h0 y k
  ·have et:S2.ta=f:=by rw[S]
   rw[et];cases y:tbl f g.2.1.me with
   |some d=>exact⟨d,rfl⟩
   |none=>
    have y1:=gy.mpr y;rw[R.1]at y1;obtain⟨d,hd⟩:=D.oi.tn i j w g h h0;rw[gy.mp y1]at hd;cases hd
  have G:=D.put h o P ft U ⟨f1.trans Y,f2.trans e3,f3.trans e4⟩ N (f5.trans e5) C Z O F.1;refine q H' _ rw l ys G (λb u e nb=>o b u e λy=>nb (vS h y)) (ja o λa ha=>D.wd.tr h ha) nn (HR h ft) F.2 hl (λha=>?_) M tv;obtain⟨u,L,x⟩:=i8.mp ha;rcases ae2 L with y|y
  ·obtain⟨o,e⟩:=tr (i8.mpr ⟨u,y,x⟩);rw[hl]at e;cases e
  ·rw[y]at x;exact nl x
end
noncomputable abbrev qA:Y4:=eZ 53
section
variable{nu:Int}
theorem Ps.off(D:Ps K mg H hs nu gr W es ah ap as am sl ml res)(o:Off F H H')(k:mM H H')(n:∀a∈pE W,a∉F)(n2:∀a∈ah::ap::as::am::sl,a∉F):Ps K mg H' hs nu gr W es ah ap as am sl ml res:=
 ⟨D.wd.off o k λi w h a ha=>n a (vS h ha),o _ _ D.ha (n2 _ (by simp)),o _ _ D.hp (n2 _ (by simp)),o _ _ D.hs' (n2 _ (by simp)),D.ls,D.lm,λi a m e f=>⟨o _ _ (D.sd i a m e f).1 (n2 _ (by simp[YA e])),(D.sd i a m e f).2⟩,D.sn,⟨o _ _ D.md.dt (n2 _ (by simp)),λe b=>(D.md.tl e b).up k.smh,D.md.nd⟩,D.kp,D.out,D.n2,D.n4,D.nd,D.rs,D.ot,D.oi⟩
theorem QL(o:Off F H H')(h:∀a∈F,∃u,H a=Ya u/\∀xs,u≠.tup xs):dC H H':=λb xs e=>o b _ e λz=>by
 obtain⟨u,q,n⟩:=h b z;rw[e]at q;cases q;exact n xs rfl
theorem Ps.ftu(D:Ps K mg H hs nu gr W es ah ap as am sl ml res)(ha:a∈pE W):∃u,H a=Ya u/\∀xs,u≠.tup xs:=by
 obtain⟨w,hw,b⟩:=i8.mp ha;obtain⟨j,c⟩:=YS hw;obtain⟨o,e,f⟩:=D.wd.tr c b;exact⟨o,e,λxs z=>by rw[z]at f;exact f⟩
end
theorem Ps.ltr{nu:Int}(D:Ps K mg H hs nu gr W es ah ap as am sl ml res)(ha:a∈ah::ap::as::am::sl):∃u,H a=Ya u:=by
 rcases Yn.mp ha with z|ha
 ·rw[z];exact⟨_,D.ha⟩
 rcases Yn.mp ha with z|ha
 ·rw[z];exact⟨_,D.hp⟩
 rcases Yn.mp ha with z|ha
 ·rw[z];exact⟨_,D.hs'⟩
 rcases Yn.mp ha with z|ha
 ·rw[z];exact⟨_,D.md.dt⟩
 obtain⟨j,b⟩:=YS ha;have c:=(Yj.mp b).1;obtain⟨m,hm⟩:∃m,ml[j]?=Ya m:=⟨_,Yk (by rw[D.lm,←D.ls];exact c)⟩;exact⟨_,(D.sd j a m b hm).1⟩
def Xw(F:List Ye)(d H:Hp)(v:V)(e:Nat×List (V×bK)):Prop:=∃a b c,v=.ref a/\H a=Ya (.tup [.int e.1,.ref b])/\H b=Ya (.lst c)/\Gf H c e.2/\b∉F/\d b=Yb
theorem Xw.off{F':List Ye}{b:Hp}{e:Nat×List (V×bK)}(h:Xw F b H v e)(o:Off F H H')(u:dC H H')(n:∀a∈F',a∈F∨H a=Yb):Xw F' b H' v e:=by
 obtain⟨a,c,g,i,j,d,k,f,l⟩:=h;refine⟨a,c,g,i,u _ _ j,o _ _ d f,k.up u,λz=>?_,l⟩;rcases n c z with y|y
 ·exact f y
 ·rw[d]at y;cases y
def tG(K:Yc)(mg:Yo->Option Yd):Sp:=λf H Q _=>∃(g:Ye) (nu:Int) (ap h am d:Ye) (cell k:Int),f=[.ref g,.int nu,.ref ap,.ref h,.ref am,.ref d,.int cell,.int k]/\∃hs gr W i l o j,Ps K mg H hs nu gr W i g ap h am l o []/\i.length<=29/\0<=k/\k<=100/\H d=Ya (.lst j)/\sI W (i.map (·.1)) H j/\d∉pE W/\d∉g::ap::h::am::l/\j.length<=100/\
 ∀b r f m n e c,Ps K mg b hs nu gr m n g ap h am l o e->Off (am::d::pE W) H b->(∀a∈pE m,a∈pE W∨H a=Yb)->n.length<=i.length+ 1->b d=Ya (.lst c)->c.length<=j.length+ 1->sI m (n.map (·.1)) b c->H r=Yb->b r=Ya (.lst f)->fm (X8 H b) f e->Q (.ref r) b
abbrev Fe:List Yo:=["_law_hands_here","_law_number","_law_pages_here","_law_seen","_law_made","_law_pool","_law_cell","_law_k"]
theorem fh:aE ["_law_hands_here","_law_number","_law_pages_here","_law_seen","_law_made","_law_pool","_law_cell","_law_k","_law_amount","_law_draw","_law_at","_law_other","_law_rest"] Fe (ao qA):=eY
variable{uF:Ye}{rD:Ye}{ui:Ye}{wk:Ye}{lG:YD}{pO:YD}{rH:YD}{uj:YD}{qi:ac2}(fX:∅ 10 uF lG zj (rA K mg))(fy:Binds K lG zj [.int 0 qi,.none])(mL:Binds K lG zj [])(fu:∅ 10 rD pO Ed (jE K mg))(fE:Binds K pO Ed [])(uo:∅ 10 ui rH CZ (rO K))(uC:d6 K mg "_law_mixed" ui rH CZ)(wK:∅ 10 wk uj Ec (t9 K mg))(vZ:d6 K mg "_law_call" wk uj Ec)(cX:bx K bZ "listen" rD)(dy:bx K bZ "piece" uF)
include eV fX fy mL fu fE uo uC wK vZ eh jd aZ aU cX dy in
theorem CJ(F:bG K "_law_deed" "_law_deed" qA f fd):∅ 11 f fd Fe (tG K mg):=by
 refine F.oj fh ?_;rintro _ A _ _ H vs Q E Y aB _ hu ⟨ah,nu,ap,as,am,aq,cell,k,rfl,h⟩;refine⟨_,(aj (aW (i:=8) fh.nd rfl (Or.inl rfl) (br (de (K:=K) rfl) (by rfl) eh aat (aa (pv 2) af)))
   (aj (aW (i:=9) fh.nd rfl (Or.inl rfl) (a9 uo uC Y (aa (pv 6) (aa (pv 7) af))))
   (aj (aW (i:=10) fh.nd rfl (Or.inr rfl) (aX c8 (aX gF (pv 9) ay) (pv 8)))
   (aj (aW (i:=11) fh.nd rfl (Or.inl rfl) (aX c8 (aX eG (aX eG (pv 10) ay) (aX c8 (aX gF (pv 9) ay) (aX yU (pv 8) ay))) (pv 8)))
   (aj (dS (bo yE (aX c8 (pv 9) ay) ay (bu _)) (au (aL (a9 wK vZ Y (aa (pv 10) (aa (pv 0) (aa (pv 1) (aa (pv 2) (aa (pv 3) (aa (pv 4) (aa (pv 6) af)))))))))) bP)
   (aj (dS (bo qg (aX c8 (pv 9) ay) ay (bu _)) (aj (dw (sU (K:=K) rfl (Hk abH adh adi qK (pv 5) (aa (bO (bV.cons aZ.cl dy fX mL bV.nil) (bz (bT (K:=K) rfl) (pv 2) (pv 10) (λ_ _=>rfl)) Y (aa (aX c8 (aX gF (pv 9) ay) ay) (aa (aX c8 (aX gF (pv 9) ay) ay) af))) af))))
   (au (aL (dH af)))) bP)
   (aj (dS (PW.pt (sY (bo qg (aX c8 (pv 9) ay) ay (bu _)) (qN (bo (Gu (K:=K) rfl aB) (pv 5) (dH af) (bu _))))) (au (aL (dH (aa (cC (aa (pv 10) (aa (bO (bV.cons aZ.cl cX fu fE bV.nil) (bz (bT (K:=K) rfl) (pv 2) (pv 10) (λ_ _=>rfl)) Y (aa (bz (bT (K:=K) rfl) (pv 5) (aX c8 (aX gF (pv 9) ay) (br (de (K:=K) rfl) (by rfl) eh aat (aa (pv 5) af))) (λ_ _=>rfl)) af)) af))) af)))) bP)
   (aj (dS (bo qg (aX c8 (pv 9) ay) ay (bu _)) (aj (Ir (i:=12) ["_law_at","_law_one"] [Ya 10,Yb] fh.nd rfl (Or.inl rfl) rfl rfl (by kernel_rfl) (qL rfl jd (aa (pv 8) af)) (λ_ _ _ _ _ nd=>aP (i:=1) nd rfl (Or.inl rfl)) (λ_ _ _ _ _=>(d9 (bo Iv (pv 1) (pv 0) (bu _)))) (λ_ _ _ _ _=>(pv 1)))
   (au (aL (bM ["_law_pages_here","_law_at","_law_one"] [Ya 2,Ya 10,Yb] rfl rfl (by kernel_rfl) (bC (K:=K) rfl (pv 12)) (λ_ _ _ _ _ nd=>aP (i:=2) nd rfl (Or.inl rfl)) (λ_ _ _ _ _=>eE) (λ_ _ _ _ _=>(cC (aa (pv 2) (aa (bO (bV.cons aZ.cl cX fu fE bV.nil) (bz (bT (K:=K) rfl) (pv 0) (pv 2) (λ_ _=>rfl)) Y (aa (yQ (bz (bT (K:=K) rfl) (pv 0) (pv 1) (λ_ _=>rfl)) aZ.cl dy fX Y fy (show Vals [V.int 0,V.non] _ from(.cons ⟨_,rfl⟩ (.cons rfl .nil))) nQ) af)) af)))))))) bP)
   (aj (dS (bo qg (aX c8 (pv 9) ay) ay (bu _)) (au (aL (dH (aa (cC (aa (pv 10) (aa (bO (bV.cons aZ.cl cX fu fE bV.nil) (bz (bT (K:=K) rfl) (pv 2) (pv 10) (λ_ _=>rfl)) Y (aa (bO (bV.cons aZ.cl dy fX mL bV.nil) (bz (bT (K:=K) rfl) (pv 2) (pv 11) (λ_ _=>rfl)) Y (aa (aX c8 (aX gF (pv 9) ay) ay) (aa (aX eG ay (aX c8 (aX gF (pv 9) ay) ay)) af))) af)) af))) af)))) bP)
   (au (aL (dH (aa (cC (aa (pv 10) (aa (bO (bV.cons aZ.cl cX fu fE bV.nil) (bz (bT (K:=K) rfl) (pv 2) (pv 10) (λ_ _=>rfl)) Y (aa (yQ (bz (bT (K:=K) rfl) (pv 2) (pv 11) (λ_ _=>rfl)) aZ.cl dy fX Y fy (show Vals [V.int 0,V.non] _ from(.cons ⟨_,rfl⟩ (.cons rfl .nil))) nQ) af)) af))) af))))))))))))),?_⟩
 obtain⟨hs,gr,W,es,sl,ml,pl,D,bW,k0,k1,gq,po,nq,aD,bX,kk⟩:=h;have bZ:bc K H ap (W.map λw=>V.ref w.1):=bc.of D.hp;have lW:((W.map λw=>V.ref w.1).length:Int)=(hs.length:Int):=by rw[Yg,D.wd.len]
 have n2:=D.n2;have n4:=D.n4;cbv;rw[lW];cbv;refine⟨cell,k,rfl,k0,k1,λr r0 r1=>?_⟩;have ac:(0:Int)<(hs.length:Int):=by omega
 have b3:(0:Int)<(hs.length:Int)-1:=by omega
 have a0:=aae (r / 8) (afr ac);have a1:=aag (r / 8) ac;cbv;obtain⟨i,hi⟩:=aaR a0;rw[hi];rw[hi]at a1;cbv;have b0:=aae ((i:Int)+ 1+ r / 64%((hs.length:Int)-1)) (afr ac);have b1:=aag ((i:Int)+ 1+ r / 64%((hs.length:Int)-1)) ac;obtain⟨j,hj⟩:=aaR b0;rw[hj];rw[hj]at b1;have an:i<hs.length:=by omega
 have a3:j<hs.length:=by omega
 obtain⟨w,hw⟩:∃w,W[i]?=Ya w:=⟨_,Yk (by rw[D.wd.len];exact an)⟩;obtain⟨Z,J⟩:∃w,W[j]?=Ya w:=⟨_,Yk (by rw[D.wd.len];exact a3)⟩;have bF:u5 (W.map λw=>V.ref w.1) (i:Int)=Ya (.ref w.1):=cD (by rw[Yy,hw];rfl);have bH:u5 (W.map λw=>V.ref w.1) (j:Int)=Ya (.ref Z.1):=cD (by rw[Yy,J];rfl);obtain⟨C,dx,mP,T,hp⟩:=(D.wd.pg i w hw).ob;have eC:=mP;rw[aU]at eC;cases eC;obtain⟨Cj,a4,a5,Tj,a6⟩:=(D.wd.pg j Z J).ob;have eC:=a5;rw[aU]at eC;cases eC;have aI:aq≠am:=λz=>aD (by simp[z]);have xR:∀{i:Nat} {w:PW},W[i]?=Ya w->w.2.1.kp.length<64:=fun{i w} h=>by
  have:=(D.wd.ok i w h).kl;rw[Yg]at this;omega
 have done:∀{A L A2:Hp} {d:List PW} {rw:List (V×bK)} {l u r:Ye} {ys:List V},aH H A->Ps K mg L hs nu gr d es ah ap as am sl ml ([]++[(i,rw)])->Off (pE W) A L->mM A L->(∀a,L a=Yb->A a=Yb)->(∀a∈pE d,a∈pE W∨A a=Yb)->FK W d->A l=Yb->aH L A2->L l=Ya (.lst ys)->Gf L ys rw->A2 u=Ya (.tup [.int i,.ref l])->L r=Yb->A2 r=Ya (.lst [.ref u])->Q (.ref r) A2:=fun{A L A2 d rw l u r ys} S D' M p G c g0 hl O gl tv gu a7 ar=>by
  refine kk A2 r _ d es [(i,rw)] pl (D'.same O) (λb o e x=>O _ _ (M b o (S _ _ e) λz=>x (by simp[z]))) (λa ha=>(c a ha).imp id S.free) (by omega) (O _ _ (M _ _ (S _ _ gq) nq)) (by omega) ((((po.gr g0).up (dC.same S)).up p.smh).up (dC.same O)) (S.free (G _ a7)) ar (.cons ⟨u,l,ys,rfl,gu,O _ _ gl,tv.up (dC.same O),S.free hl⟩ .nil)
 cbv;refine dh (λ_=>?_) λ_=>?_
 ·cbv;refine⟨i,ah,nu,ap,as,am,cell,rfl,hs,gr,W,es,sl,ml,w,D,an,hw,by omega,λL r vs d Zk rw D' M ex g0 c Y ar pr=>?_⟩;obtain⟨ex,rfl,b4⟩:=ex;have sm:dC H L:=QL M λa ha=>by
   rcases Yn.mp ha with z|z
   ·rw[z];exact⟨_,D.md.dt,λxs z=>by cases z⟩
   ·exact D.ftu (vS hw z)
  refine kk L r vs d _ [(i,rw)] pl D' (λb o e x=>M b o e λz=>x ?_) c (by rw[Yu];omega) (M _ _ gq λz=>?_) (by omega) (by rw[Yx];exact((po.gr g0).mono).up sm) Y ar pr
  ·rcases Yn.mp z with z|z
   ·simp[z]
   ·simp[vS hw z]
  ·rcases Yn.mp z with z|z
   ·exact aI z
   ·exact nq (vS hw z)
 refine zt ?_;have a8:=aae (r / 512) (show(3:Int)≠0 by decide);have ba:=aae (r / 2048) (show(4:Int)≠0 by decide);cbv;refine dh (λ_=>?_) λ_=>?_
 ·cbv;refine⟨w.1,_,_,rfl,w.2.1,w.2.2,D.wd.pg i w hw,xR hw,a8,.inr ⟨_,ba,rfl⟩,λH1 t zs g ht pz pa=>?_⟩;have bb:=g _ _ gq;have pc:=D.pc hw pz pa;cbv;intro H2 b2 g2;cbv;intro rr H3 R U g3;have o2:Off [aq] H1 H2:=λb u e x=>b2.at (λz=>x (Yi.mpr z)) e;have av:mM H1 H2:=o2.kpf1 bb trivial;have D2:=(D.same g).off o2 av (λa ha z=>nq (by rw[←Yi.mp z];exact ha)) λa ha z=>aD (by rw[←Yi.mp z];exact ha);have bd:∀a,H2 a=Yb->H a=none:=λa e=>g.free (by
   cases v:H1 a with
   |none=>rfl
   |some u=>
    by_cases z:a=aq
    ·rw[z,g2]at e;cases e
    ·rw[b2.at z v]at e;cases e)
  refine kk H3 rr [] W es [] (pl++[.ref t]) (D2.same U) (λb o e x=>U _ _ (o2 b o (g _ _ e) λz=>x (by simp[Yi.mp z]))) (λa ha=>.inl ha) (by omega) (U _ _ g2) (by rw[Yu];exact Yl _) (λv hv=>?_) (bd _ R) g3 .nil;rcases YM.mp hv with z|z
  ·exact((po.up (dC.same g)).up (av.smh.trans (dC.same U))) v z
  ·exact⟨t,_,Yi.mp z,pc.up (av.smh.trans (dC.same U))⟩
 refine Oj ?_;dsimp only;refine Be (λσ A=>σ=[Ya (.ref ah),Ya (.int nu),Ya (.ref ap),Ya (.ref as),Ya (.ref am),Ya (.ref aq),Ya (.int cell),Ya (.int k),Ya (.int (hs.length:Nat)),Ya (.int r),Ya (.int i),Ya (.int j),Yb]/\aH H A) ?_ λN Zc=>?_
 rotate_left
 ·cbv;refine dh (λ_=>?_) λ_=>?_
  ·cbv;intro e2 H1 b5 g be;obtain⟨ds,hd,bf⟩:=(po.up (dC.same g)).dps (K:=K) D.wd.mo.wf;refine HK (bc.of (g _ _ gq)) hd bf (bc.of be) ?_;by_cases z:ds=[]
   ·rw[decide_eq_true z];cbv;exact Zc _ _ ⟨rfl,g⟩
   rw[decide_eq_false z];have b6:0<pl.length:=by
    cases hd with
    |nil=>exact absurd rfl z
    |cons _ _=>exact ab7 _
   have b7:bc K H1 aq pl:=bc.of (g _ _ gq);have bL:bc K H1 ap (W.map λw=>V.ref w.1):=bc.of (g _ _ D.hp);have b8:=g _ _ hp;have ag:(0:Int)<(pl.length:Int):=by omega
   have i0:=aae (r / 512) (afr ag);have i1:=aag (r / 512) ag;obtain⟨ix,bg⟩:=aaR i0;obtain⟨v,hv⟩:∃v,pl[ix]?=Ya v:=⟨_,Yk (by omega)⟩;have aK:u5 pl (r / 512%(pl.length:Int))=Ya v:=by rw[bg];exact cD hv
   obtain⟨t,sm,rfl,pc⟩:=po v (YA hv);cbv;refine(D.same g).listen hw (by simp) (pc.up (dC.same g)) (by omega) λL d rw l ys D' M p G c g0 hl nl gl tv=>?_;cbv;intro u A1 hu O gu;cbv;intro rr A2 R U g3;exact done g D' M p G c g0 hl (O.trans U) gl tv (U _ _ gu) (O.free R) g3
  ·cbv;exact Zc _ _ ⟨rfl,.refl _⟩
 rintro σ A ⟨rfl,S⟩;have DA:=D.same S;refine zt ?_;cbv;refine dh (λ_=>?_) λ_=>?_
 ·cbv;refine⟨_,rfl,by omega,by omega,λE0 aw=>?_⟩;refine sD (λm σ B=>∃v,σ=[Ya (.int i),v]/\aH A B/\B E0=Ya (.lst (((YR m).filter λq=>decide (q≠i)).map fun(q:Nat)=>V.int q))) ⟨Yb,rfl,aC aw,ai⟩ ?_ ?_
  ·rintro m σ B hm ⟨v,rfl,sB,gB⟩;rw[abw,Y3,Yx];have lf:=Y0 (λq=>decide (q≠i)) (YR m);rw[oh]at lf;have b9:m<hs.length:=by rw[YQ]at hm;exact hm
   have e0:(0:Int)+ (m:Int)=(m:Int):=afq _;rw[e0];cbv;refine dh (λz=>?_) λz=>?_
   ·have z:m≠i:=λy=>by rw[y,decide_eq_true rfl]at z;cases z
    cbv;refine⟨_,gB,aG (by rw[Yg];omega),_,rfl,λb o q=>?_,?_⟩
    ·rw[ak (ax q aw)];exact sB b o q
    ·rw[ai,afz (by exact decide_eq_true z)];rfl
   ·have z:m=i:=by
     by_cases y:m=i
     ·exact y
     ·exact absurd (by rw[decide_eq_false (show ¬ (m:Int)=(i:Int) by omega)];rfl) z
    refine⟨_,rfl,sB,?_⟩;rw[afA (by rw[decide_eq_false (λy=>y z)];exact YX)];exact gB.trans (by simp)
  rintro σ A1 ⟨v,rfl,g,g1⟩;rw[YQ]at g1;obtain⟨rs,ad⟩:∃rs,rs=(YR hs.length).filter λq=>decide (q≠i):=⟨_,rfl⟩;have bh:rs.Nodup:=by rw[ad];exact afp.filter _
  have bi:∀q∈rs,q<hs.length:=λq hq=>by
   rw[ad]at hq;exact xu.mp (cw.mp hq).1
  have bR:rs.length<=4:=by
   have:=Y0 (λq=>decide (q≠i)) (YR hs.length);rw[←ad,oh]at this;omega
  rw[←ad]at g1;have X:aH H A1:=S.trans g;have D1:=D.same X;cbv;intro E hE;have nE:E∉pE W:=λz=>by
   obtain⟨u,e,_⟩:=D1.ftu z;rw[hE]at e;cases e
  have bj:E∉ah::ap::as::am::sl:=λz=>by
   obtain⟨u,e⟩:=D1.ltr z;rw[hE]at e;cases e
  let aN:Nat->St->Hp->Prop:=λm σ B=>∃v d s xs,σ=[Ya (.ref ap),Ya (.int i),v]/\Ps K mg B hs nu gr d es ah ap as am sl ml s/\s.map (·.1)=rs.take m/\B E=Ya (.lst xs)/\fm (Xw (E::pE d) H B) xs s/\Off (pE W) A1 B/\dC A1 B/\(∀a∈pE d,a∈pE W∨A1 a=Yb)/\E∉pE d/\(∀a,B a=Yb->A1 a=Yb)/\FK W d;refine bD (K:=K) (a:=E0) (xs:=rs.map fun(q:Nat)=>V.int q) aN ?_ ?_ ?_ ?_
  ·have se:=aC (o:=.lst []) hE;exact⟨Yb,W,[],[],rfl,D1.same se,rfl,ai,.nil,Off.of se,dC.same se,λa ha=>.inl ha,nE,λa e=>se.free e,.refl _⟩
  ·rintro m σ B _ ⟨_,_,_,_,_,_,_,_,_,o,_⟩;exact bc.of (o _ _ g1 λz=>by
    obtain⟨u,e,_⟩:=D.ftu z;have:=S.free aw;rw[e]at this;cases this)
  ·rintro m y σ B hy ⟨v,d,s,xs,rfl,DB,er,gE,pr,oB,uB,fB,az,ae,gB⟩;rw[Yy]at hy;obtain⟨q,hq,rfl⟩:=aaF.mp hy;have hm:=(Yj.mp hq).1;have bl:=bi q (YA hq);have bm:q∉s.map (·.1):=by
    rw[er];intro z;have:=aQ hq;have nd:(rs.take (m+ 1)).Nodup:=bh.sublist (acy _ _);rw[this,KW]at nd;exact nd.2.2 q z q (Yi.mpr rfl) rfl
   obtain⟨wq,aA⟩:∃w,d[q]?=Ya w:=⟨_,Yk (by rw[DB.wd.len];exact bl)⟩;obtain⟨wi,ab⟩:∃w,d[i]?=Ya w:=⟨_,Yk (by rw[DB.wd.len];exact an)⟩;have aK:u5 (d.map λw=>V.ref w.1) (q:Int)=Ya (.ref wq.1):=cD (by rw[Yy,aA];rfl);have bn:u5 (d.map λw=>V.ref w.1) (i:Int)=Ya (.ref wi.1):=cD (by rw[Yy,ab];rfl);obtain⟨Cq,ca,aR,Tq,cc⟩:=(DB.wd.pg q wq aA).ob;rw[aU]at aR;cases aR;obtain⟨Ci,bt,aS,Ti,bv⟩:=(DB.wd.pg i wi ab).ob;rw[aU]at aS;cases aS;have cd:bc K B ap (d.map λw=>V.ref w.1):=bc.of DB.hp;have ce:xs.length=s.length:=Y7 pr;have cf:s.length<=4:=by
    have:=congrArg adu er;rw[Yg,xj]at this;omega
   have bE:wi.2.1.kp.length<64:=by
    have:=(DB.wd.ok i wi ab).kl;rw[Yg]at this;omega
   cbv;refine BC ?_;cbv;refine⟨wi.1,bt,_,rfl,bv,vG,?_⟩;cbv;refine⟨wi.1,0,.non,rfl,wi.2.1,wi.2.2,DB.wd.pg i wi ab,bE,by decide,.inl rfl,λB1 t zs n ht pz pa=>?_⟩;cbv;refine(DB.same n).listen aA bm (DB.pc ab pz pa) (by omega) λL W2 rw l ys D' M p G c g0 hl nl gl tv=>?_;cbv;intro u B2 hu I gu;have aT:B2 E=Ya (.lst xs):=I _ _ (M _ _ (n _ _ gE) az);have oE:Off [E] B2 (upd B2 E (.lst (xs++[.ref u]))):=λb o e x=>by rw[ak λz=>x (Yi.mpr z)];exact e
   have kE:mM B2 _:=oE.kpf1 aT trivial;have lE:l≠E:=λz=>by rw[z,n _ _ gE]at hl;cases hl
   have al:E∉pE W2:=λz=>by
    rcases c E z with y|y
    ·exact az y
    ·rw[n _ _ gE]at y;cases y
   refine⟨xs,aT,aG (by omega),_,W2,s++[(q,rw)],xs++[.ref u],rfl,(D'.same I).off oE kE (λa ha z=>al (by rw[←Yi.mp z];exact ha)) (λa ha z=>bj (by rw[←Yi.mp z];exact ha)),?_,ai,?_,?_,?_,λa ha=>(c a ha).elim (fB a) λy=>.inr (ae a (n.free y)),al,λa e=>?_,gB.trans g0⟩
   ·rw[aQ hq,Yx,er];rfl
   ·refine oV (fm.mapP pr λ_ _ z=>?_) ?_
    ·have z1:=z.off (F':=E::pE d) (Off.of n) (dC.same n) λa ha=>.inl ha;have z2:=z1.off (F':=E::pE W2) (λb o e x=>I _ _ (M b o e λy=>x (Yr _ y))) (p.smh.trans (dC.same I)) λa ha=>by
      rcases Yn.mp ha with y|y
      ·exact .inl (by simp[y])
      ·exact(c a y).imp (Yr _) id
     exact z2.off (λb o e x=>oE b o e λy=>x (by simp[Yi.mp y])) kE.smh λa ha=>.inl ha
    ·refine⟨u,l,ys,rfl,kE.smh _ _ gu,oE _ _ (I _ _ gl) (by simp[lE]),(tv.up (dC.same I)).up kE.smh,λz=>?_,X.free (ae l (n.free hl))⟩;rcases Yn.mp z with y|y
     ·exact lE y
     ·exact nl y
   ·intro b o e x;have e1:=n _ _ (oB b o e x);have n1:b∉pE d:=λz=>by
     rcases fB b z with y|y
     ·exact x y
     ·rw[e]at y;cases y
    exact oE _ _ (I _ _ (M b o e1 n1)) (λz=>by rw[Yi.mp z,hE]at e;cases e)
   ·exact uB.trans ((dC.same n).trans (p.smh.trans ((dC.same I).trans kE.smh)))
   ·by_cases z:a=E
    ·rw[z,ai]at e;cases e
    ·rw[ak z]at e;exact ae a (n.free (G a (I.free e)))
  rintro σ B ⟨v,d,s,xs,rfl,DB,er,gE,pr,oB,uB,fB,az,ae,gB⟩;cbv;have oH:Off (pE W) H B:=λb o e x=>oB b o (X _ _ e) x;exact kk B E xs d es s pl DB (λb o e x=>oH b o e λz=>x (by simp[z])) (λa ha=>(fB a ha).imp id X.free) (by omega) (oH _ _ gq nq) (by omega) (((po.gr gB).up (dC.same X)).up uB) (X.free hE) gE (fm.mapP pr λ_ _ ⟨a,fl,ys,e1,e2,e3,e4,_,e5⟩=>⟨a,fl,ys,e1,e2,e3,e4,e5⟩)
 have bS:bc K A ap (W.map λw=>V.ref w.1):=bc.of DA.hp;have ch:=S _ _ hp;have aV:=S _ _ a6;have a2:=aae (r / 512) (show(4:Int)≠0 by decide);have ci:=aae (r / 2048) (show(2:Int)≠0 by decide);cbv;refine dh (λ_=>?_) λ_=>?_
 ·cbv;refine⟨Z.1,_,_,rfl,Z.2.1,Z.2.2,DA.wd.pg j Z J,xR J,a2,.inr ⟨_,by omega,rfl⟩,λH1 t zs g ht pz pa=>?_⟩;cbv;refine(DA.same g).listen hw (by simp) (DA.pc J pz pa) (by omega) λL d rw l ys D' M p G c g0 hl nl gl tv=>?_;cbv;intro u A1 hu O gu;cbv;intro rr A2 R U g3;exact done (S.trans g) D' M p G c g0 hl (O.trans U) gl tv (U _ _ gu) (O.free R) g3
 cbv;refine BC ?_;cbv;refine⟨Z.1,a4,_,rfl,aV,vG,?_⟩;cbv;refine⟨Z.1,0,.non,rfl,Z.2.1,Z.2.2,DA.wd.pg j Z J,xR J,by decide,.inl rfl,λH1 t zs g ht pz pa=>?_⟩;cbv;refine(DA.same g).listen hw (by simp) (DA.pc J pz pa) (by omega) λL d rw l ys D' M p G c g0 hl nl gl tv=>?_;cbv;intro u A1 hu O gu;cbv;intro rr A2 R U g3;exact done (S.trans g) D' M p G c g0 hl (O.trans U) gl tv (U _ _ gu) (O.free R) g3
noncomputable abbrev qy:Y4:=bw (eZ 46) 15
noncomputable def gN(n:Nm):Int:=n.2.1*64+ n.2.2
noncomputable def NT(n:Nm):List Int:=[n.1,n.2.1,n.2.2]
def OK(H:Hp)(v:V)(n:Nm):Prop:=∃b,v=.ref b/\H b=Ya (.tup [.int n.1,.int n.2.1,.int n.2.2])
theorem OK.up(s:dC H H'){n:Nm}(h:OK H v n):OK H' v n:=by
 obtain⟨b,e,g⟩:=h;exact⟨b,e,s _ _ g⟩
theorem ltN{a b:Nm}(e:a.1=b.1)(ha:0<a.2.2/\a.2.2<64)(c:0<b.2.2/\b.2.2<64):GG (NT a) (NT b)=decide (gN a<gN b):=by
 unfold GG;show(if a.1=b.1 then(if a.2.1=b.2.1 then(if a.2.2=b.2.2 then _ else decide (a.2.2<b.2.2))else decide (a.2.1<b.2.1))else _)=decide (a.2.1*64+ a.2.2<b.2.1*64+ b.2.2);rw[if_pos e];by_cases z:a.2.1=b.2.1
 ·rw[if_pos z];by_cases y:a.2.2=b.2.2
  ·rw[if_pos y];exact(decide_eq_false (by omega)).symm
  ·rw[if_neg y];exact decide_eq_decide.mpr (by omega)
 ·rw[if_neg z];exact decide_eq_decide.mpr (by omega)
theorem WN{α:Type}{z:List α}{f:α->List Int}{g:α->Int}{v:α->V}(d:α)(od:tP (z.map f) (z.map v) ws)(lt:∀a∈z,∀b∈z,GG (f a) (f b)=decide (g a<g b))(nd:(z.map g).Nodup):∃r:List α,r.Perm z/\(r.Pairwise λa b=>g a<g b)/\ws=r.map v:=by
 obtain⟨p,hp,rfl,ho⟩:=od;rw[Yg]at ho;have hp:p.toList.Perm (YR z.length):=by
  have:=hp;unfold jI at this;rw[Yg]at this;exact this
 have t:p.toList.length=z.length:=by
  have:=hp.length_eq;rw[oh]at this;exact this
 have n:p.toList.Nodup:=hp.nodup_iff.mpr afp;have l:∀i (c:i<p.toList.length),p.toList[i]<z.length:=λi c=>xu.mp (hp.mem_iff.mp (aa5 c));have q:∀i (c:i<p.toList.length),p.getD i 0=p.toList[i]:=λi c=>by
  have o:i<p.size:=by rw[YO]at c;exact c
  rw[YE,YI o,acT];rfl
 have h:∀i (c:i<z.length),z.getD i d=z[i]:=λi c=>by rw[YJ,Yk c];rfl
 have kd:∀i (c:i<z.length),(z.map f).getD i []=f z[i]:=λi c=>by
  rw[YJ,Yy,Yk c];rfl
 have lk:∀i j (c:i<z.length) (e:j<z.length),GG ((z.map f).getD i []) ((z.map f).getD j [])=decide (g z[i]<g z[j]):=λi j c e=>by
  rw[kd i c,kd j e];exact lt _ (aa5 c) _ (aa5 e)
 refine⟨p.toList.map λi=>z.getD i d,?_,?_,?_⟩
 ·have:=hp.map λi=>z.getD i d;rw[show(YR z.length).map (λi=>z.getD i d)=z from jq z d]at this;exact this
 ·rw[abb,tq];intro i j c e k;have h1:=ho ⟨λi=>g (z.getD i d),λi j c e=>by rw[lk i j c e];show _=decide (g (z.getD i d)<g (z.getD j d));rw[h i c,h j e]⟩ i j (rl k) (by omega);rw[q i c,q j e,lk _ _ (l j e) (l i c)]at h1;have h1:=of_decide_eq_false h1;rw[h _ (l i c),h _ (l j e)];have s:∀a b (ha:a<z.length) (m:b<z.length),a<b->g z[a]≠g z[b]:=λa b ha m ab=>by
   have:=tq.mp nd a b (by rw[Yg];exact ha) (by rw[Yg];exact m) ab;rw[ab9,ab9]at this;exact this
  have fin:∀a b (ha:a<z.length) (m:b<z.length),a≠b->¬ g z[b]<g z[a]->g z[a]<g z[b]:=λa b ha m ne h1=>by
   have:g z[a]≠g z[b]:=by
    rcases aey ne with y|y
    ·exact s _ _ _ _ y
    ·exact(s _ _ _ _ y).symm
   omega
  exact fin _ _ _ _ (tq.mp n i j c e k) h1
 ·rw[gf];refine aax λi c=>?_;have:=xu.mp (hp.mem_iff.mp c);show(z.map v).getD i V.non=v (z.getD i d);rw[h i this,YJ,Yy,Yk this];rfl
theorem Xr{α β:Type}{R:V->β->Prop}(f:α->β):∀{a:List (V×α)},(∀q∈a,R q.1 (f q.2))->fm R (a.map (·.1)) (a.map λq=>f q.2)
 |[],_=>.nil
 |q::a,h=>.cons (h q Ys) (Xr f λr b=>h r (Yr _ b))
theorem RN{H:Hp}:∀{vs:List V} {cs:List bK},fm (Xu H) vs (cs.map dX)->∃z:List (V×Nm),z.map (·.1)=vs/\z.map (·.2)=cs.map wN/\∀q∈z,OK H q.1 q.2
 |[],[],.nil=>⟨[],rfl,rfl,λq a=>nomatch a⟩
 |v::vs,c::cs,.cons ⟨b,e,g⟩ t=>by
  obtain⟨z,h1,h2,h3⟩:=RN t;refine⟨(v,wN c)::z,by rw[YF,h1],by rw[YF,h2];rfl,λq a=>?_⟩;rcases Yn.mp a with w|w
  ·rw[w];exact⟨b,e,g⟩
  ·exact h3 q w
structure KL(nu:Int)(ns:List Nm):Prop where
 nu:∀n∈ns,n.1=nu/\0<n.2.2/\n.2.2<64
 nd:ns.Nodup
variable{nu:Int}
theorem KL.g(h:KL nu ns):(ns.map gN).Nodup:=by
 unfold agK;rw[abb];refine h.nd.imp_of_mem fun{a b} ha c ne e=>ne ?_;obtain⟨d,g,i⟩:=h.nu a ha;obtain⟨f,j,k⟩:=h.nu b c;have e:a.2.1*64+ a.2.2=b.2.1*64+ b.2.2:=e;exact aem (d.trans f.symm) (aem (by omega) (by omega))
theorem KL.kys(h:KL nu ns):Ry (ns.map NT):=by
 refine⟨⟨3,λk c=>?_⟩,?_⟩
 ·obtain⟨n,_,rfl⟩:=YC.mp c;rfl
 ·unfold agK;rw[abb];refine h.nd.imp fun{a b} ne e=>ne ?_;unfold NT at e;obtain⟨d,e⟩:=mr e;obtain⟨f,e⟩:=mr e;exact aem d (aem f (mr e).1)
theorem KL.lt(h:KL nu ns):∀a∈ns,∀b∈ns,GG (NT a) (NT b)=decide (gN a<gN b):=λa ha b c=>
 ltN ((h.nu a ha).1.trans (h.nu b c).1.symm) (h.nu a ha).2 (h.nu b c).2
theorem DL{K:Yc}{z:List (V×Nm)}(h:∀q∈z,OK H q.1 q.2):fm (λv k=>k≠[]/\∃t r,v=.ref t/\bI K H t (k.map V.int++r)) (z.map (·.1)) (z.map λq=>NT q.2):=
 Xr NT λq a=>by
  obtain⟨b,e,g⟩:=h q a;exact⟨List.cons_ne_nil _ _,b,[],e,bI.of g⟩
def uH(K:Yc)(mg:Yo->Option Yd):Sp:=λd H Q _=>∃(p:Ye),d=[.ref p]/\∃S x nu,gZ K mg H p S x/\S.kp.length<=59/\KL nu (S.kp.map λq=>wN q.2)/\
 ∀c l r,aH H c->H l=Yb->c l=Ya (.lst ((r:List (V×Nm)).map (·.1)))->(∀q∈r,OK c q.1 q.2)->(r.map (·.2)).Perm (S.kp.map λq=>wN q.2)->(r.Pairwise λa b=>gN a.2<gN b.2)->Q (.ref l) c
theorem CB:aE ["self"] aO (ao qy):=eY
include eV gK dP aZ aU in
theorem BZ(F:bG K "kept" "Page.kept" qy f fd):∅ 1 f fd aO (uH K mg):=by
 refine F.oj CB ?_;rintro _ _ _ _ H c _ _ _ _ _ _ ⟨p,rfl,h⟩;refine⟨_,(au (aL (br (qD (K:=K) rfl) (by rfl) dP aa7 (aa (bN (FI rfl) (by rfl) gK aaX (aa (aJ (K:=K) rfl (pv 0) rfl) af)) af)))),?_⟩;obtain⟨S,x,nu,PA,lk,G,t⟩:=h;obtain⟨C,I,J,T,hp⟩:=PA.ob;obtain⟨cl,n1,n2,n3,n4,n5,n6,n7,n8,n9,n10,n11⟩:=id T;have u:=PA.kp;cbv;refine⟨x.k,_,rfl,u,by rw[Yg];omega,λl c hl pv=>?_⟩;have e:aH H (upd H l (.lst c)):=aC hl;have m:upd H l (.lst c) l=Ya (.lst c):=ai;generalize upd H l (.lst c)=H1 at e m⊢;have v:(S.kp.map Bz).map (·.1)=(S.kp.map (·.2)).map dX:=by rw[gf,gf];rfl
 rw[v]at pv;obtain⟨z,j,i,y⟩:=RN pv;have A:(S.kp.map (·.2)).map wN=S.kp.map λq=>wN q.2:=by rw[gf];rfl
 rw[A]at i;have d:∀q∈z,OK H1 q.1 q.2:=λq k=>(y q k).up (.same e);have L:z.length=S.kp.length:=by
  have:=congrArg adu i;rw[Yg,Yg]at this;exact this
 rw[←i]at G;cbv;refine⟨l,c,z.map (λq=>NT q.2),rfl,bc.of m,?_,?_,?_,λB M h2 od=>?_⟩
 ·rw[←j,Yg];omega
 ·have:=G.kys;rw[gf]at this;exact this
 ·rw[←j];exact DL d
 rw[←j]at od;obtain⟨r,n,D,rfl⟩:=WN (g:=λq=>gN q.2) (.non,(0,0,0)) od (λa ha b E=>G.lt _ (YV ha) _ (YV E)) (by
  have:=G.g;rw[gf]at this;exact this)
 have s:=aC (o:=.lst (r.map (·.1))) h2;exact t _ B r (e.trans s) (e.free h2) ai (λq k=>(d q (n.mem_iff.mp k)).up (.same s)) (by rw[←i];exact n.map _) D
noncomputable abbrev iY:Y4:=eZ 54
noncomputable abbrev mN:Y4:=eZ 55
def lN(K:Yc):Sp:=λf H Q _=>∃(a t:Ye),f=[.ref a,.ref t]/\∃b n c k,H a=Ya (.lst ((b:List Ye).map V.ref))/\H t=Ya (.tup [.int n,.int c,.int k])/\(∀d∈b,∃m,H d=Ya (.dK (dI m))/\Td m/\k<=ct m c)/\∀e,aH H e->Q (.bl true) e
abbrev EJ:List Yo:=["_law_seen","_law_name"]
theorem vL:aE ["_law_seen","_law_name"] EJ (ao iY):=eY
include eV in
theorem vJ(F:bG K "_law_all_have" "_law_all_have" iY f fd):∅ 1 f fd EJ (lN K):=by
 refine F.oj vL ?_;rintro _ A _ _ H _ _ _ _ b _ u ⟨l,t,rfl,h⟩;refine⟨_,(au (aL (jg (L7 (K:=K) rfl b) (bM ["_law_name","_law_counts"] [Ya 1,Yb] rfl rfl (by kernel_rfl) (bC (K:=K) rfl (pv 0)) (λ_ _ _ _ _ nd=>aP (i:=1) nd rfl (Or.inl rfl)) (λ_ _ _ _ _=>(d9 (bo yE (yJ u (pv 1) (bz (bA (K:=K) rfl) (pv 0) ay (λ_ _=>rfl)) ay ⟨rfl,rfl,rfl,rfl⟩) (bz (bA (K:=K) rfl) (pv 0) ay (λ_ _=>rfl)) (bu _)))) (λ_ _ _ _ _=>(pv 1))) (dH af) (bu _)))),?_⟩;obtain⟨o,n,c,k,q,x,B,C⟩:=h;have D:bc K H l (o.map V.ref):=bc.of q;cbv;intro E g;refine bD (K:=K) (a:=l) (xs:=o.map V.ref) (λi σ A=>∃v,σ=[Ya (.ref t),v]/\aH H A/\A E=Ya (.lst [])) ⟨Yb,rfl,aC g,ai⟩ ?_ ?_ ?_
 ·rintro i σ A _ ⟨_,_,z,_⟩;exact bc.of (z _ _ q)
 ·rintro i y σ A r ⟨v,rfl,e,j⟩;rw[Yy]at r;obtain⟨d,hd,rfl⟩:=aaF.mp r;obtain⟨m,G,I,le⟩:=B d (YA hd);have J:bI K A t [.int n,.int c,.int k]:=bI.of (e _ _ x);have L:=e _ _ G;have nd:=I.nd;cbv;refine dh (λz=>?_) λ_=>⟨_,rfl,e,j⟩;have z:ct m c<k:=of_decide_eq_true z;omega
 rintro σ A ⟨v,rfl,e,j⟩;cbv;intro p N hp s M;exact KI (d:=.list []) (.inr ⟨_,_,_,rfl,rfl,bc.of (s _ _ j),.nil⟩) (.inr ⟨_,_,_,rfl,rfl,bc.of M,.nil⟩) (by decide +kernel) (by decide) (C _ (e.trans s))
theorem Ih(h:∀q∈r,OK H q.1 q.2):oT H (r.map (·.1)) (r.map (·.2)):=Xr (f:=id) h
theorem S4(G:KL nu (r.map (·.2)))(up:r.Pairwise λa b=>gN a.2<gN b.2)(od:tP (r.map λq=>NT q.2) (r.map (·.1)) ws):ws=r.map (·.1):=by
 obtain⟨f,c,d,rfl⟩:=WN (g:=λq=>gN q.2) (.non,(0,0,0)) od (λa ha b e=>G.lt _ (YV ha) _ (YV e)) (by
  have:=G.g;rw[gf]at this;exact this)
 rw[ajp (le:=λa b:V×Nm=>gN a.2<gN b.2) (λa b _ _ x y=>by omega) d up c]
noncomputable def nK(n:Nm):List bJ:=[.inl n.1,.inl n.2.1,.inl n.2.2]
theorem KL.k(h:KL nu ns):(ns.map nK).Nodup:=by
 unfold agK;rw[abb];refine h.nd.imp fun{a b} ne e=>ne ?_;unfold nK at e;obtain⟨c,e⟩:=mr e;obtain⟨d,e⟩:=mr e;exact aem (aaA c) (aem (aaA d) (aaA (mr e).1))
def rE(K:Yc):Sp:=λn H Q _=>∃(l:Ye) (i:Nat) (h j am:Ye),n=[.ref l,.int (i:Nat),.ref h,.ref j,.ref am]/\∃r hs c f nu me m d,
 H l=Ya (.lst ((r:List (V×Nm)).map (·.1)))/\(∀q∈r,OK H q.1 q.2)/\(r.Pairwise λa b=>gN a.2<gN b.2)/\KL nu (r.map (·.2))/\r.length<=59/\
 H h=Ya (.lst ((hs:List Int).map V.int))/\hs[i]?=Ya me/\H j=Ya (.lst ((c:List Ye).map V.ref))/\c[i]?=Ya d/\H d=Ya (.dK (dI m))/\Td m/\Vm H am f/\(∀q∈r,∃e∈f,wN e.1=q.2)/\
 (∀e∈f,e.1.c=me∨e.1.k<=ct m e.1.c->wN e.1∈r.map (·.2)∨∀d∈c,∃g,H d=Ya (.dK (dI g))/\Td g/\e.1.k<=ct g e.1.c)/\∀k,aH H k->Q (.bl true) k
abbrev Ek:List Yo:=["_law_kept","_law_at","_law_hands_here","_law_seen","_law_made"]
theorem kR:aE ["_law_kept","_law_at","_law_hands_here","_law_seen","_law_made","_law_name","_law_known"] Ek (ao mN):=eY
variable{om:Ye}{lY:YD}(oP:∅ 1 om lY EJ (lN K))(nP:d6 K mg "_law_all_have" om lY EJ)
include eV oP nP gX eh gK AU dP in
theorem z4(F:bG K "_law_right" "_law_right" mN f fd):∅ 2 f fd Ek (rE K):=by
 refine F.oj kR ?_;rintro _ A _ _ H _ _ _ hr g _ hu ⟨l,i,ah,as,am,rfl,h⟩;refine⟨_,(aj (dS (PW.pt (RC (tf (dA K rfl (br (u9 (K:=K) rfl) (by rfl) gX acM (aa (pv 0) (aa (BY gK aaX) af))))) (RC (bo (Gu (K:=K) rfl g) (pv 0) (br (qD (K:=K) rfl) (by rfl) dP aa7 (aa (pv 0) af)) (bu _)) (Sf (bo Iv (br Ja (by rfl) eh aat (aa (bN (Jf rfl g) (by rfl) AU (show abh "set"=Ya (.type "set") by decide +kernel) (aa (pv 0) af)) af)) (br (de (K:=K) rfl) (by rfl) eh aat (aa (pv 0) af)) (bu _)))))) (au (aL q5)) bP)
   (aj (dS (bo (Gu (K:=K) rfl g) (bM ["_law_made","_law_name"] [Ya 4,Yb] rfl rfl (by kernel_rfl) (bC (K:=K) rfl (pv 0)) (λ_ _ _ _ _ nd=>aP (i:=1) nd rfl (Or.inl rfl)) (λ_ _ _ _ _=>(d9 (BG (Ay hu (pv 1) (pv 0))))) (λ_ _ _ _ _=>(pv 1))) (dH af) (bu _)) (au (aL q5)) bP)
   (aj (Dy (jC aai rfl (DG (pv 4)) (aP (i:=5) kR.nd rfl (Or.inl rfl))
   (aj (aW (i:=6) kR.nd rfl (Or.inl rfl) (RY (jg qg (bz (bA (K:=K) rfl) (pv 5) ay (λ_ _=>rfl)) (bz (bT (K:=K) rfl) (pv 2) (pv 1) (λ_ _=>rfl)) (bu _)) (vn (jg AB (yJ hu (bz (bT (K:=K) rfl) (pv 3) (pv 1) (λ_ _=>rfl)) (bz (bA (K:=K) rfl) (pv 5) ay (λ_ _=>rfl)) ay ⟨rfl,rfl,rfl,rfl⟩) (bz (bA (K:=K) rfl) (pv 5) ay (λ_ _=>rfl)) (bu _)))))
   (au (dS (PW.pt (sY (Ee (K:=K) rfl (pv 6)) (sY (bo (Ii (K:=K) rfl g) (pv 5) (pv 0) (by rfl)) (qN (tf (dA K rfl (a9 oP nP hr (aa (pv 3) (aa (pv 5) af))))))))) (au (aL q5)) bP)))))
   (au (aL q5))))),?_⟩
 obtain⟨r,hs,Q,es,nu,me,m,d,C,R,up,G,lr,gh,ac,gs,hd,gd,tm,M,kin,al,kk⟩:=h;have az:bc K H l (r.map (·.1)):=bc.of C;have ad:(r.map (·.1)).length=r.length:=Yg _;cbv;refine⟨_,_,_,true,rfl,.lst C,(by kernel_rfl),?_⟩;cbv;refine⟨l,_,r.map (λq=>NT q.2),rfl,bc.of C,by omega,by have:=G.kys;rw[gf]at this;exact this,DL R,λl2 ws h2 od=>?_⟩;rw[S4 G up od];have O:=aC (o:=.lst (r.map (·.1))) h2;have g2:upd H l2 (.lst (r.map (·.1))) l2=Ya (.lst (r.map (·.1))):=ai;generalize upd H l2 (.lst (r.map (·.1)))=H1 at O g2⊢;have n1:oT H1 (r.map (·.1)) (r.map (·.2)):=(Ih R).up (.same O);refine Jx (d:=.list ((r.map (·.2)).map sM)) (.inr ⟨_,_,_,rfl,rfl,bc.of (O _ _ C),n1.dps⟩) (.inr ⟨_,_,_,rfl,rfl,bc.of g2,n1.dps⟩) (Ll _) (N0 _) ?_;cbv;have kG:(r.map λq=>nK q.2).Nodup:=by
  have:=G.k;rw[gf]at this;exact this
 refine⟨l,_,r.map (λq=>nK q.2),rfl,bc.of (O _ _ C),Xr nK λq S=>(R q S).up (.same O),kG,by rw[Yg];omega,λq S=>?_⟩;have s2:=aC (o:=Gk q (r.map λq=>nK q.2).length) S;have gq:upd H1 q (Gk q (r.map λq=>nK q.2).length) q=Ya (Gk q (r.map λq=>nK q.2).length):=ai;rw[Yg]at s2 gq⊢;generalize upd H1 q (Gk q r.length)=H2 at s2 gq⊢;have s:=O.trans s2;have aA:bc K H2 l (r.map (·.1)):=bc.of (s _ _ C);cbv;refine⟨q,_,rfl,gq,by omega,?_⟩;cbv;rw[if_neg (by rw[ad];simp)];have ae:∀q∈r,OK H2 q.1 q.2:=λq S=>(R q S).up (.same s);have M2:Vm H2 am es:=⟨s _ _ M.dt,λe D=>(M.tl e D).up (dC.same s),M.nd⟩;cbv;intro D1 ag;refine bD (K:=K) (a:=l) (xs:=r.map (·.1)) (λj σ A=>∃v,σ=[Ya (.ref am),v]/\aH H2 A/\A D1=Ya (.lst [])) ⟨Yb,rfl,aC ag,ai⟩ ?_ ?_ ?_
 ·rintro j σ A _ ⟨_,_,z,_⟩;exact bc.of (z _ _ (s _ _ C))
 ·rintro j y σ A hy ⟨v,rfl,T,gD⟩;rw[Yy]at hy;obtain⟨p,hp,rfl⟩:=aaF.mp hy;obtain⟨b,eb,E⟩:=(ae p (YA hp)).up (.same T);obtain⟨e,D,en⟩:=kin p (YA hp);have ve:=M2.val D;have an:=T _ _ M2.dt;rw[eb];have gk:A b=Ya (.tup ((dX e.1).map kV)):=by rw[E,←en];rfl
  cbv;refine⟨am,Ya e.2,rfl,by rw[←ve];exact iK.t (k:=dX e.1) an gk,_,rfl,?_⟩;exact dh (λz=>absurd z YX) λ_=>⟨_,rfl,T,gD⟩
 rintro σ A ⟨v,rfl,T,gD⟩;cbv;intro e2 B1 aB U ap;refine HK (bc.of (U _ _ gD)) .nil rfl (bc.of ap) ?_;rw[show(!decide (([]:List abJ)=[]))=false from rfl];have x:=s.trans (T.trans U);have M3:Vm B1 am es:=⟨x _ _ M.dt,λe D=>(M.tl e D).up (dC.same x),M.nd⟩;have I:=M3.dt;cbv;refine II (d:=am) I ?_;cbv;refine GP I λo A1 hA W=>?_;have t:∀{b:Ye} {u:HO},H b=Ya u->(∀k,u≠.dT k)->A1 b=Ya u:=fun{b u} e n=>W b u (λz=>by
  rw[z,M.dt]at e;cases e;exact n _ rfl) (x _ _ e)
 have X:=t C (by intro k z;cases z);have aq:=t gh (by intro k z;cases z);have J:=t gs (by intro k z;cases z);have ar:=t gd (by intro k z;cases z);have av:dC H A1:=λb xs e=>t e (by intro k z;cases z);have aD:u5 (Q.map V.ref) (i:Int)=Ya (.ref d):=cD (by rw[Yy,hd];rfl);have aI:u5 (hs.map V.int) (i:Int)=Ya (.int me):=cD (by rw[Yy,ac];rfl);have nd:=tm.nd;let Y:Nat->St->Hp->Prop:=λj σ B=>∃v5 v6,σ=[Ya (.ref l),Ya (.int (i:Nat)),Ya (.ref ah),Ya (.ref as),Ya (.ref am),v5,v6]/\aH A1 B;refine KS (kvs:=es.map λe=>(dX e.1,e.2)) Y ⟨Yb,Yb,rfl,.refl _⟩ ?_ ?_ ?_
 ·rintro j σ B _ ⟨_,_,_,z⟩;exact z _ _ hA
 ·rintro j k v b σ B hk ⟨v5,v6,rfl,c⟩ E;rw[Yy]at hk;obtain⟨e,D,ee⟩:=aaF.mp hk;cases ee;have aw:=YA D;have E:B b=Ya (.tup [.int e.1.n,.int e.1.c,.int e.1.k]):=E;have Z:bI K B b [.int e.1.n,.int e.1.c,.int e.1.k]:=bI.of E;have aK:bc K B ah (hs.map V.int):=bc.of (c _ _ aq);have aN:bc K B as (Q.map V.ref):=bc.of (c _ _ J);have aR:=c _ _ ar;have nB:oT B (r.map (·.1)) (r.map (·.2)):=(Ih R).up λb xs e=>c _ _ (av b xs e);have ab:e.1.c=me∨e.1.k<=ct m e.1.c->(((r.map (·.2)).map sM).any λz=>z.eqv (sM (wN e.1)))=false->∀d∈Q,∃m',B d=Ya (.dK (dI m'))/\Td m'/\e.1.k<=ct m' e.1.c:=λkn no d hd=>by
   rcases al e aw kn with y|y
   ·have:(((r.map (·.2)).map sM).any λz=>z.eqv (sM (wN e.1)))=true:=abM.mpr ⟨sM (wN e.1),YV y,SeqAt.eqv_refl _ rfl⟩;rw[no]at this;cases this
   ·obtain⟨m',q1,q2,q3⟩:=y d hd;exact⟨m',c _ _ (t q1 (by intro k z;cases z)),q2,q3⟩
  cbv;refine dh (λz=>?_) λz=>?_
  ·have KN:e.1.c=me∨e.1.k<=ct m e.1.c:=.inl (of_decide_eq_true z);cbv;refine⟨l,_,_,sM (wN e.1),rfl,.inl (bc.of (c _ _ X)),nB.dps,.tup Z (.cons (.int _) (.cons (.int _) (.cons (.int _) .nil))),uO _,rfl,(by show(1:Nat)<=60;decide),_,rfl,?_⟩;refine dh (λy=>?_) λ_=>?_
   ·have L:=c _ _ J;cbv;refine⟨as,b,rfl,Q,_,_,_,L,E,ab KN (by simpa using y),λB2 N=>?_⟩;cbv;exact⟨_,_,rfl,c.trans N⟩
   ·cbv;exact⟨_,_,rfl,c⟩
  ·cbv;refine dh (λz=>?_) λz=>?_
   ·have KN:e.1.c=me∨e.1.k<=ct m e.1.c:=.inr (of_decide_eq_true z);cbv;refine⟨l,_,_,sM (wN e.1),rfl,.inl (bc.of (c _ _ X)),nB.dps,.tup Z (.cons (.int _) (.cons (.int _) (.cons (.int _) .nil))),uO _,rfl,(by show(1:Nat)<=60;decide),_,rfl,?_⟩;refine dh (λy=>?_) λ_=>?_
    ·have L:=c _ _ J;cbv;refine⟨as,b,rfl,Q,_,_,_,L,E,ab KN (by simpa using y),λB2 N=>?_⟩;cbv;exact⟨_,_,rfl,c.trans N⟩
    ·cbv;exact⟨_,_,rfl,c⟩
   ·cbv;exact⟨_,_,rfl,c⟩
 rintro σ B ⟨v5,v6,rfl,c⟩;refine⟨⟨o,c _ _ hA⟩,?_⟩;have s4:=thaw_same I W c;generalize upd B am (.dT (es.map λe=>(dX e.1,e.2)))=B2 at s4⊢;cbv;exact kk _ (x.trans s4)
section
theorem Ps.seen(D:Ps K mg H hs nu gr W es ah ap as am sl ml ((i,rw)::res))(ha:sl[i]?=Ya a)(hm:ml[i]?=Ya m)(k:∀b o,H b=Ya o->b≠a->H' b=Ya o)(g:H' a=Ya (.dK (dI (lq m rw))))(t:Td (lq m rw)):Ps K mg H' hs nu gr W es ah ap as am sl (ml.set i (lq m rw)) res:=by
 have ga:=(D.sd i a m ha hm).1;have o:Off [a] H H':=λb u e v=>k b u e λz=>v (Yi.mpr z);have s:mM H H':=o.kpf1 ga trivial;have p:=(Yj.mp hm).1;have nd:=D.nd;rw[YF,BD]at nd;have cs:∀{j:Nat} {c:List (Int×Int)},(ml.set i (lq m rw))[j]?=Ya c->(j=i/\c=lq m rw)∨(j≠i/\ml[j]?=Ya c):=fun{j c} e=>by
  rw[aaB]at e;by_cases z:i=j
  ·rw[if_pos z,if_pos p]at e;exact .inl ⟨z.symm,(YK e).symm⟩
  ·rw[if_neg z]at e;exact .inr ⟨λy=>z y.symm,e⟩
 refine⟨D.wd.off o s λj w h b x z=>D.out j w h b x (by rw[Yi.mp z];simp[YA ha]),k _ _ D.ha (bU D.ha ga (by intro z;cases z)),k _ _ D.hp (bU D.hp ga (by intro z;cases z)),k _ _ D.hs' (bU D.hs' ga (by intro z;cases z)),D.ls,by rw[aiC];exact D.lm,λj b c e f=>?_,D.sn,⟨k _ _ D.md.dt (bU D.md.dt ga (by intro z;cases z)),λe l=>(D.md.tl e l).up s.smh,D.md.nd⟩,D.kp,D.out,D.n2,D.n4,nd.2,λe l=>?_,λj w c e f n=>?_,D.oi⟩
 ·rcases cs f with⟨rfl,rfl⟩|⟨n,f⟩
  ·rw[ha]at e;cases e;exact⟨g,t⟩
  ·obtain⟨A,B⟩:=D.sd j b c e f;refine⟨k _ _ A λz=>n ?_,B⟩;rw[z]at e;exact(List.getElem?_inj (Yj.mp e).1 D.sn).mp (e.trans ha.symm)
 ·obtain⟨w,c,q,d,r⟩:=D.rs e (Yr _ l);refine⟨w,c,q,?_,r⟩;rw[aaB,if_neg (λy:i=e.1=>nd.1 (by show i∈_;rw[y];exact YV l))];exact d
 ·rcases cs f with⟨rfl,rfl⟩|⟨C,f⟩
  ·obtain⟨F,E,q,d,r,_⟩:=D.rs (j,rw) Ys;rw[q]at e;cases e;have d:ml[j]?=Ya E:=d;rw[hm]at d;cases d;exact r
  ·refine D.ot j w c e f ?_;rw[YF,Yn,not_or];exact⟨C,n⟩
end
theorem W7{ta:TA}{R:It->Hp->Prop}(h:ta σ H λvs a=>∃i j:Int,vs=[.int i,.int j]/\(-(2^62)<=i/\i<2^62/\-(2^62)<=j/\j<2^62)/\R (K3 i (j-i).toNat) a):R9 ta σ H R:=h
theorem Rf{α:Type}{l:List α}{x:α}(h:l[i]?=Ya x):l.drop i=x::l.drop (i+ 1):=by
 obtain⟨a,e⟩:=Yj.mp h;rw[ae1 a,e]
theorem UA(wd:Wd K mg H hs nu gr W [])(hl:GB.hl gr=hs)(f:∀(i:Nat) (w:PW),W[i]?=Ya w->∃ro,w.2.1=Pg.new w.2.1.me nu gr ro):OI nu W []:=by
 have ta:∀{i j:Nat} {w u:PW},W[i]?=Ya w->W[j]?=Ya u->tbl w.2.1.ta u.2.1.me=Ya []:=fun{i j w u} h a=>by
  obtain⟨ro,e⟩:=f i w h;have l:u.2.1.me∈hs:=YA (wd.st j u a).1;have m:w.2.1.ta=(GB.hl gr).map λh=>(h,[]):=by rw[e];rfl
  rw[m,hl];have:=tbl_key (tb:=hs.map λh=>(h,([]:List (Int×Int)))) (q:=(u.2.1.me,[])) (by rw[gf];rw[show((λq:Int×List (Int×Int)=>q.1)∘λh=>(h,[]))=id from rfl,adv];exact wd.ho.up.imp λh=>afs h) (YC.mpr ⟨_,l,rfl⟩);exact this
 have dn:∀{i:Nat} {w:PW},W[i]?=Ya w->w.2.1.dn=[]:=fun{i w} h=>by
  obtain⟨ro,e⟩:=f i w h;rw[e];rfl
 refine⟨⟨.nil,(λc b=>nomatch b),(λc b=>nomatch b)⟩,λi w h k g=>?_,(λi w h c b=>nomatch b),λi j w u d h a e=>?_,λi j w u h a=>⟨[],ta h a⟩⟩
 ·rw[dn h]at g;exact absurd g (ai4 0)
 ·rw[ta h a]at e;cases e;rw[dn a];exact .refl _
noncomputable abbrev Ba:Y4:=eZ 56
def BP(K:Yc):Sp:=λb H Q _=>∃(a:Ye) (ns:List Int),b=[.ref a]/\bc K H a (ns.map V.int)/\ns.length<=63/\∀c,Q (.bl true) c
theorem fT:aE ["_law_script","_law_hands_here","_law_number","_law_pages_here","_law_seen","_law_made","_law_pool","_law_k","_law_at","_law_found","_law_told","_law_why","_law_kept"] wB (ao Ba):=eY
variable{t7:Ye}{wL:Ye}{we:Ye}{ug:Ye}{rF:YD}{tV:YD}{uG:YD}{rV:YD}(tJ:∅ 11 t7 rF wB (rW K mg))(ue:d6 K mg "_law_pages" t7 rF wB)(wW:∅ 11 wL tV Fe (tG K mg))(wO:d6 K mg "_law_deed" wL tV Fe)(wt:∅ 11 we uG aO (uH K mg))(wg:Binds K uG aO [])(uX:∅ 11 ug rV Ek (rE K))(tS:d6 K mg "_law_right" ug rV Ek)(jb:bx K bZ "kept" we)
include eV tJ ue wW wO wt wg uX tS eh wz jd aZ aU jb in
theorem U4(F:bG K "law" "law" Ba f fd):∅ 12 f fd wB (BP K):=by
 refine F.oj fT ?_;rintro _ A _ _ H vs _ _ hr _ _ hu ⟨a,ns,rfl,h⟩;refine⟨_,(aj (UC (a9 tJ ue hr (aa (pv 0) af)) (mX (K:=K) (n:=3) rfl rfl (c7 (aP (i:=1) fT.nd rfl (Or.inl rfl)) (c7 (aP (i:=2) fT.nd rfl (Or.inl rfl)) (c7 (aP (i:=3) fT.nd rfl (Or.inl rfl)) mU)))))
   (aj (Ir (i:=4) ["_law_hand"] [Yb] fT.nd rfl (Or.inl rfl) rfl rfl (by kernel_rfl) (bC (K:=K) rfl (pv 1)) (λ_ _ _ _ _ nd=>aP (i:=0) nd rfl (Or.inl rfl)) (λ_ _ _ _ _=>eE) (λ_ _ _ _ _=>pC))
   (aj (aW (i:=5) fT.nd rfl (Or.inl rfl) ET)
   (aj (aW (i:=6) fT.nd rfl (Or.inl rfl) (dH af))
   (aj (jC aai rfl (Jc rfl jd (aa ay (aa (br (Km rfl) (by rfl) wz acL (aa (br (de (K:=K) rfl) (by rfl) eh aat (aa (pv 0) af)) (aa ay af))) af))) (aP (i:=7) fT.nd rfl (Or.inl rfl))
   (aj (jC aai rfl (bC (K:=K) rfl (a9 wW wO hr (aa (pv 1) (aa (pv 2) (aa (pv 3) (aa (pv 4) (aa (pv 5) (aa (pv 6) (aa (bz (bT (K:=K) rfl) (pv 0) (pv 7) (λ_ _=>rfl)) (aa (pv 7) af)))))))))) (mX (K:=K) (n:=2) rfl rfl (c7 (aP (i:=8) fT.nd rfl (Or.inl rfl)) (c7 (aP (i:=9) fT.nd rfl (Or.inl rfl)) mU)))
   (au (jC aai rfl (bC (K:=K) rfl (pv 9)) (mX (K:=K) (n:=2) rfl rfl (c7 (aP (i:=10) fT.nd rfl (Or.inl rfl)) (c7 (aP (i:=11) fT.nd rfl (Or.inl rfl)) mU)))
   (au (qT hu (bz (bT (K:=K) rfl) (pv 4) (pv 8) (λ_ _=>rfl)) (bz (bA (K:=K) rfl) (pv 10) ay (λ_ _=>rfl)) (bz (bA (K:=K) rfl) (pv 10) ay (λ_ _=>rfl)) rfl)))))
   (au (jC aai rfl (qL rfl jd (aa (br (de (K:=K) rfl) (by rfl) eh aat (aa (pv 1) af)) af)) (aP (i:=8) fT.nd rfl (Or.inl rfl))
   (aj (aW (i:=12) fT.nd rfl (Or.inl rfl) (bB (bV.cons aZ.cl jb wt wg bV.nil) (bz (bT (K:=K) rfl) (pv 3) (pv 8) (λ_ _=>rfl)) hr))
   (aj (dS (tf (dA K rfl (a9 uX tS hr (aa (pv 12) (aa (pv 8) (aa (pv 1) (aa (pv 4) (aa (pv 5) af)))))))) (au (aL q5)) bP)
   (au (dw (BI abH afy PySem.F.type_list_clear Kr (pv 12))))))))))
   (au (aL q5))))))),?_⟩
 obtain⟨hS,cs,kk⟩:=h;cbv;refine⟨a,rfl,ns,hS,λH1 t I ap hs nu gr W S gt O a1 wd n2 n4 bt ae cx cy=>?_⟩;have bv:bI K H1 t [.ref I,.int nu,.ref ap]:=bI.of gt;have cA:=S.seq hS;cbv;intro J has;have cB:I≠J:=λz=>by rw[z,has]at O;cases O
 refine bD (K:=K) (a:=I) (xs:=hs.map V.int) (λi σ B=>∃v E,σ=[v]/\aH H1 B/\B J=Ya (.lst ((E:List Ye).map V.ref))/\E.length=i/\E.Nodup/\∀d∈E,B d=Ya (.dK (dI []))/\H1 d=Yb/\d≠J) ⟨Yb,[],rfl,aC has,ai,rfl,.nil,λd hd=>nomatch hd⟩ ?_ ?_ ?_
 ·rintro i σ B _ ⟨_,_,_,z,_⟩;exact bc.of (z _ _ O)
 ·rintro i y σ B hy ⟨v,E,rfl,sB,gD,ag,az,L⟩;have hi:=(Yj.mp hy).1;rw[Yg]at hi;cbv;intro d B1 hd aA gd;have bE:=aA _ _ gD;have a2:d≠J:=λz=>by rw[z,gD]at hd;cases hd
  refine⟨_,bE,aG (by rw[Yg];omega),_,E++[d],rfl,λb o e=>?_,by rw[ai,Yx];rfl,by rw[Yu,ag];rfl,?_,λd' aB=>?_⟩
  ·rw[ak (ax e has)];exact aA _ _ (sB b o e)
  ·rw[KW];refine⟨az,by simp,λx hx y hy z=>?_⟩;rw[Yi.mp hy]at z;have:=(L x hx).1;rw[z,hd]at this;cases this
  ·rcases YM.mp aB with z|z
   ·obtain⟨q1,q2,q3⟩:=L d' z;exact⟨by rw[ak q3];exact aA _ _ q1,q2,q3⟩
   ·rw[Yi.mp z];exact⟨by rw[ak a2];exact gd,sB.free hd,a2⟩
 rintro σ H2 ⟨v,E,rfl,U,a3,ag,az,L⟩;rw[Yg]at ag;cbv;intro am al;have s3:aH H2 (upd H2 am (.dT [])):=aC al;have aD:(upd H2 am (.dT [])) am=Ya (.dT []):=ai;generalize upd H2 am (.dT [])=H3 at s3 aD⊢;cbv;intro N H4 aI s4 bF;have aK:=s3.trans s4;have an:=U.trans aK;have a4:=S.trans an;have a5:∀{i:Nat} {w:PW},W[i]?=Ya w->∀b∈tu w,∃o,H1 b=Ya o:=fun{i w} h b hb=>by
  obtain⟨o,e,_⟩:=wd.tr h hb;exact⟨o,e⟩
 have cF:H2 I≠none:=λz=>by rw[U _ _ O]at z;cases z
 have D:Ps K mg H4 hs nu gr W [] I ap J am E (aiE hs.length []) []:=by
  refine⟨wd.same an,an _ _ O,an _ _ a1,aK _ _ a3,ag,by rw[af4],λi d m e f=>?_,az,⟨s4 _ _ aD,(λe X=>nomatch X),.nil⟩,(λe X=>nomatch X),λi w h b hb=>?_,n2,n4,.nil,(λe X=>nomatch X),λi w m h f _=>?_,UA wd bt λi w h=>(ae i w h).1⟩
  ·have hm:m=[]:=(ahg.mp (YA f)).2;rw[hm];exact⟨aK _ _ (L d (YA e)).1,Td.nil⟩
  ·obtain⟨o,e⟩:=a5 h b hb;obtain⟨e1,e2⟩:=(ae i w h).2 b hb;intro z;rcases Yn.mp z with z|z
   ·exact e2.1 z
   rcases Yn.mp z with z|z
   ·exact e2.2 z
   rcases Yn.mp z with z|z
   ·rw[z,has]at e;cases e
   rcases Yn.mp z with z|z
   ·rw[z]at e;rw[U _ _ e]at al;cases al
   ·rw[(L b z).2.1]at e;cases e
  ·have hm:m=[]:=(ahg.mp (YA f)).2;obtain⟨ro,e⟩:=(ae i w h).1;rw[hm,e];rfl
 have bH:∀b∈pE W,H b=none:=λb hb=>by
  obtain⟨w,hw,hc⟩:=i8.mp hb;obtain⟨i,hi⟩:=YS hw;exact((ae i w hi).2 b hc).1
 have Q:∀{b:Ye} {o:HO},H3 b=Ya o->N≠b:=fun{b o} e z=>by rw[z,e]at aI;cases aI
 have nq:N∉pE W:=λz=>by
  obtain⟨w,hw,hc⟩:=i8.mp z;obtain⟨i,hi⟩:=YS hw;obtain⟨o,e⟩:=a5 hi N hc;exact Q (s3 _ _ (U _ _ e)) rfl
 have bL:N∉I::ap::J::am::E:=λz=>by
  rcases Yn.mp z with z|z
  ·exact Q (s3 _ _ (U _ _ O)) z
  rcases Yn.mp z with z|z
  ·exact Q (s3 _ _ (U _ _ a1)) z
  rcases Yn.mp z with z|z
  ·exact Q (s3 _ _ a3) z
  rcases Yn.mp z with z|z
  ·exact Q aD z
  ·exact Q (s3 _ _ (L N z).1) rfl
 have bR:H am=none:=S.free (U.free al);have bS:H N=none:=S.free (U.free (s3.free aI));have bW:∀d∈E,H d=none:=λd hd=>S.free (L d hd).2.1;have cI:=a4.seq hS;have co:((ns.map V.int).length:Int)<=63:=by rw[Yg];omega
 cbv;refine W7 ?_;cbv;refine⟨_,_,rfl,?_⟩;cbv;refine⟨_,_,rfl,⟨by decide,by decide,by split<;>omega,by split<;>omega⟩,?_⟩;let a6:Nat->St->Hp->Prop:=λi σ A=>∃v7 v8 v9 ar av R W es ml pl,σ=[Ya (.ref a),Ya (.ref I),Ya (.int nu),Ya (.ref ap),Ya (.ref J),Ya (.ref am),Ya (.ref N),v7,v8,v9,ar,av,R]/\Ps K mg A hs nu gr W es I ap J am E ml []/\es.length<=i/\pl.length<=i/\A N=Ya (.lst pl)/\sI W (es.map (·.1)) A pl/\aH H A/\(∀b∈pE W,H b=Yb)/\N∉pE W;refine Bg a6 ⟨Yb,Yb,Yb,Yb,Yb,Yb,W,[],_,[],rfl,D,Yl _,Yl _,bF,(λv hv=>nomatch hv),a4,bH,nq⟩ ?_ ?_
 ·rintro i σ A hi ⟨v7,v8,v9,ar,av,R,W',es,ml,pl,rfl,DA,bX,bZ,gq,po,sA,aN,aR⟩;have a7:i<28/\3+ i<ns.length:=by
   rw[Yg]at hi;split at hi<;>omega
  have cJ:=sA.seq hS;have ei:(3:Int)+ (i:Int)=((3+ i:Nat):Int):=by omega
  have cK:u5 (ns.map V.int) (3+ (i:Int))=Ya (.int ns[3+ i]):=by rw[ei];exact cD (by rw[Yy,Yk a7.2];rfl)
  cbv;refine⟨I,nu,ap,J,am,N,_,_,rfl,hs,gr,W',es,E,ml,pl,DA,by omega,by omega,by omega,gq,po,aR,bL,by omega,λH' r vs W2 Zk a8 b0 D' o' ba cL bb cM b2 hr aS pr=>?_⟩;have sH:aH H H':=λb o e=>o' b o (sA _ _ e) λz=>by
   rcases Yn.mp z with z|z
   ·rw[z,bR]at e;cases e
   rcases Yn.mp z with z|z
   ·rw[z,bS]at e;cases e
   ·rw[aN b z]at e;cases e
  have Y:∀{b:Ye} {o:HO},H' b=Ya o->(∀k,o≠.dK k)->b∉E:=fun{b o} e n z=>by
   obtain⟨j,T⟩:=YS z;have lj:=(Yj.mp T).1;obtain⟨m,hm⟩:∃m,ml[j]?=Ya m:=⟨_,Yk (by rw[D'.lm,←D'.ls];exact lj)⟩;rw[(D'.sd j b m T hm).1]at e;exact n _ (YK e).symm
  have b3:vs.length=a8.length:=Y7 pr;have cN:bc K H' r vs:=bc.of aS;cbv;let bd:Nat->St->Hp->Prop:=λj σ B=>∃w8 w9 Z ab M,σ=[Ya (.ref a),Ya (.ref I),Ya (.int nu),Ya (.ref ap),Ya (.ref J),Ya (.ref am),Ya (.ref N),Ya (.int (3+ (i:Int))),w8,w9,Z,ab,R]/\Ps K mg B hs nu gr W2 Zk I ap J am E M (a8.drop j)/\(∀b o,H' b=Ya o->b∉E->B b=Ya o);refine l9 (xs:=vs) bd ⟨v8,v9,ar,av,ml,rfl,D',λb o e _=>e⟩ (λj σ B _ z=>?_) ?_ ?_
  ·obtain⟨_,_,_,_,_,_,_,kB⟩:=z;exact bc.of (kB _ _ aS (Y aS (by intro _ z;cases z)))
  ·rintro j y σ B hy ⟨w8,w9,Z,ab,M,rfl,g,kB⟩;obtain⟨e,X,ua,fl,ys,rfl,ga,be,tv,_⟩:=dB pr hy;rw[Rf X]at g;obtain⟨w,m,ew,em,cO,cS,aw⟩:=g.rs e Ys;have b4:e.1<hs.length:=by rw[←g.wd.len];exact(Yj.mp ew).1
   obtain⟨d,hd⟩:∃d,E[e.1]?=Ya d:=⟨_,Yk (by rw[g.ls];exact b4)⟩;obtain⟨gs,tm⟩:=g.sd e.1 d m hd em;have ac:dC H' B:=λb xs q=>kB _ _ q (Y q (by intro _ z;cases z));have cU:bI K B ua [.int e.1,.ref fl]:=bI.of (ac _ _ ga);have ad:=kB _ _ be (Y be (by intro _ z;cases z));have cV:bc K B fl ys:=bc.of ad;have b5:ys.length=e.2.length:=Y7 tv;have b6:=YA hd;have cp:u5 (E.map V.ref) (e.1:Int)=Ya (.ref d):=cD (by rw[Yy,hd];rfl);cbv;let bf:Nat->St->Hp->Prop:=λn σ C=>∃aT aV,σ=[Ya (.ref a),Ya (.ref I),Ya (.int nu),Ya (.ref ap),Ya (.ref J),Ya (.ref am),Ya (.ref N),Ya (.int (3+ (i:Int))),Ya (.int e.1),Ya (.ref fl),aT,aV,R]/\(∀b o,B b=Ya o->b≠d->C b=Ya o)/\C d=Ya (.dK (dI (lq m (e.2.take n))))/\Td (lq m (e.2.take n));refine l9 (xs:=ys) bf ⟨Z,ab,rfl,λb o e _=>e,gs,tm⟩ (λn σ C _ z=>?_) ?_ ?_
   ·obtain⟨_,_,_,kC,_⟩:=z;exact bc.of (kC _ _ ad (bU ad gs (by intro z;cases z)))
   ·rintro n y σ C hy ⟨aT,aV,rfl,kC,gd,td⟩;have bg:dC B C:=λb xs q=>kC b _ q (bU q gs (by intro z;cases z));obtain⟨q,hq,pa,tt,rfl,b7,b8⟩:=dB tv hy;obtain⟨t0,tc,xc,e0,b9,cW,cX⟩:=(b8.up ac).up bg;cases e0;have cZ:bI K C pa [.ref tt,.str (X0 q.2)]:=bI.of (bg _ _ (ac _ _ b7));have bv:bI K C tt [.int q.2.n,.int q.2.c,.int q.2.k,.str q.2.kd,.int q.2.w,.ref tc]:=bI.of b9;have c0:bc K C J (E.map V.ref):=bc.of (kC _ _ g.hs' (bU g.hs' gs (by intro z;cases z)));have nd:=td.nd;have ld:=td.toCk.len;have bh:=g.wd.mo.wf _ (aw q (YA hq));obtain⟨ee,ca,cc⟩:=YC.mp (aw q (YA hq));have bi:=g.kp ee ca;rw[cc]at bi;cbv;intro C1 b1 g1;refine⟨_,_,rfl,λb o e n1=>b1.at n1 (kC b o e n1),?_,?_⟩
    ·rw[aQ hq,lR];exact g1
    ·rw[aQ hq,lR];exact G4 td bh.c0 bh.c1 bi
   rintro σ C ⟨aT,aV,rfl,kC,gd,td⟩;rw[b5,YY]at gd td;exact⟨_,_,_,_,M.set e.1 (lq m e.2),rfl,g.seen (rw:=e.2) hd em kC gd td,λb o q n=>kC b o (kB b o q n) λz=>n (z▸b6)⟩
  rintro σ B ⟨w8,w9,Z,ab,M,rfl,g,kB⟩;rw[b3,List.drop_length]at g;have ac:dC H' B:=λb xs q=>kB _ _ q (Y q (by intro _ z;cases z));have cd:=kB _ _ bb (Y bb (by intro _ z;cases z));have ce:=b2.up ac;have cf:aH H B:=λb o e=>kB b o (sH b o e) (λz=>by rw[bW b z]at e;cases e);have c1:bc K B I (hs.map V.int):=bc.of g.ha;have lhs:((hs.map V.int).length:Int)<=4:=by rw[Yg];have:=g.n4;omega
  have cq:Zk.length<=29:=by omega
  have ch:∀x∈Zk.map (·.1),x.n=nu/\0<x.k/\x.k<64:=λx hx=>by
   refine⟨g.wd.mo.nu x hx,g.oi.mu.ps x hx,?_⟩;obtain⟨j,T⟩:=YS (g.wd.mo.hs x hx);obtain⟨wj,a0⟩:∃w,W2[j]?=Ya w:=⟨_,Yk (by rw[g.wd.len];exact(Yj.mp T).1)⟩;have e1:=(g.wd.st j wj a0).1;rw[T]at e1;have:=g.wd.mx x hx j wj a0 (YK e1);have e2:=g.wd.ma j wj a0;have l1:=Y0 (λc:bK=>decide (c.c=wj.2.1.me)) (Zk.map (·.1));rw[Yg]at l1;omega
  cbv;refine⟨_,rfl,by omega,by omega,?_⟩;let bj:Nat->St->Hp->Prop:=λj σ C=>∃w8 ci,σ=[Ya (.ref a),Ya (.ref I),Ya (.int nu),Ya (.ref ap),Ya (.ref J),Ya (.ref am),Ya (.ref N),Ya (.int (3+ (i:Int))),w8,w9,Z,ab,ci]/\aH B C;refine Bg bj ⟨w8,R,rfl,.refl _⟩ ?_ ?_
  ·rintro j σ C T ⟨x8,cj,rfl,sC⟩;have T:j<hs.length:=by rw[YQ,Yg]at T;exact T
   have s:=g.same sC;obtain⟨w,hw⟩:∃w,W2[j]?=Ya w:=⟨_,Yk (by rw[s.wd.len];exact T)⟩;obtain⟨d,hd⟩:∃d,E[j]?=Ya d:=⟨_,Yk (by rw[s.ls];exact T)⟩;obtain⟨m,hm⟩:∃d,M[j]?=Ya d:=⟨_,Yk (by rw[s.lm];exact T)⟩;obtain⟨gs,tm⟩:=s.sd j d m hd hm;have em:=s.ot j w m hw hm (by simp);have PA:=s.wd.pg j w hw;have ok:=s.wd.ok j w hw;obtain⟨Cw,c2,bl,Tw,c3⟩:=PA.ob;rw[aU]at bl;cases bl;rw[afq];have c4:bc K C ap (W2.map λw=>V.ref w.1):=bc.of s.hp;have cr:u5 (W2.map λw=>V.ref w.1) (j:Int)=Ya (.ref w.1):=cD (by rw[Yy,hw];rfl);have G:KL nu (w.2.1.kp.map λq=>wN q.2):=by
    refine⟨λn hn=>?_,?_⟩
    ·obtain⟨q,hq,rfl⟩:=YC.mp hn;exact ch _ (ok.kin q hq)
    ·have:=PA.kn;unfold agK at this⊢;rw[abb]at this⊢;refine this.imp fun{p q} ne e=>ne ?_;have e1:p.2.n=q.2.n:=congrArg (λx=>x.1) e;have e2:p.2.c=q.2.c:=congrArg (λx=>x.2.1) e;have e3:p.2.k=q.2.k:=congrArg (λx=>x.2.2) e;unfold dX;rw[e1,e2,e3]
   have kl:w.2.1.kp.length<=59:=by
    have:=ok.kl;rw[Yg]at this;omega
   cbv;refine⟨w.1,rfl,w.2.1,w.2.2,nu,PA,kl,G,λC1 l r S hl gl nr pm up=>?_⟩;have lr:r.length<=59:=by
    have:=pm.length_eq;rw[Yg,Yg]at this;omega
   have G':KL nu (r.map (·.2)):=⟨λn hn=>G.nu n (pm.mem_iff.mp hn),pm.nodup_iff.mpr G.nd⟩;cbv;refine⟨l,j,I,J,am,rfl,r,hs,E,Zk,nu,w.2.1.me,m,d,gl,nr,up,G',lr,S _ _ s.ha,(s.wd.st j w hw).1,S _ _ s.hs',hd,S _ _ gs,tm,(s.same S).md,λq hq=>?_,λe X kn=>?_,λC2 U=>?_⟩
   ·obtain⟨p,hp,ep⟩:=YC.mp (pm.mem_iff.mp (YV hq));obtain⟨e,X,ee⟩:=YC.mp (ok.kin p hp);exact⟨e,X,by rw[ee];exact ep⟩
   ·rw[←em]at kn;rcases s.oi.ks j w hw e.1 (YV X) kn with z|z
    ·left
     obtain⟨p,hp,ep⟩:=YC.mp z;exact pm.mem_iff.mpr (YC.mpr ⟨p,hp,by rw[ep]⟩)
    ·right
     intro d' aB;obtain⟨j',bm⟩:=YS aB;have lj:=(Yj.mp bm).1;obtain⟨m',bn⟩:∃d,M[j']?=Ya d:=⟨_,Yk (by rw[s.lm,←s.ls];exact lj)⟩;obtain⟨u,hu⟩:∃w,W2[j']?=Ya w:=⟨_,Yk (by rw[s.wd.len,←s.ls];exact lj)⟩;obtain⟨ck,cl⟩:=s.sd j' d' m' bm bn;have cm:=s.ot j' u m' hu bn (by simp);exact⟨m',S _ _ ck,cl,by rw[←cm];exact z j' u hu⟩
   have cn:=U _ _ gl;cbv;refine⟨l,_,rfl,rfl,cn,_,_,rfl,λb o e=>?_⟩;rw[ak (ax (sC b o e) hl)];exact U _ _ (S _ _ (sC b o e))
  rintro σ C ⟨x8,cj,rfl,sC⟩;have s:=g.same sC;refine⟨_,_,_,_,_,_,W2,Zk,M,b0,rfl,s,by omega,by omega,sC _ _ cd,ce.up (.same sC),cf.trans sC,λb hb=>?_,λz=>?_⟩
  ·rcases ba b hb with z|z
   ·exact aN b z
   ·exact sA.free z
  ·rcases ba N z with y|y
   ·exact aR y
   ·rw[gq]at y;cases y
 rintro σ A ⟨v7,v8,v9,ar,av,R,W',es,ml,pl,rfl,DA,bX,bZ,gq,po,sA,aN,aR⟩;cbv;exact kk A
end
end K45
namespace K45
open PySem L2
theorem UB{l:W.OpenLaw}{w:Y6}{K:W.Frag}{h:YT}{mg:Yo->Option Yd}{fa fw fx fz fA fB fC ad fD fE fI ah u al L am ap x y M aq ar as aI aS a3 a4 a5 a6 ba bb bd be bi bj bl bm bn bt bv bH bL bS b0 z b1 b2 b3 b4 b5 A b6 b7 b8 b9 ca cc ce cf ch ci ck cl cm cn co cp cq cr cs cx sL bf cS bE bF B f T8 Iy aK:Ye}{jV jW jZ j0 j1 j2 j3 j5 j6 j8 fM fN fP fQ fR fU fX fZ f0 f1 f2 f3 f4 f5 f6 f7 f8 f9 ga gb gc gd ge gg gh gk gl gm gn go gp gq gs gt gu gv gx gA gB gC gD gE gH gI gK gM gR gS gT gV gW gX g0 g1 g2 g3 g4 g5 g6 g7:YD}(X:K.In h)(G:h.Ns ir mg)(ka:mg "law"=Ya (.ref fa))
  {gO:ac2} {PF QC:Yo} {Pb kq OZ:List Yd} {BL Qk:Bool} {OY:List Yo} {QW:Option Bool} {Rh:Option Ye} {O9 O0 Pt Qp Q3:Option Yd} {HX:String} {nK:Nat} {kb kc kd:ac2}
  (kf:nI K "count_of" fw)
  (kg:nI K "hands_among" fx)
  (kh:nI K "covers" fz)
  (ki:nI K "unpacked" fA)
  (kj:nI K "joined" fB)
  (kk:nI K "covers_name" fC)
  (kl:nI K "is_whole" fE)
  (km:nI K "is_word" fI)
  (g8:nI K "make_call" ah)
  (g9:nI K "first_open" am)
  (ha:nI K "name_at" ap)
  (hb:nI K "rank_of" ar)
  (hc:nI K "can_be_taken" as)
  (hd:nI K "first_to_take" aI)
  (he:nI K "callers_from" aS)
  (hf:nI K "run" a3)
  (hg:nI K "least_asking" a4)
  (hh:nI K "placed" a5)
  (hi:nI K "least_count" a6)
  (hj:nI K "common" ba)
  (hk:nI K "packed" bb)
  (hm:nI K "bit_of" bd)
  (hn:nI K "has" be)
  (ho:nI K "hands_of" bi)
  (hp:nI K "call_of" b1)
  (hq:nI K "why_of" b2)
  (hr:nI K "by_rank" b3)
  (hs:nI K "least" b4)
  (ht:nI K "_law_cell_at" ck)
  (hu:nI K "_law_mixed" cl)
  (hv:nI K "_law_hands" cm)
  (hw:nI K "_law_pages" cn)
  (hx:nI K "_law_call" co)
  (hy:nI K "_law_deed" cp)
  (hz:nI K "_law_all_have" cr)
  (hA:nI K "_law_right" cs)
  (hB:nI K "law" cx)
  (Sq:nI K "Call" sL)
  (Ei:nI K "HeardCall" bf)
  (PY:nI K "Known" cS)
  (KA:nI K "OneCall" bE)
  (JX:nI K "OwnCall" bF)
  (UH:nI K "Page" B)
  (Uh:W.nsIn K ir "Held"=Ya (Ya (.ref f)))
  (Kw:W.nsIn K ir "KINDS"=Ya (Ya (.ref aK)))
  (WJ:W.nsIn K ir "abs"=Ya Yb)
  (WU:W.nsIn K ir "all"=Ya Yb)
  (SK:W.nsIn K ir "bool"=Ya Yb)
  (SG:W.nsIn K ir "dict"=Ya Yb)
  (Wl:W.nsIn K ir "int"=Ya Yb)
  (BW:W.nsIn K ir "isinstance"=Ya Yb)
  (WO:W.nsIn K ir "len"=Ya Yb)
  (UY:W.nsIn K ir "list"=Ya Yb)
  (Xc:W.nsIn K ir "max"=Ya Yb)
  (WM:W.nsIn K ir "min"=Ya Yb)
  (Rg:W.nsIn K ir "range"=Ya Yb)
  (Xf:W.nsIn K ir "set"=Ya Yb)
  (K6:W.nsIn K ir "sorted"=Ya Yb)
  (VI:W.nsIn K ir "sum"=Ya Yb)
  (QR:W.nsIn K ir "tuple"=Ya Yb)
  (aR:bx K bf "asks_place" M)
  (cj:bx K bf "free" L)
  (dq:bx K bf "in_turn" u)
  (d8:bx K bf "kind" bS)
  (aV:bx K bf "name" x)
  (ef:bx K bf "rank" y)
  (bW:bx K bf "told" z)
  (cZ:bx K cS "floor" bH)
  (cF:bx K cS "learn" bl)
  (dQ:bx K cS "listed" bm)
  (eW:bx K cS "merge" bn)
  (gi:bx K cS "reach" bt)
  (iH:bx K cS "sure" bv)
  (a8:bx K bE "asks_place" aq)
  (cO:bx K bE "free" L)
  (dN:bx K bE "in_turn" u)
  (fH:bx K bE "kind" b0)
  (bg:bx K bE "name" x)
  (fJ:bx K bE "rank" y)
  (cM:bx K bE "told" z)
  (a7:bx K bF "asks_place" M)
  (cK:bx K bF "free" al)
  (dE:bx K bF "in_turn" u)
  (fG:bx K bF "kind" bL)
  (bh:bx K bF "name" x)
  (fF:bx K bF "rank" y)
  (cN:bx K bF "told" z)
  (dF:bx K B "check_room" b6)
  (dJ:bx K B "keep" b7)
  (fc:bx K B "keep_new" ch)
  (jb:bx K B "kept" cq)
  (bR:bx K B "kept_calls" b8)
  (fY:bx K B "let_go" ca)
  (cX:bx K B "listen" ci)
  (dy:bx K B "piece" cf)
  (dM:bx K B "step" cc)
  (i6:bx K B "take" b9)
  (iJ:bx K B "utter" ce)
  (kH:Mk K bf ad)
  (uv:Mk K cS bj)
  (qS:Mk K bE ad)
  (qJ:Mk K bF fD)
  (Cy:Mk K B b5)
  (Rt:W.findIn K (.ref f) "__init__"=Ya (Ya (.ref A)))
  (fg:Ng K sL "__init__" ad)
  (hC:bG K "count_of" "count_of" sP fw jV)
  (hD:bG K "hands_among" "hands_among" kZ fx jW)
  (hE:bG K "covers" "covers" zC fz jZ)
  (hF:bG K "unpacked" "unpacked" sG fA j0)
  (hH:bG K "joined" "joined" ym fB j1)
  (hI:bG K "covers_name" "covers_name" lA fC j2)
  (hJ:bG K "__init__" "Call.__init__" iP ad j3)
  (hK:bG K "__init__" "OwnCall.__init__" fL fD j5)
  (hL:bG K "is_whole" "is_whole" sg fE j6)
  (hM:bG K "is_word" "is_word" vV fI j8)
  (cy:bG K "make_call" "make_call" qe ah fM)
  (cA:bG K "in_turn" "Call.in_turn" jM u fN)
  (cB:bG K "free" "Call.free" o8 al fP)
  (cI:bG K "free" "HeardCall.free" ie L fQ)
  (cJ:bG K "first_open" "first_open" ny am fR)
  (cL:bG K "name_at" "name_at" vQ ap fU)
  (cU:bG K "name" "Call.name" p5 x fX)
  (cV:bG K "rank" "Call.rank" p9 y fZ)
  (cW:bG K "asks_place" "Call.asks_place" fV M f0)
  (c0:bG K "asks_place" "OneCall.asks_place" eP aq f1)
  (c1:bG K "rank_of" "rank_of" vE ar f2)
  (c2:bG K "can_be_taken" "can_be_taken" jl as f3)
  (c3:bG K "first_to_take" "first_to_take" iU aI f4)
  (c4:bG K "callers_from" "callers_from" jK aS f5)
  (c5:bG K "run" "run" Li a3 f6)
  (da:bG K "least_asking" "least_asking" jx a4 f7)
  (db:bG K "placed" "placed" zx a5 f8)
  (dd:bG K "least_count" "least_count" lK a6 f9)
  (df:bG K "common" "common" y7 ba ga)
  (di:bG K "packed" "packed" yK bb gb)
  (dj:bG K "bit_of" "bit_of" za bd gc)
  (dk:bG K "has" "has" LL be gd)
  (dl:bG K "hands_of" "hands_of" sF bi ge)
  (dm:bG K "__init__" "Known.__init__" ig bj gg)
  (dn:bG K "learn" "Known.learn" lu bl gh)
  (dr:bG K "listed" "Known.listed" jh bm gk)
  (ds:bG K "merge" "Known.merge" kT bn gl)
  (dt:bG K "reach" "Known.reach" lB bt gm)
  (dv:bG K "sure" "Known.sure" m6 bv gn)
  (dx:bG K "floor" "Known.floor" kQ bH go)
  (dD:bG K "kind" "OwnCall.kind" jB bL gp)
  (dK:bG K "kind" "HeardCall.kind" hZ bS gq)
  (dL:bG K "kind" "OneCall.kind" jD b0 gs)
  (dP:bG K "told" "Call.told" ph z gt)
  (dR:bG K "call_of" "call_of" vj b1 gu)
  (dT:bG K "why_of" "why_of" yX b2 gv)
  (dU:bG K "by_rank" "by_rank" vR b3 gx)
  (dV:bG K "least" "least" By b4 gA)
  (dY:bG K "__init__" "Page.__init__" iW b5 gB)
  (dZ:bG K "__init__" "Held.__init__" iT A gC)
  (d0:bG K "check_room" "Page.check_room" gG b6 gD)
  (d1:bG K "keep" "Page.keep" qb b7 gE)
  (d2:bG K "kept_calls" "Page.kept_calls" gw b8 gH)
  (d5:bG K "take" "Page.take" pH b9 gI)
  (d7:bG K "let_go" "Page.let_go" lJ ca gK)
  (ea:bG K "step" "Page.step" qq cc gM)
  (eb:bG K "utter" "Page.utter" mZ ce gR)
  (O:Gb K "piece" "Page.piece" nA cf gS [.int 0 gO,.none])
  (ec:bG K "keep_new" "Page.keep_new" iR ch gT)
  (ed:bG K "listen" "Page.listen" kO ci gV)
  (ee:bG K "_law_cell_at" "_law_cell_at" jA ck gW)
  (eg:bG K "_law_mixed" "_law_mixed" mY cl gX)
  (eh:bG K "_law_hands" "_law_hands" nD cm g0)
  (ei:bG K "_law_pages" "_law_pages" m9 cn g1)
  (ej:bG K "_law_call" "_law_call" qI co g2)
  (ek:bG K "_law_deed" "_law_deed" qA cp g3)
  (el:bG K "kept" "Page.kept" qy cq g4)
  (em:bG K "_law_all_have" "_law_all_have" iY cr g5)
  (en:bG K "_law_right" "_law_right" mN cs g6)
  (eo:bG K "law" "law" Ba cx g7)
  (HD:K.lookup f=Ya (aer PF QC f T8 Pb kq BL OY OZ Qk QW Rh O9 O0 Pt Qp Q3 HX))
  (GW:i5 K sL)
  (g:i5 K bf)
  (I:GJ K cS)
  (i:i5 K bE)
  (j:i5 K bF)
  (p:AI K B)
  (Pm:W.tailIn K [.type "ValueError",.type "Exception",.type "BaseException",.type "object"] kq=true)
  (Qn:HX="ValueError.__new__")
  (Qs:W.typeIn K (.ref A)=Ya (.type "function"))
  (Qy:W.mroIn K f (.ref f)=Ya true)
  (O1:W.keepIn K (.ref f)=true)
  (MN:W.findIn K (.ref f) "__setattr__"=Ya (Ya (.builtin "object.__setattr__")))
  (MZ:W.mroIn K f (.type "object")=Ya true)
  (Lg:BL=true)
  (QK:kq=[YG Iy,.type "ValueError",.type "Exception",.type "BaseException",.type "object"])
  (M4:kq.contains (aaD "BaseException")=true)
  (i9:W.findIn K (.ref f) "many"=Ya Yb)
  (jf:W.findIn K (.ref f) "room"=Ya Yb)
  (c:kq.contains (aaD "BaseException")=true)
  (d:(YG f::kq).contains (YG f)=true)
  (LG:K.lookup aK=Ya ⟨.type "tuple",Yb,.seq #[.str "own" kb,.str "heard" kc,.str "one" kd] nK,#[]⟩)
 :∃fd:YD,(∀(s:Ym) (v:Yd),af3 s fd ⟨[v],[]⟩ [("_law_script",v)])/\∀base:YT,K.In base->base.Ns ir mg->aF l.prog w K mg base bp 12 fa fd wB (BP K):=by
 have e:=ka.symm.trans (W.mg_of X G hB);cases e;have b:d6 K mg _ _ _ Je:=hC.cal X G kf;have P:d6 K mg _ _ _ zf:=hD.cal X G kg;have hN:d6 K mg _ _ _ zq:=hE.cal X G kh;have C:d6 K mg _ _ _ F3:=hF.cal X G ki;have ep:d6 K mg _ _ _ zq:=hH.cal X G kj;have D:d6 K mg _ _ _ Gx:=hI.cal X G kk;have hO:Binds K _ zL []:=hJ.bq;have kn:Binds K _ zL []:=hK.bq;have hP:d6 K mg _ _ _ ["value"]:=hL.cal X G kl;have hQ:d6 K mg _ _ _ ["word"]:=hM.cal X G km;have Q:d6 K mg _ _ _ IW:=cy.cal X G g8;have eq:Binds K _ sf []:=cA.bq;have er:Binds K _ sf []:=cB.bq;have es:Binds K _ sf []:=cI.bq;have R:d6 K mg _ _ _ IS:=cJ.cal X G g9;have eT:d6 K mg _ _ _ LR:=cL.cal X G ha;have E:Binds K _ aO []:=cU.bq;have hR:Binds K _ aO []:=cV.bq;have S:Binds K _ aO []:=cW.bq;have T:Binds K _ aO []:=c0.bq;have q:d6 K mg _ _ _ pW:=c1.cal X G hb;have eX:d6 K mg _ _ _ CU:=c2.cal X G hc;have e0:d6 K mg _ _ _ EL:=c3.cal X G hd;have e1:d6 K mg _ _ _ Ej:=c4.cal X G he;have U:d6 K mg _ _ _ qm:=c5.cal X G hf;have e2:d6 K mg _ _ _ EV:=da.cal X G hg;have e3:d6 K mg _ _ _ qm:=db.cal X G hh;have e4:d6 K mg _ _ _ DK:=dd.cal X G hi;have e5:d6 K mg _ _ _ zf:=df.cal X G hj;have V:d6 K mg _ _ _ Ao:=di.cal X G hk;have e6:d6 K mg _ _ _ ["hand"]:=dj.cal X G hm;have e7:d6 K mg _ _ _ C6:=dk.cal X G hn;have Y:d6 K mg _ _ _ rT:=dl.cal X G ho;have hS:Binds K _ Fc []:=dm.bq;have et:Binds K _ Bc []:=dn.bq;have hT:Binds K _ aO []:=dr.bq;have hU:Binds K _ CY []:=ds.bq;have hW:Binds K _ DY []:=dt.bq;have hX:Binds K _ Ef []:=dv.bq;have eu:Binds K _ aO []:=dx.bq;have hY:Binds K _ aO []:=dD.bq;have h0:Binds K _ aO []:=dK.bq;have h4:Binds K _ aO []:=dL.bq;have ev:Binds K _ aO []:=dP.bq;have e8:d6 K mg _ _ _ ["told"]:=dR.cal X G hp;have e9:d6 K mg _ _ _ pW:=dT.cal X G hq;have fe:d6 K mg _ _ _ ["calls"]:=dU.cal X G hr;have ff:d6 K mg _ _ _ rT:=dV.cal X G hs;have h5:Binds K _ Fh []:=dY.bq;have h6:Binds K _ De []:=dZ.bq;have h7:Binds K _ aO []:=d0.bq;have ew:Binds K _ pq []:=d1.bq;have ex:Binds K _ aO []:=d2.bq;have h8:Binds K _ pq []:=d5.bq;have h9:Binds K _ aO []:=d7.bq;have ey:Binds K _ aO []:=ea.bq;have ia:Binds K _ Di []:=eb.bq;have ib:Binds K _ zj []:=O.binds λ_ _ _ _ _ _ _ us hl=>by obtain⟨a0,a1,a2,rfl⟩:=ln3 (us:=us) (by rw[Yu]at hl;exact agL (m:=0) hl);exact⟨_,rfl,rfl⟩
 have fy:Binds K _ zj [.int 0 gO,.none]:=O.binds λ_ _ _ _ _ _ _ us hl=>by obtain⟨a0,rfl⟩:=ln1 (us:=us) (by rw[Yu]at hl;exact agL (m:=2) hl);exact⟨_,rfl,rfl⟩
 have ic:Binds K _ Ew []:=ec.bq;have ih:Binds K _ Ed []:=ed.bq;have fi:d6 K mg _ _ _ ES:=ee.cal X G ht;have fk:d6 K mg _ _ _ CZ:=eg.cal X G hu;have fl:d6 K mg _ _ _ Fq:=eh.cal X G hv;have fn:d6 K mg _ _ _ wB:=ei.cal X G hw;have fo:d6 K mg _ _ _ Ec:=ej.cal X G hx;have fp:d6 K mg _ _ _ Fe:=ek.cal X G hy;have ii:Binds K _ aO []:=el.bq;have fr:d6 K mg _ _ _ EJ:=em.cal X G hz;have fu:d6 K mg _ _ _ Ek:=en.cal X G hA;have BM:=W.mg_of X G Sq;have k:=W.mg_of X G Ei;have J:=W.mg_of X G PY;have n:=W.mg_of X G KA;have o:=W.mg_of X G JX;have r:=W.mg_of X G UH;have mO:=W.mg_of X G Uh;have Br:=Ab.mk HD;have xX:Xd K f A [.type "ValueError",.type "Exception",.type "BaseException",.type "object"] "ValueError.__new__":=⟨⟨_,_,Qn▸Br,Pm⟩,Rt,Qs,Qy,O1⟩;have OV:∃cd,W.clsIn K f=Ya cd/\cd.hasDict=BL/\cd.mro=.ref f::kq:=by unfold W.clsIn;rw[HD];exact⟨_,rfl,rfl,rfl⟩
 have x5:OL K f:=by obtain⟨cd,h1,h2,h3⟩:=OV;exact⟨MN,MZ,cd,kq,h1,h2.trans Lg,h3,[Iy],QK⟩
 have ya:∃N up Zd,Ab K f N up Zd/\up.contains (.type "BaseException")=true:=⟨_,_,_,Br,M4⟩;have gP:NJ K f f:=⟨_,_,_,Br,c,d⟩;have tZ:=W.mg_of X G Kw;have uh:RelV (.ref aK) (.ref aK):=rfl;have uz:Fv K (.ref aK):=⟨aK,rfl,λH=>.inr ⟨_,_,_,LG,rfl,rfl,(by show 3<=YB;decide),.cons ⟨_,rfl⟩ (.cons ⟨_,rfl⟩ (.cons ⟨_,rfl⟩ .nil))⟩⟩;have V4:mg "abs"=none:=W.mg_none_of X G WJ;have VE:mg "all"=none:=W.mg_none_of X G WU;have Uc:mg "bool"=none:=W.mg_none_of X G SK;have Bs:mg "dict"=none:=W.mg_none_of X G SG;have VH:mg "int"=none:=W.mg_none_of X G Wl;have tX:mg "isinstance"=none:=W.mg_none_of X G BW;have rq:mg "len"=none:=W.mg_none_of X G WO;have sE:mg "list"=none:=W.mg_none_of X G UY;have VM:mg "max"=none:=W.mg_none_of X G Xc;have Hm:mg "min"=none:=W.mg_none_of X G WM;have xU:mg "range"=none:=W.mg_none_of X G Rg;have ML:mg "set"=none:=W.mg_none_of X G Xf;have mC:mg "sorted"=none:=W.mg_none_of X G K6;have VB:mg "sum"=none:=W.mg_none_of X G VI;have xS:mg "tuple"=none:=W.mg_none_of X G QR;obtain⟨_,_,kV,dc,pm,an,cd,ct,_,rfl,_⟩:=id eo.ex;refine⟨W.fnOf "law" "law" (gJ Ba) (dO Ba) (ao Ba) .none kV dc pm an cd ct,λs v=>.of_eq rfl,λbase _ _=>?_⟩;have a:Tg l.prog w mg base:=trivial;have t:=DH a hC;have fv:=yi a sE ML mC hD;have ko:=JT a (t.mono (by decide)) b (fv.mono (by decide)) P VE hE;have ae:=EK a Bs hF;have ij:=J0 a (t.mono (by decide)) b (fv.mono (by decide)) P (ae.mono (by decide)) C VM hH;have ag:=zP a (t.mono (by decide)) b hI;have ik:=vU a hJ;have kp:=qX a (ik.mono (by decide)) hO GW BM fg hK;have kr:=Er a Uc VH tX hL;have ks:=Gn a (kr.mono (by decide)) hP V4 hM;have ez:=Cm a hO (ik.mono (by decide)) (kp.mono (by decide)) kn (ks.mono (by decide)) hQ g i j k n o kH qS qJ tZ uh uz cy;have eA:=w6 a (t.mono (by decide)) b cA;have eB:=Cn a j o (eA.mono (by decide)) eq dE cB;have eC:=tH a C g i k n (eA.mono (by decide)) eq (ko.mono (by decide)) hN (ae.mono (by decide)) dq dN cI;have eH:=zW a (ag.mono (by decide)) D rq cJ;have il:=GU a rq cL;have F:=BF a cU;have im:=Bu a cV;have Z:=sJ a cW;have ab:=oQ a c0;have ac:=F1 a g i j k n o (im.mono (by decide)) hR ef fJ fF c1;have io:=xE a g i j k n o (eB.mono (by decide)) er (eC.mono (by decide)) es (F.mono (by decide)) E (Z.mono (by decide)) S (ab.mono (by decide)) T aR cj aV a8 cO bg a7 cK bh c2;have it:=vY a b g i j k n o (t.mono (by decide)) (io.mono (by decide)) eX c3;have iv:=xD a c4;have eI:=Sz a ML mC Bs g i j k n o (ij.mono (by decide)) ep (eH.mono (by decide)) R (il.mono (by decide)) eT (ac.mono (by decide)) q (it.mono (by decide)) e0 (iv.mono (by decide)) e1 c5;have iw:=xA a g i j k n o (eB.mono (by decide)) er (eC.mono (by decide)) es (Z.mono (by decide)) S (ab.mono (by decide)) T aR cj a8 cO a7 cK q (ac.mono (by decide)) Hm da;have ix:=Kx a sE g i j k n o E aV bg bh R (eH.mono (by decide)) (F.mono (by decide)) (eI.mono (by decide)) U (iw.mono (by decide)) e2 db;have iy:=yl a (t.mono (by decide)) b Hm dd;have iA:=KQ a P C (ae.mono (by decide)) (fv.mono (by decide)) (iy.mono (by decide)) e4 df;have eJ:=Kb a mC xS di;have iB:=JP a dj;have iE:=Ut a (iB.mono (by decide)) e6 dk;have eK:=DU a (iE.mono (by decide)) e7 xU dl;have iF:=uQ a Bs (eK.mono (by decide)) Y dm;have eL:=zo a ep (ij.mono (by decide)) I J dn;have iG:=xg a xS I J (eJ.mono (by decide)) V dr;have iI:=zM a C I J (ae.mono (by decide)) (eL.mono (by decide)) et cF ds;have iM:=zi a (ag.mono (by decide)) D rq I J dt;have iN:=zV a rq I J (iM.mono (by decide)) hW gi dv;have eN:=yd a sE I J (iA.mono (by decide)) e5 dx;have iQ:=wZ a dD;have iX:=uq a dK;have iZ:=xK a dL;have eO:=B5 a g i j k n o (iQ.mono (by decide)) hY (iX.mono (by decide)) h0 (iZ.mono (by decide)) h4 d8 fH fG dP;have i0:=GK a g i j k n o (ez.mono (by decide)) Q dR;have i1:=KR a g i j k n o S T aR a8 a7 (Z.mono (by decide)) (ab.mono (by decide)) dT;have i2:=Gi a mC g i j k n o q (ac.mono (by decide)) dU;have i3:=LC a Hm (eK.mono (by decide)) Y dV;have jc:=vm a I J (iF.mono (by decide)) hS uv dY;have jd:=vh a dZ;have je:=sZ a b (t.mono (by decide)) I J (eN.mono (by decide)) eu (jd.mono (by decide)) h6 p r cZ mO xX x5 ya i9 jf d0;have eQ:=B8 a g i j k n o E aV bg bh p r (F.mono (by decide)) d1;have eR:=sO a sE g i j k n o p r (i2.mono (by decide)) fe d2;have jj:=Cs a g i j k n o p r d5;have jo:=yM a Bs g i j k n o D I J (eN.mono (by decide)) eu p r cZ (ag.mono (by decide)) d7;have eS:=CK a g i j k n o U I J et cF p r (eI.mono (by decide)) (ix.mono (by decide)) e3 (eL.mono (by decide)) (iN.mono (by decide)) hX (eO.mono (by decide)) ev (i1.mono (by decide)) e9 (i3.mono (by decide)) ff (eR.mono (by decide)) ex (jj.mono (by decide)) h8 (jo.mono (by decide)) h9 bW iH cM cN bR fY i6 ea;have jp:=z7 a g i j k n o V Q p r (ez.mono (by decide)) (eJ.mono (by decide)) (je.mono (by decide)) h7 (eQ.mono (by decide)) ew (eS.mono (by decide)) ey dF dJ dM eb;have jr:=z6 a (t0:=gO) g i j k n o xS I J p r ev ex bW cM cN bR (iG.mono (by decide)) hT (eO.mono (by decide)) (eR.mono (by decide)) dQ O;have js:=vv a g i j k n o D E aV bg bh p r ew dJ (ag.mono (by decide)) (F.mono (by decide)) (i0.mono (by decide)) e8 (eQ.mono (by decide)) ec;have ju:=yh a sE rq I J p r (eS.mono (by decide)) ey dM (iI.mono (by decide)) hU (js.mono (by decide)) ic eW fc ed;have jv:=xI a rq ee;have jw:=zR a eg;have jF:=zZ a xU eh;have jL:=Ae a p r (jc.mono (by decide)) h5 (jv.mono (by decide)) fi (jF.mono (by decide)) fl VB Cy ei;have jN:=B0 a rq xS p r mO (jp.mono (by decide)) ia iJ gP ej;have jO:=CJ a (qi:=gO) rq xU p r (jr.mono (by decide)) fy ib (ju.mono (by decide)) ih (jw.mono (by decide)) fk (jN.mono (by decide)) fo cX dy ek;have jS:=BZ a sE mC p r el;have jT:=vJ a em;have jU:=z4 a sE ML mC tX rq (jT.mono (by decide)) fr en;exact U4 a rq Hm xU p r (jL.mono (by decide)) fn (jO.mono (by decide)) fp (jS.mono (by decide)) ii (jU.mono (by decide)) fu jb eo
theorem XT{l:aij}{q:YZ}{b:List Yo}{i:(Yo->Option Yd)->YT->Prop}{e:Y6->YT->Prop}{d:DefRec}{K:Params->Yc}(hn:l.most=Ya 63)(c:d.params.defaults=[])
  (j:∀(w:Y6) (h:YT),e w h->(K w.params).In h)
  (F:∀(w:Y6) (mg:Yo->Option Yd) (g:Ye) (h:YT),(K w.params).In h->h.Ns ir mg->mg d.name=Ya (.ref g)->
   ∃fd:YD,(∀(s:Ym) (u:Yd),af3 s fd ⟨[u],[]⟩ [("_law_script",u)])/\∀base:YT,(K w.params).In base->base.Ns ir mg->aF l.prog w (K w.params) mg base bp 12 g fd ["_law_script"] (BP (K w.params))):
  ai1 q b i e l.row.toRowW d [] (λf vs=>PySem.call f vs):=
 L2.O7 (n:=63) (k:=12) (x:="_law_script") (CX:=λ_=>bp) (sp:=λw=>BP (K w.params)) hn (by decide) c ⟨rfl,by decide,by decide⟩ j F (λ_ _ a ns hl _ m=>⟨a,ns,rfl,m,hl,λ_=>rfl⟩) λ_ _ _ _ _ z=>z
end K45
end
section
open Lean in
local macro_rules | `(#synth $f $k*) => return mkNullNode (← k.mapM λi => `(def $(mkIdent (.mkSimple s!"tw{(`PySem.Challenge.cw_groupcall_k45_let_go_holds ++ .mkSimple s!"{f.raw.getId}_{i.raw.toNat}").hash}")) := Nat))
namespace PySem.W.Fast
#synth heap 39 46 798
#synth tree 47 108 135 150 205 207 286 315 344 394 460 533 663 743 797
#synth view 39
#synth sts 49 109 136 151 206 208 287 316 345 395 461 534 747
#synth o 43 45 46 49 51 53 54 55 56 57 58 60 61 62 63 64 65 67 68 69 70 71 72 74 75 76 77 79 80 81 82 84 85 86 87 89 90 91 92 94 95 96 97 99 100 101 102 104 105 106 107 108 109 111 112 113 114 116 117 118 119 120 121 122 123 124 125 126 127 129 130 131 132 133 134 135 136 138 139 140 141 142 144 145 146 147 148 149 150 151 153 154 155 156 157 159 160 161 163 164 165 166 167 168 169 170 171 172 173 175 176 177 178 179 180 182 183 184 185 186 187 189 190 191 192 193 194 196 197 198 199 201 202 203 204 205 206 207 208 210 211 212 213 215 216 217 219 220 221 222 223 224 226 227 228 229 230 231 233 234 235 236 237 238 240 241 242 243 244 245 247 248 249 250 251 252 254 255 256 257 258 259 261 262 263 264 265 266 268 269 270 271 272 273 275 276 277 278 279 280 281 282 283 284 285 286 287 289 290 291 292 293 295 296 297 299 300 301 302 303 304 306 307 308 309 310 311 312 313 314 315 316 318 319 320 321 322 324 325 326 328 329 330 331 332 333 335 336 337 338 339 340 341 342 343 344 345 347 348 349 350 351 353 354 355 357 358 359 360 361 362 364 365 366 367 368 369 370 371 372 373 374 376 377 378 379 380 381 383 384 385 386 387 388 390 391 392 393 394 395 397 398 399 400 402 403 404 406 407 408 409 411 412 413 414 415 416 418 419 420 421 422 423 425 426 427 428 429 430 432 433 434 435 437 438 439 440 441 442 444 445 446 447 449 450 451 452 453 454 455 456 457 458 459 460 461 463 465 466 467 468 469 470 472 473 474 475 476 477 479 480 481 482 483 484 486 487 488 489 490 491 493 494 495 496 497 498 500 501 502 503 504 505 507 508 509 510 512 513 514 515 517 518 519 520 522 523 524 525 526 527 529 530 531 532 533 534 536 537 538 539 541 542 543 545 546 547 548 549 550 552 553 554 555 556 557 559 560 561 562 563 564 566 567 568 569 570 571 573 574 575 576 577 578 580 581 582 583 585 586 587 588 589 590 592 593 594 595 596 598 599 600 601 603 604 605 606 607 608 610 611 612 613 614 615 617 618 619 620 621 622 624 625 626 627 628 629 631 632 633 634 635 636 638 639 640 641 642 643 645 646 647 648 649 650 652 653 654 655 656 657 658 659 660 661 662 663 665 666 667 668 670 671 672 674 675 676 677 678 679 681 682 683 684 685 686 688 689 690 691 692 693 695 696 697 698 699 700 702 703 704 705 706 707 709 710 711 712 714 715 716 717 718 719 721 722 723 724 725 727 728 729 730 732 733 734 735 736 737 739 740 741 742 743 747 749 751 752 753 754 755 756 758 759 760 761 762 763 765 766 767 768 770 771 772 773 775 776 777 778 780 781 782 783 785 786 787 788 790 791 792 793 795 796 797
#synth env 41
def tw2425326769026754726:=Nat
end PySem.W.Fast
end
open PySem PySem.W PyProof.Rows
set_option maxRecDepth 100000 in
set_option maxHeartbeats 0 in
theorem PySem.Challenge.cw_groupcall_k45_let_go_holds : PySem.Challenge.rw_groupcall_k45_let_go.Holds := by
 w_on;o_law;k_head;(case hw=>w_witness2)
 k_fill
 refine K45.XT (l:=PySem.Challenge.rw_groupcall_k45_let_go) rfl rfl (λw h Y=>PySem.W.kIn_of Y) ?F
 case F=>
  intro w mg fa h KX G hmg;refine' K45.UB KX G hmg ?h0 ?h1 ?h2 ?h3 ?h4 ?h5 ?h6 ?h7 ?h8 ?h9 ?h10 ?h11 ?h12 ?h13 ?h14 ?h15 ?h16 ?h17 ?h18 ?h19 ?h20 ?h21 ?h22 ?h23 ?h24 ?h25 ?h26 ?h27 ?h28 ?h29 ?h30 ?h31 ?h32 ?h33 ?h34 ?h35 ?h36 ?h37 ?h38 ?h39 ?h40 ?h41 ?h42 ?h43 ?h44 ?h45 ?h46 ?h47 ?h48 ?h49 ?h50 ?h51 ?h52 ?h53 ?h54 ?h55 ?h56 ?h57 ?h58 ?h59 ?h60 ?h61 ?h62 ?h63 ?h64 ?h65 ?h66 ?h67 ?h68 ?h69 ?h70 ?h71 ?h72 ?h73 ?h74 ?h75 ?h76 ?h77 ?h78 ?h79 ?h80 ?h81 ?h82 ?h83 ?h84 ?h85 ?h86 ?h87 ?h88 ?h89 ?h90 ?h91 ?h92 ?h93 ?h94 ?h95 ?h96 ?h97 ?h98 ?h99 ?h100 ?h101 ?h102 ?h103 ?h104 ?h105 ?h106 ?h107 ?h108 ?h109 ?h110 ?h111 ?h112 ?h113 ?h114 ?h115 ?h116 ?h117 ?h118 ?h119 ?h120 ?h121 ?h122 ?h123 ?h124 ?h125 ?h126 ?h127 ?h128 ?h129 ?h130 ?h131 ?h132 ?h133 ?h134 ?h135 ?h136 ?h137 ?h138 ?h139 ?h140 ?h141 ?h142 ?h143 ?h144 ?h145 ?h146 ?h147 ?h148 ?h149 ?h150 ?h151 ?h152 ?h153 ?h154 ?h155 ?h156 ?h157 ?h158 ?h159 ?h160 ?h161 ?h162 ?h163 ?h164 ?h165 ?h166 ?h167 ?h168 ?h169 ?h170 ?h171 ?h172 ?h173 ?h174 ?h175 ?h176 ?h177 ?h178 ?h179 ?h180 ?h181 ?h182 ?h183 ?h184 ?h185 ?h186 ?h187 ?h188 ?h189 ?h190 ?h191 ?h192 ?h193 ?h194 ?h195 ?h196
  (case h0|h1|h2|h3|h4|h5|h6|h7|h8|h9|h10|h11|h12|h13|h14|h15|h16|h17|h18|h19|h20|h21|h22|h23|h24|h25|h26|h27|h28|h29|h30|h31|h32|h33|h34|h35|h36|h37|h38|h39|h40|h41|h42|h43=>show _=_;k_is)
  (case h44|h45|h46|h47|h48|h49|h50|h51|h52|h53|h54|h55|h56|h57|h58|h59=>first|k_is|rfl|decide)
  (case h60|h61|h62|h63|h64|h65|h66|h67|h68|h69|h70|h71|h72|h73|h74|h75|h76|h77|h78|h79|h80|h81|h82|h83|h84|h85|h86|h87|h88|h89|h90|h91|h92|h93|h94|h95|h96|h97|h98|h99|h100|h101|h102=>constructor<;>k_is)
  (case h103=>first|k_is|rfl|decide)
  (case h104=>constructor<;>first|k_is|rfl)
  (case h105|h106|h107|h108|h109|h110|h111|h112|h113|h114|h115|h116|h117|h118|h119|h120|h121|h122|h123|h124|h125|h126|h127|h128|h129|h130|h131|h132|h133|h134|h135|h136|h137|h138|h139|h140|h141|h142|h143|h144|h145|h146|h147|h148|h149|h150|h151|h152|h153|h154|h155|h156|h157|h158|h159|h160|h161=>exact L2.NK (by k_is) (by k_is) (by k_is))
  (case h162=>exact L2.Pn (by k_is) (by k_is) (by k_is))
  (case h163|h164|h165|h166|h167|h168|h169|h170|h171|h172|h173|h174=>exact L2.NK (by k_is) (by k_is) (by k_is))
  (case h175=>first|k_is|rfl|decide)
  (case h176|h177|h178|h179|h180|h181=>constructor;(constructor<;>k_is);all_goals(show _=_;k_is))
  (case h182=>first|k_is|rfl|decide|kernel_rfl)
  (case h183=>rfl)
  (case h184|h185|h186|h187|h188=>first|k_is|rfl|decide)
  (case h189|h190=>rfl)
  (case h191=>first|k_is|rfl|decide|kernel_rfl)
  (case h192|h193=>first|k_is|rfl|decide)
  (case h194|h195=>first|k_is|rfl|decide|kernel_rfl)
  (case h196=>first|k_is|rfl|decide)
